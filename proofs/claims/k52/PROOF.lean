import PyProof.Rows.All
import Wide.All
import OpenK.AllK
import Wide.FinOn
import Lean
import PyProof.EqAt
import PyProof.EqKinds
import PyProof.TupleCall
import PyProof.MeetsSeq
import PyProof.NeKinds
import PyProof.TupleOfSeq
import PyProof.ListRange
import PyProof.TupleOfGen
import PyProof.ZipIter
import KE.KRevIter
import PyProof.StrWalks
import PyProof.StrBlock2
import PyProof.MeetsStr
import PyProof.StrCalls2
import PyProof.StrLawsIn
import KE.KIntText
import PyProof.StrLawsTight
import PyProof.StrLawsChain
import PyProof.StrLawsAffix
import PyProof.Rows.StrItems
import PyProof.Rows.ReprOcc
import KE.KDictSum
import PyProof.Rows.SeqMore
import KE.KDictList
import KE.KStateDown
import PyProof.StrBlockI
import PyProof.FactsAll.NoneType_1
import PyProof.FString2
import PyProof.TupleKey
import PySem.Challenge.RW_dipkin_k52_least_stretches_told
set_option Elab.async false
set_option linter.all false
set_option maxRecDepth 100000
set_option maxHeartbeats 4000000
set_option genSizeOfSpec false
set_option bootstrap.genMatcherCode false
set_option compiler.extract_closed false
set_option hygiene false
local macro_rules|`(tactic|omega)=>`(tactic|first|with_reducible assumption|lia|omega (config:={}))
local macro_rules | `(⋯)=>`(by omega)
local macro_rules | `(tactic|and_intros)=>`(tactic|first|exact .inl rfl|exact .inr rfl|assumption)
local macro_rules | `(tactic|ac_rfl)=>`(tactic|first|exact Or.inl rfl|exact Or.inr (Or.inl rfl)|exact Or.inr (Or.inr rfl))
local macro_rules | `(tactic|ac_nf)=>`(tactic|(intro _;rfl))
local macro_rules | `(tactic|infer_instance)=>`(tactic|exact ⟨rfl,rfl,rfl,by decide +kernel,rfl,by decide +kernel,by decide +kernel⟩)
local macro_rules | `(tactic|rfl')=>`(tactic|(obtain⟨x0,u0,rfl,h0⟩:=le1 hl;obtain⟨x1,u1,rfl,h1⟩:=le1 h0;obtain rfl:=le0 h1;exact rfl))
local macro_rules | `(nofun)=>`(by decide)
section
open PySem PySem.Spec PyProof.Rows
abbrev Ya:=@wpAny_bind
abbrev Yb:=@if_neg
abbrev Yc:=@Nat.le_refl
abbrev Yd:=@if_pos
abbrev Ye:=@wpAny_pure
abbrev Yf:=@List.getElem?_eq_getElem
abbrev Yg:=@wpS_bind
abbrev Yh:=@List.getD_eq_getElem?_getD
abbrev Yi:=@List.length_map
abbrev Yj:=@wpS_pure
abbrev Yk:=@List.mem_cons
abbrev Yl:=@Heap.lt_size
abbrev Ym:=@Heap.get?_push_of_some
abbrev Yn:=@List.mem_append_right
abbrev Yo:=@Nat.ne_of_lt
abbrev Yp:=@Array.length_toList
abbrev Yq:=@Nat.zero_le
abbrev Yr:=@Nat.le_trans
abbrev Ys:=@List.size_toArray
abbrev Yt:=@decide_eq_true
abbrev Yu:=@List.mem_cons_of_mem
abbrev Yv:=@List.mem_cons_self
abbrev Yw:=@List.getElem?_eq_some_iff
abbrev Yy:=@List.mem_range
abbrev Yz:=@decide_eq_false
abbrev YA:=@Nat.lt_irrefl
abbrev YB:=@List.mem_append
abbrev YC:=@Heap.get?_push_size
abbrev YD:=@Nat.lt_of_lt_of_le
abbrev YE:=@List.getElem?_map
abbrev YF:=@List.getElem_mem
abbrev YG:=@Nat.lt_of_le_of_lt
abbrev YH:=@wpAny_holding
abbrev YI:=@Array.getD_eq_getD_getElem?
abbrev YJ:=@wpAny_mono
abbrev YK:=@List.mem_map
abbrev YL:=@PySem.boot_len
abbrev YM:=@Option.some.inj
abbrev YN:=@List.length_cons
abbrev YO:=@wpAny_ite_split
abbrev YQ:=@List.mem_filter
abbrev YR:=@List.map_cons
abbrev YS:=@List.length_append
abbrev YT:=@of_decide_eq_true
abbrev YU:=@Nat.lt_succ_of_lt
abbrev YV:=@Array.getElem?_toList
abbrev YW:=@Bool.false_ne_true
abbrev YX:=@List.append_assoc
abbrev YY:=@List.mem_append_left
abbrev YZ:=@List.getElem_of_mem
abbrev Y2:=@List.mem_singleton
noncomputable abbrev Y3:=@Classical.propDecidable
abbrev Y4:=@List.getElem?_append_right
abbrev Y5:=@Nat.le_succ
abbrev Y6:=@List.length_range
abbrev Y7:=@Nat.le_of_lt
abbrev Y8:=@List.getElem?_append_left
abbrev Y9:=@List.length_take
abbrev Ja:=@List.range_succ
abbrev Jb:=@List.pairwise_cons
abbrev Jc:=@List.length_filter_le
abbrev Jd:=@List.take_add_one
abbrev Je:=@List.map_map
abbrev Jf:=@List.map_append
abbrev Jg:=@Int.eq_ofNat_of_zero_le
abbrev Jh:=@List.take_append_drop
abbrev Ji:=@Nat.le_of_eq
abbrev Jj:=@Int.toNat_natCast
abbrev Jk:=@List.getElem_append_left
abbrev Jl:=@List.length_drop
abbrev Jm:=@List.getElem_append_right
end
namespace Lake
open PySem PySem.Spec PyProof.Rows
noncomputable abbrev Key:=Sum Int Str
noncomputable def keyIs:Key->Value->Bool
 |.inl k,v=>Value.isInt k v
 |.inr x,v=>Value.isStrOf x v
noncomputable def keyH (w:World):Key->Int
 |.inl k=>hashInt k
 |.inr x=>hashStr w x
theorem Z4:∀{k:Key}{v:Value},keyIs k v=true->(∃i t,k=Sum.inl i/\v=Value.int i t)\/(∃x t,k=Sum.inr x/\v=Value.str x t)
 |.inl i,v,h=>by
  obtain⟨t,e⟩:=Value.isInt_shape (k:=i) (v:=v) h
  exact .inl ⟨i,t,rfl,e⟩
 |.inr x,v,h=>by
  obtain⟨t,e⟩:=Value.isStrOf_shape (x:=x) (v:=v) h
  exact .inr ⟨x,t,rfl,e⟩
theorem key_ll (a b:Int):decide ((Sum.inl a:Key)=Sum.inl b)=(a==b):=by
 by_cases e:a=b
 .subst e;simp
 .have h:¬ (Sum.inl a:Key)=Sum.inl b:=λq=>e (Sum.inl.inj q)
  rw[Yz h]
  exact(beq_eq_false_iff_ne.mpr e).symm
theorem key_rr (a b:Str):decide ((Sum.inr a:Key)=Sum.inr b)=decide (a=b):=by
 by_cases e:a=b
 .subst e;simp
 .have h:¬ (Sum.inr a:Key)=Sum.inr b:=λq=>e (Sum.inr.inj q)
  rw[Yz h,Yz e]
theorem key_lr (a:Int) (b:Str):decide ((Sum.inl a:Key)=Sum.inr b)=false:=Yz (λq=>nomatch q)
theorem key_rl (a:Str) (b:Int):decide ((Sum.inr a:Key)=Sum.inl b)=false:=Yz (λq=>nomatch q)
noncomputable def Zlo (prog:Program) (w:World):PySem.KeyKind prog w Key where
 is:=keyIs
 hash:=keyH w
 inj:=λv a b ha hb=>by
  rcases Z4 ha with⟨i,t,rfl,rfl⟩|⟨x,t,rfl,rfl⟩
  .rcases Z4 hb with⟨j,u,rfl,e⟩|⟨y,u,rfl,e⟩
   .injection e with e1 _;rw[e1]
   .exact nomatch e
  .rcases Z4 hb with⟨j,u,rfl,e⟩|⟨y,u,rfl,e⟩
   .exact nomatch e
   .injection e with e1 _;rw[e1]
 byValue:=λk v h=>by
  rcases Z4 h with⟨i,t,rfl,rfl⟩|⟨x,t,rfl,rfl⟩<;>rfl
 pyHash:=λhv h=>by
  rcases Z4 hv with⟨i,t,rfl,rfl⟩|⟨x,t,rfl,rfl⟩
  .exact wpAny_pyHash_int h
  .exact wpAny_pyHash_str h
 eqBool:=λhu hv h=>by
  rcases Z4 hu with⟨i,t,rfl,rfl⟩|⟨x,t,rfl,rfl⟩
  .rcases Z4 hv with⟨j,u,rfl,rfl⟩|⟨y,u,rfl,rfl⟩
   .rw[key_ll]at h;exact wpAny_eqBool_int h
   .rw[key_lr]at h;exact SeqAt.EqAt.int_str i t y u _ _ _ _ h
  .rcases Z4 hv with⟨j,u,rfl,rfl⟩|⟨y,u,rfl,rfl⟩
   .rw[key_rl]at h;exact SeqAt.EqAt.str_int x t j u _ _ _ _ h
   .rw[key_rr]at h;exact wpAny_eqBool_str h
 «strs»:=λk x t v h=>by
  rcases Z4 h with⟨i,u,rfl,e⟩|⟨y,u,rfl,e⟩
  .exact nomatch e
  .injection e with e1 _
   subst e1
   cases v<;>rfl
inductive V where
 |non|bl (b:Bool)|int (i:Int)|str (x:Str)|byt (b:Array UInt8)|flt (b:UInt64)|ref (a:Addr)|ty (n:String)
 deriving DecidableEq
noncomputable def RelV:V->Value->Prop
 |.non,u=>u=Value.none
 |.bl b,u=>u=Value.bool b
 |.int i,u=>∃t,u=Value.int i t
 |.str x,u=>∃t,u=Value.str x t
 |.byt b,u=>∃t,u=Value.bytes b t
 |.flt b,u=>∃t,u=Value.float b t
 |.ref a,u=>u=Value.ref a
 |.ty n,u=>u=Value.type n
noncomputable abbrev Vals:List V->List Value->Prop:=Paired RelV
theorem Vals.length {xs:List V}{us:List Value} (r:Vals xs us):xs.length=us.length:=Paired.length r
theorem Vals.get:∀{xs:List V}{us:List Value}{i:Nat}{x:V},Vals xs us->xs[i]?=some x->∃u,us[i]?=some u/\RelV x u
 |_,_,_,_,.nil,e=>by simp at e
 |_,_,0,_,.cons r _,e=>by simp at e;subst e;exact⟨_,rfl,r⟩
 |_,_,i+1,x,.cons _ t,e=>by
  obtain⟨u,h1,h2⟩:=Vals.get (i:=i) (x:=x) t (by simpa using e)
  exact⟨u,by simpa using h1,h2⟩
theorem Vals.set {x:V}{u:Value} (r:RelV x u):∀{xs:List V}{us:List Value} (i:Nat),Vals xs us->Vals (xs.set i x) (us.set i u)
 |_,_,_,.nil=>.nil
 |_,_,0,.cons _ t=>.cons r t
 |_,_,i+1,.cons q t=>.cons q (Vals.set r i t)
theorem Vals.append:∀{xs ys:List V}{us ws:List Value},Vals xs us->Vals ys ws->Vals (xs++ys) (us++ws)
 |_,_,_,_,.nil,s=>s
 |_,_,_,_,.cons r t,s=>.cons r (Vals.append t s)
theorem Vals.take:∀{xs:List V}{us:List Value} (n:Nat),Vals xs us->Vals (xs.take n) (us.take n)
 |_,_,0,_=>.nil
 |_,_,_+1,.nil=>.nil
 |_,_,n+1,.cons r t=>.cons r (Vals.take n t)
theorem Vals.drop:∀{xs:List V}{us:List Value} (n:Nat),Vals xs us->Vals (xs.drop n) (us.drop n)
 |_,_,0,r=>r
 |_,_,_+1,.nil=>.nil
 |_,_,n+1,.cons _ t=>Vals.drop n t
noncomputable def RelO:Option V->Option Value->Prop
 |some v,some u=>RelV v u
 |none,none=>True
 |_,_=>False
noncomputable def KV {κ:Type}:List (κ×V)->List (κ×Value)->Prop:=Paired λ(p:κ×V) (q:κ×Value)=>p.1=q.1/\RelV p.2 q.2
noncomputable def kV:Key->V
 |.inl i=>.int i
 |.inr x=>.str x
inductive HO where
 |lst (xs:List V)
 |tup (xs:List V)
 |dK (kvs:List (Key×V))|dT (kvs:List (List Key×V))
 |set (S:Int->Bool) (n:Nat)
 |ins (C dx:Addr) (fs:List (Str×V))
 |own (x:Addr)
 |xd (fs:List (Str×V))
 |met (f x:Addr)
 |rng (lo hi:Int)
 |frz (o:Obj) (u:HO)
 |tbl (ps:Array Value)
 |ext (φ:Heap->Prop)
noncomputable abbrev Hp:=Addr->Option HO
noncomputable def upd (H:Hp) (a:Addr) (o:HO):Hp:=λb=>if b=a then some o else H b
theorem Zc {H:Hp}{a:Addr}{o:HO}:upd H a o a=some o:=by unfold upd;rw[Yd rfl]
theorem Zh {H:Hp}{a b:Addr}{o:HO} (h:b≠a):upd H a o b=H b:=by unfold upd;rw[Yb h]
theorem Zw {H:Hp}{a b:Addr}{o:HO} (h:H a=some o) (h':H b=none):a≠b:=by
 intro e;subst e;rw[h]at h';cases h'
section
variable (P:Program) (w:World)
noncomputable def Zak (H:Hp) (h:Heap) (a:Addr):HO->Prop
 |.lst xs=>xs.length<=sizeLine/\∃(its:List Value) (n:Nat),Vals xs its/\h.get? a=some {cls:=.type "list",data:=.seq its.toArray n}
 |.tup xs=>xs.length<=sizeLine/\∃its:List Value,Vals xs its/\IsTup h a its.toArray
 |.dK kvs=>kvs.length<=sizeLine/\(a==sysModules)=false/\∃vs,KV kvs vs/\h.DictOf (Zlo P w) a vs
 |.dT kvs=>kvs.length<=sizeLine/\(a==sysModules)=false/\∃xs:List (List Key×Addr×Value),
   Paired (λ(p:List Key×V) (q:List Key×Addr×Value)=>p.1=q.1/\H q.2.1=some (.tup (p.1.map kV))/\RelV p.2 q.2.2) kvs xs /\
   ∃o es ep,h.get? a=some o/\o.ExactDict/\o.data=.dict es ep/\es.toList=xs.map (entryOfKey (tupleKind (Zlo P w)))/\(xs.map (·.1)).Nodup
 |.set S n=>h.SetOf (intKind P w) a S n
 |.ins C dx fs=>H dx=some (.own a)/\fs.length<=1000/\dx≠a/\h.get? a=some (PySem.W.instObj C dx) /\
   ∃mA,h.Ns1 dx mA/\(∀f,RelO (fs.lookup f) (mA f))/\PySem.Within mA (fs.map (·.1))
 |.own _=>∃o,h.get? a=some o
 |.xd fs=>∃mA,h.Ns1 a mA/\∀f,RelO (fs.lookup f) (mA f)
 |.rng lo hi=>∃t u v,h.get? a=some {cls:=.type "range",data:=.fields #[.int lo t,.int hi u,.int 1 v]}
 |.frz o u=>h.get? a=some o/\Zak H h a u
 |.tbl ps=>∃ts:Array Value,h.get? a=some {cls:=.none,data:=.fields ts}/\TriplesOk ts.toList/\∀pos cv,codeAmong pos ts.toList=some cv->∃c oc vs q t t',cv=.ref c/\H c=some (.frz oc (.own a))/\oc.data=.fields vs/\ps[0]?=some (.str q t)/\vs[1]?=some (.str q t')
 |.met f x=>h.get? a=some (PySem.W.methodObj (.ref f) (.ref x))
 |.ext φ=>φ h/\(∃o,h.get? a=some o)/\∀h1 h2:Heap,φ h1->(∀o,h1.get? a=some o->h2.get? a=some o)->φ h2
noncomputable def HOk (H:Hp) (h:Heap):Prop:=∀a o,H a=some o->Zak P w H h a o
end
section
variable {P:Program}{w:World}{H H':Hp}{h h':Heap}{a:Addr}{o:HO}
theorem Zak.lt (x:Zak P w H h a o):a<h.objs.size:=by
 cases o with
 |lst xs=>obtain⟨_,_,_,_,e⟩:=x;exact Yl e
 |tup xs=>obtain⟨_,_,_,p⟩:=x;exact p.lt
 |dK kvs=>obtain⟨_,_,_,_,o,_,_,e,_⟩:=x;exact Yl e
 |dT kvs=>obtain⟨_,_,_,_,o,_,_,e,_⟩:=x;exact Yl e
 |set S n=>obtain⟨o,_,_,_,e,_⟩:=x;exact Yl e
 |ins C dx fs=>obtain⟨_,_,_,e,_⟩:=x;exact Yl e
 |own y=>obtain⟨_,e⟩:=x;exact Yl e
 |xd fs=>obtain⟨_,⟨_,_,_,e,_⟩,_⟩:=x;exact Yl e
 |rng lo hi=>obtain⟨_,_,_,e⟩:=x;exact Yl e
 |frz ob u=>obtain⟨e,_⟩:=x;exact Yl e
 |tbl ps=>obtain⟨_,e,_⟩:=x;exact Yl e
 |met f y=>exact Yl (show h.get? a=some _ from x)
 |ext φ=>obtain⟨_,⟨_,e⟩,_⟩:=x;exact Yl e
theorem Paired.mapP {α β:Type}{F G:α->β->Prop}:∀{l₁:List α}{l₂:List β},Paired F l₁ l₂->(∀a b,F a b->G a b)->Paired G l₁ l₂
 |_,_,.nil,_=>.nil
 |_,_,.cons r t,f=>.cons (f _ _ r) (Paired.mapP t f)
theorem Zak.ZiE (x:Zak P w H h a o) (k:∀b u,(b=a\/H b=some (.own a))->h.get? b=some u->h'.get? b=some u)
  (ho:∀b,H b=some (.own a)->H' b=some (.own a)) (ht:∀b xs,H b=some (.tup xs)->H' b=some (.tup xs)) (hz:∀b o u,H b=some (.frz o u)->H' b=some (.frz o u)):Zak P w H' h' a o:=by
 induction o with
 |lst xs=>obtain⟨z,its,n,r,e⟩:=x;exact⟨z,its,n,r,k _ _ (.inl rfl) e⟩
 |tup xs=>obtain⟨z,its,r,ob,e,c⟩:=x;exact⟨z,its,r,ob,k _ _ (.inl rfl) e,c⟩
 |dK kvs=>obtain⟨z,y,vs,r,ob,es,ep,e,c⟩:=x;exact⟨z,y,vs,r,ob,es,ep,k _ _ (.inl rfl) e,c⟩
 |dT kvs =>
  obtain⟨z,y,xs,r,ob,es,ep,e,c⟩:=x
  exact⟨z,y,xs,Paired.mapP r λp q z=>⟨z.1,ht _ _ z.2.1,z.2.2⟩,ob,es,ep,k _ _ (.inl rfl) e,c⟩
 |set S n=>obtain⟨ob,es,ep,t,e,c⟩:=x;exact⟨ob,es,ep,t,k _ _ (.inl rfl) e,c⟩
 |ins C dx fs =>
  obtain⟨d,z,ne,e,mA,⟨od,es,ep,e2,c⟩,r⟩:=x
  exact⟨ho _ d,z,ne,k _ _ (.inl rfl) e,mA,⟨od,es,ep,k _ _ (.inr d) e2,c⟩,r⟩
 |own y=>obtain⟨ob,e⟩:=x;exact⟨ob,k _ _ (.inl rfl) e⟩
 |xd fs=>obtain⟨mA,⟨od,es,ep,e,c⟩,r⟩:=x;exact⟨mA,⟨od,es,ep,k _ _ (.inl rfl) e,c⟩,r⟩
 |rng lo hi=>obtain⟨t,u,v,e⟩:=x;exact⟨t,u,v,k _ _ (.inl rfl) e⟩
 |frz ob u ih=>obtain⟨e,q⟩:=x;exact⟨k _ _ (.inl rfl) e,ih q⟩
 |tbl ps =>
  obtain⟨ts,e,t3,z⟩:=x
  refine⟨ts,k a _ (.inl rfl) e,t3,λpos cv hc=>?_⟩
  obtain⟨c,oc,vs,q,t,t',e1,e2,r⟩:=z pos cv hc
  exact⟨c,oc,vs,q,t,t',e1,hz _ _ _ e2,r⟩
 |met f y =>
  have e:h.get? a=some (PySem.W.methodObj (.ref f) (.ref y)):=x
  show h'.get? a=some (PySem.W.methodObj (.ref f) (.ref y))
  exact k a _ (.inl rfl) e
 |ext φ=>obtain⟨p,⟨o,e⟩,st⟩:=x;exact⟨st _ _ p λo q=>k _ _ (.inl rfl) q,⟨o,k _ _ (.inl rfl) e⟩,st⟩
theorem HOk.lt (x:HOk P w H h) (e:H a=some o):a<h.objs.size:=(x a o e).lt
theorem HOk.fresh (x:HOk P w H h) (e:h.objs.size<=a):H a=none:=by
 cases q:H a with
 |none=>rfl
 |some u=>exact absurd (YD (x.lt q) e) (YA _)
theorem HOk.kept (x:HOk P w H h) (k:∀b u,h.get? b=some u->h'.get? b=some u):HOk P w H h':=λa o e =>
 (x a o e).ZiE (λb u _ q=>k b u q) (λ_ q=>q) (λ_ _ q=>q) λ_ _ _ q=>q
theorem HOk.laid (x:HOk P w H h) (k:∀b u,h.get? b=some u->h'.get? b=some u) (hp:h.objs.size<=a) (new:Zak P w (upd H a o) h' a o):HOk P w (upd H a o) h':=λb u e=>by
 have hn:=x.fresh hp
 by_cases hb:b=a
 .subst hb;rw[Zc]at e;cases e;exact new
 .rw[Zh hb]at e
  exact(x b u e).ZiE (λc v _ q=>k c v q) (λc q=>by rw[Zh (Zw q hn)];exact q) (λc xs q=>by rw[Zh (Zw q hn)];exact q) λc o u q=>by rw[Zh (Zw q hn)];exact q
end
noncomputable def Rd (H:Hp) (a:Addr) (u:HO):Prop:=H a=some u\/∃o,H a=some (.frz o u)
theorem Rd.ok {P:Program}{w:World}{H:Hp}{h:Heap}{a:Addr}{u:HO} (r:Rd H a u) (x:HOk P w H h):Zak P w H h a u:=by
 rcases r with r|⟨o,r⟩
 .exact x a u r
 .obtain⟨_,q⟩:=x a _ r
  exact q
noncomputable def Mut:Option HO->Prop
 |some (.lst _)=>True
 |some (.dK _)=>True
 |some (.dT _)=>True
 |some (.set _ _)=>True
 |some (.ins _ _ _)=>True
 |some (.ext _)=>True
 |_=>False
section
variable {P:Program}{w:World}{H:Hp}{h h':Heap}{x e:Addr}{o':HO}
theorem HOk.write (ok:HOk P w H h) (mu:Mut (H x)) (he:e=x\/H e=some (.own x)) (k:∀b u,b≠e->h.get? b=some u->h'.get? b=some u) (heo:∃u,h'.get? e=some u)
  (new:Zak P w (upd H x o') h' x o'):HOk P w (upd H x o') h':=λb u q=>by
 have nown:∀c y,H c=some (.own y)->c≠x:=λc y r z=>by subst z;rw[r]at mu;exact mu
 have ntup:∀c xs,H c=some (.tup xs)->c≠x:=λc xs r z=>by subst z;rw[r]at mu;exact mu
 have nfrz:∀c o u,H c=some (.frz o u)->c≠x:=λc o u r z=>by subst z;rw[r]at mu;exact mu
 by_cases hb:b=x
 .subst hb;rw[Zc]at q;cases q;exact new
 .rw[Zh hb]at q
  by_cases hbe:b=e
  .have q':H b=some (.own x):=by
    rcases he with z|z
    .exact absurd (hbe.trans z) hb
    .rw[hbe];exact z
   rw[q]at q';cases q'
   obtain⟨v,hv⟩:=heo
   exact⟨v,by rw[hbe];exact hv⟩
  .refine(ok b u q).ZiE (λc v hc r=>k c v ?_ r) (λc r=>by rw[Zh (nown c b r)];exact r) (λc xs r=>by rw[Zh (ntup c xs r)];exact r) λc o u r=>by rw[Zh (nfrz c o u r)];exact r
   rcases hc with rfl|hc
   .exact hbe
   .rintro rfl
    rcases he with z|z
    .exact nown c b hc z
    .rw[hc]at z;cases z;exact hb rfl
end
structure Un (fs ex:List Addr) (H H':Hp) (h h':Heap):Prop where
 keep:∀b o,h.get? b=some o->H b=none->b∉fs->b∉ex->h'.get? b=some o
 slot:∀b o,h.get? b=some o->H b=none->b∈fs->b∉ex->∃sl,h'.get? b=some {o with slots:=sl}
 free:∀b o,h.get? b=some o->H b=none->b∉ex->H' b=none
 there:∀b o,h.get? b=some o->b∉ex->∃o',h'.get? b=some o'
 tups:∀b xs,H b=some (.tup xs)->H' b=some (.tup xs)
 frzs:∀b o u,H b=some (.frz o u)->H' b=some (.frz o u)
 tbls:∀b ps,H b=some (.tbl ps)->∃more,H' b=some (.tbl (ps++more))
section
variable {fs fs' ex ex':List Addr}{H H1 H2:Hp}{h h1 h2 h':Heap}{a x e:Addr}{o:HO}
theorem Un.any (u:Un fs ex H H1 h h1) {b:Addr}{ob:Obj} (q:h.get? b=some ob) (n:H b=none) (hx:b∉ex):∃sl,h1.get? b=some {ob with slots:=sl}:=by
 by_cases hb:b∈fs
 .exact u.slot b ob q n hb hx
 .exact⟨ob.slots,u.keep b ob q n hb hx⟩
theorem Un.kept (k:∀b u,h.get? b=some u->h'.get? b=some u):Un fs ex H H h h' :=
 ⟨λb ob q _ _ _=>k b ob q,λb ob q _ _ _=>⟨ob.slots,k b ob q⟩,λ_ _ _ n _=>n,λb ob q _=>⟨ob,k b ob q⟩,λ_ _ q=>q,λ_ _ _ q=>q,λ_ ps q=>⟨#[],by rw[q];simp⟩⟩
theorem Un.refl:Un fs ex H H h h:=Un.kept λ_ _ q=>q
theorem Un.laid (k:∀b u,h.get? b=some u->h'.get? b=some u) (hp:h.objs.size<=a) (hn:H a=none):Un fs ex H (upd H a o) h h' where
 keep:=λb u q _ _ _=>k b u q
 slot:=λb u q _ _ _=>⟨u.slots,k b u q⟩
 free:=λb u q n _=>by rw[Zh (Yo (YD (Yl q) hp))];exact n
 there:=λb u q _=>⟨u,k b u q⟩
 tups:=λb xs q=>by rw[Zh (Zw q hn)];exact q
 frzs:=λb u xs q=>by rw[Zh (Zw q hn)];exact q
 tbls:=λb ps q=>⟨#[],by rw[Zh (Zw q hn),q];simp⟩
theorem Un.write (mu:Mut (H x)) (he:e=x\/H e=some (.own x)) (k:∀b u,b≠e->h.get? b=some u->h'.get? b=some u) (heo:∃u,h'.get? e=some u):Un fs ex H (upd H x o) h h':=by
 have hx:∀b,H b=none->b≠x:=λb n z=>by subst z;rw[n]at mu;exact mu
 have hb:∀b,H b=none->b≠e:=λb n z=>by
  subst z
  rcases he with r|r
  .exact hx b n r
  .rw[n]at r;cases r
 have hm:∀b u,H b=some u->¬ Mut (some u)->b≠x:=λb u q nm z=>by subst z;rw[q]at mu;exact nm mu
 refine⟨λb u q n _ _=>k b u (hb b n) q,λb u q n _ _=>⟨u.slots,k b u (hb b n) q⟩,λb u q n _=>by rw[Zh (hx b n)];exact n,λb u q _=>?_,
  λb xs q=>by rw[Zh (hm b _ q λz=>z)];exact q,λb u xs q=>by rw[Zh (hm b _ q λz=>z)];exact q,λb ps q=>⟨#[],by rw[Zh (hm b _ q λz=>z),q];simp⟩⟩
 by_cases hbe:b=e
 .subst hbe;exact heo
 .exact⟨u,k b u hbe q⟩
end
noncomputable def trk (h:Heap) (H:Hp):List Addr:=(List.range h.objs.size).filter λa=>(H a).isSome
noncomputable def Zkc (h:Heap) (H:Hp):Heap:=PySem.W.hideAll h (trk h H)
theorem Zqe (h:Heap) (H:Hp):(Zkc h H).objs.size=h.objs.size:=PySem.W.hideAll_size _ _
theorem Zrw {h:Heap}{H:Hp}{b:Addr}{o:Obj} (e:h.get? b=some o) (n:H b=none):(Zkc h H).get? b=some o :=
 PySem.W.hideAll_get _ e λhm=>by
  have q:(H b).isSome=true:=(YQ.mp hm).2
  rw[n]at q;simp at q
theorem Zuy {h:Heap}{H:Hp}{b:Addr}{o:Obj} (e:(Zkc h H).get? b=some o):h.get? b=some o/\H b=none:=by
 have e':h.get? b=some o:=PySem.W.of_hideAll (trk h H) e
 refine⟨e',?_⟩
 cases q:H b with
 |none=>rfl
 |some x =>
  have hm:b∈trk h H:=YQ.mpr ⟨Yy.mpr (Yl e'),by simp[q]⟩
  have z:(Zkc h H).get? b=none:=PySem.W.hideAll_none (trk h H) hm
  rw[z]at e;cases e
noncomputable def Zuz (g h:Heap) (L:Addr):List (Addr×Obj):=(List.range h.objs.size).filterMap λa=>if a=L\/(g.get? a).isSome=true then none else (h.get? a).map λo=>(a,o)
noncomputable def rest (g h:Heap) (L d:Addr):List (Addr×Obj):=(Zuz g h L).filter λp=>decide (p.1≠d)
structure Mod (K:PySem.W.Frag) (mg:Str->Option Value) (base:Heap):Prop where
 kin:K.In base
 glob:base.Ns mainGlobals mg
 blt:∃mb,base.Ns builtinsNs mb/\∀x:Str,x≠"__name__"->mb x=bootBuiltins x
 nolimit:base.NoLimit
structure Cx where
 prog:Program
 w:World
 K:PySem.W.Frag
 mg:Str->Option Value
 base:Heap
 A:Around
 N:List Str
 s₀:Shared
 H₀:Hp
 env:Env
 outer:List Env
 stack:List Env
 ex:List Addr
 fn:Str->Bool
 calm:Bool
 pn:List (Addr×Obj)
 xe:Value->Shared->Prop
noncomputable def frs (l:List Env):List Addr:=l.filterMap (·.frame)
noncomputable abbrev Cx.fs (X:Cx):List Addr:=frs X.outer
noncomputable def Vis (sc:Scope) (x:Str):Prop:=sc.names.lookup x=some .local\/sc.names.lookup x=some .cell\/sc.names.lookup x=some .free
noncomputable def Loc (sc:Scope) (x:Str):Prop:=sc.names.lookup x=some .local\/sc.names.lookup x=some .cell
noncomputable def Look (env:Env) (h:Heap) (m:Str->Option Value) (x:Str) (u:Value):Prop :=
 (env.kindOf x=some .local/\m x=some u)\/((env.kindOf x=some .cell\/env.kindOf x=some .free)/\∃c,env.cells.lookup x=some c/\h.IsCell c (some u))
structure Cx.Ok (X:Cx):Prop where
 mod:Mod X.K X.mg X.base
 kind:X.env.scope.kind=.function
 glob:X.env.globals=mainGlobals
 blt:X.env.builtins=builtinsNs
 above:X.s₀.heap.objs.size<=X.env.locals
 inj:∀x y c,X.env.cells.lookup x=some c->X.env.cells.lookup y=some c->x=y
 has:∀x,(X.env.kindOf x=some .cell\/X.env.kindOf x=some .free)->∃c,X.env.cells.lookup x=some c
 cab:∀x c,X.fn x=true->X.env.cells.lookup x=some c->X.s₀.heap.objs.size<=c
 hd:X.calm=true->X.A.handled=none
 frames:X.A.frames=some X.stack
 stk:X.stack=X.outer\/(X.stack=X.env::X.outer/\X.env.frame=some X.env.locals)
 exf:∀b∈X.ex,b≠X.env.locals/\∀x c,X.env.cells.lookup x=some c->c≠b
 bs:∀b o,X.base.get? b=some o->X.s₀.heap.get? b=some o/\X.H₀ b=none
 bsz:X.base.objs.size<=X.s₀.heap.objs.size
 noex:∀b o,X.base.get? b=some o->b∉X.ex
 exfs:∀b∈X.ex,b∉X.fs
 funs:X.s₀.heap.FunFrames X.base X.outer
 frf:∀b∈X.fs,X.H₀ b=none
structure Inv (X:Cx) (pins:List (Addr×Obj)) (σ:List (Option V)) (H:Hp) (s:Shared):Prop where
 ok:X.Ok
 os:s.os=X.s₀.os
 bare:AllBare s.gens
 base:Un X.fs X.ex X.H₀ H X.s₀.heap s.heap
 loc:∃m,s.heap.Ns X.env.locals m/\∀(i:Nat) (x:Str) (v:V),X.N[i]?=some x->σ[i]?=some (some v)->Vis X.env.scope x->∃u,RelV v u/\Look X.env s.heap m x u
 cell:∀x c,X.env.cells.lookup x=some c->∃v,s.heap.IsCell c v
 free:H X.env.locals=none
 freeC:∀x c,X.env.cells.lookup x=some c->H c=none
 pin:∀p∈X.pn++pins,s.heap.get? p.1=some p.2/\H p.1=none/\p.1≠X.env.locals/\p.1∉X.fs/\∀v,p.2.data≠.cell v
 hok:HOk X.prog X.w H s.heap
 len:σ.length=X.N.length
section
variable {X:Cx}{pins:List (Addr×Obj)}{σ:List (Option V)}{H H':Hp}{s:Shared}{h':Heap}
theorem Cx.Ok.nofr (ok:X.Ok) {b:Addr}{o:Obj} (e:X.base.get? b=some o):b∉X.fs:=λhb=>by
 have:=(ok.funs.mem hb).1
 rw[e]at this;cases this
theorem Inv.bs (I:Inv X pins σ H s):∀b o,X.base.get? b=some o->s.heap.get? b=some o/\H b=none:=λb o e =>
 ⟨I.base.keep b o (I.ok.bs b o e).1 (I.ok.bs b o e).2 (I.ok.nofr e) (I.ok.noex b o e),I.base.free b o (I.ok.bs b o e).1 (I.ok.bs b o e).2 (I.ok.noex b o e)⟩
theorem Inv.bk (I:Inv X pins σ H s):∀b o,X.base.get? b=some o->s.heap.get? b=some o:=λb o e=>(I.bs b o e).1
theorem Inv.mod (I:Inv X pins σ H s):Mod X.K X.mg X.base:=I.ok.mod
theorem Inv.kIn (I:Inv X pins σ H s):X.K.In s.heap:=I.ok.mod.kin.keeps I.bk
theorem Inv.nolimit (I:Inv X pins σ H s):s.heap.NoLimit:=I.ok.mod.nolimit.keeps I.bk
theorem Inv.lt (I:Inv X pins σ H s):X.env.locals<s.heap.objs.size:=let ⟨_,hn,_⟩:=I.loc;hn.lt
theorem Inv.sz (I:Inv X pins σ H s):X.s₀.heap.objs.size<=s.heap.objs.size:=Yr I.ok.above (Y7 I.lt)
theorem Inv.Zmx (I:Inv X pins σ H s) {a:Addr} (h:s.heap.objs.size<=a):a∉X.fs:=λhb=>by
 obtain⟨_,o,ho,_⟩:=I.ok.funs.mem hb
 exact absurd (YD (Yl ho) (Yr I.sz h)) (YA _)
theorem Inv.cne (I:Inv X pins σ H s):∀x c,X.env.cells.lookup x=some c->c≠X.env.locals:=λx c e z=>by
 obtain⟨v,o,ho,hd⟩:=I.cell x c e
 obtain⟨m,⟨o',es,ep,ho',hd',_⟩,_⟩:=I.loc
 rw[z,ho']at ho;cases ho;rw[hd']at hd;cases hd
theorem Inv.funs (I:Inv X pins σ H s):s.heap.FunFrames X.base X.outer:=by
 have all:∀(l:List Env),(∀b∈frs l,b∈X.fs)->X.s₀.heap.FunFrames X.base l->s.heap.FunFrames X.base l:=by
  intro l
  induction l with
  |nil=>intro _ _;trivial
  |cons env r ih =>
   intro hs hl
   obtain⟨hk,⟨L,o,hf,hn,ho,hd⟩,hr⟩:=hl
   have hL:L∈X.fs:=hs L (by unfold frs;rw[List.filterMap_cons,hf];exact Yv)
   obtain⟨sl,e⟩:=I.base.slot L o ho (I.ok.frf L hL) hL λz=>I.ok.exfs L z hL
   exact⟨hk,⟨L,_,hf,hn,e,hd⟩,ih (λb hb=>hs b (by unfold frs;rw[List.filterMap_cons,hf];exact Yu _ hb)) hr⟩
 exact all X.outer (λ_ hb=>hb) I.ok.funs
theorem Inv.stack (I:Inv X pins σ H s):s.heap.FunFrames X.base X.stack:=by
 rcases I.ok.stk with e|⟨e,hf⟩
 .rw[e];exact I.funs
 .rw[e]
  obtain⟨m,hn,_⟩:=I.loc
  refine .cons (by rw[I.ok.kind];decide) hf hn ?_ I.funs
  exact Heap.get?_none_of_le (Yr I.ok.bsz I.ok.above)
theorem Inv.Zfp (I:Inv X pins σ H s):∀b∈frs X.stack,b∈X.env.locals::X.fs:=λb hb=>by
 rcases I.ok.stk with e|⟨e,hf⟩
 .rw[e]at hb;exact Yu _ hb
 .rw[e]at hb
  unfold frs at hb
  rw[List.filterMap_cons,hf]at hb
  exact hb
theorem Inv.Zg4 (I:Inv X pins σ H s):∀b∈frs X.stack,H b=none:=λb hb=>by
 rcases Yk.mp (I.Zfp b hb)with e|hb
 .rw[e];exact I.free
 .obtain⟨_,o,ho,_⟩:=I.ok.funs.mem hb
  exact I.base.free b o ho (I.ok.frf b hb) λz=>I.ok.exfs b z hb
theorem Inv.step {g':Array GenState}{t':Nat}{d':Drawn}{ch:List Addr} (I:Inv X pins σ H s)
  (hch:∀b∈ch,(b∈X.ex\/X.s₀.heap.objs.size<=b)/\b≠X.env.locals/\(∀x c,X.env.cells.lookup x=some c->c≠b)/\∀p∈X.pn++pins,p.1≠b)
  (keep:∀b o,b≠X.env.locals->b∉X.fs->b∉ch->s.heap.get? b=some o->H b=none->h'.get? b=some o)
  (slot:∀b o,b≠X.env.locals->b∈X.fs->b∉ch->s.heap.get? b=some o->H b=none->∃sl,h'.get? b=some {o with slots:=sl}) (free:∀b o,b∉ch->s.heap.get? b=some o->H b=none->H' b=none)
  (there:∀b o,b∉ch->s.heap.get? b=some o->∃o',h'.get? b=some o')
  (tups:∀b xs,H b=some (.tup xs)->H' b=some (.tup xs)) (frzs:∀b o u,H b=some (.frz o u)->H' b=some (.frz o u)) (tbls:∀b ps,H b=some (.tbl ps)->∃more,H' b=some (.tbl (ps++more)))
  (ns:∀m,s.heap.Ns X.env.locals m->h'.Ns X.env.locals m) (hok:HOk X.prog X.w H' h') (hg:AllBare g') :
  Inv X pins σ H' {s with heap:=h',gens:=g',drawn:=d',toks:=t'}:=by
 have neL:∀b o,X.s₀.heap.get? b=some o->b≠X.env.locals:=λb o e=>Yo (YD (Yl e) I.ok.above)
 have neC:∀b o,X.s₀.heap.get? b=some o->b∉X.ex->b∉ch:=λb o e hx hb=>by
  rcases(hch b hb).1 with z|z
  .exact hx z
  .exact absurd (YD (Yl e) z) (YA _)
 have cellK:∀x c,X.env.cells.lookup x=some c->∀v,s.heap.IsCell c v->h'.IsCell c v:=λx c e v ⟨o,ho,hd⟩=>by
  have nch:c∉ch:=λz=>(hch c z).2.2.1 x c e rfl
  by_cases hc:c∈X.fs
  .obtain⟨sl,q⟩:=slot c o (I.cne x c e) hc nch ho (I.freeC x c e)
   exact⟨_,q,hd⟩
  .exact⟨o,keep c o (I.cne x c e) hc nch ho (I.freeC x c e),hd⟩
 refine⟨I.ok,I.os,hg,⟨λb o e n hb hx=>?_,λb o e n hb hx=>?_,λb o e n hx=>?_,λb o e hx=>?_,λb xs e=>tups b xs (I.base.tups b xs e),λb o xs e=>frzs b o xs (I.base.frzs b o xs e),λb ps e=>?_⟩,?_,λx c e=>?_,?_,λx c e=>?_,λp hp=>?_,hok,I.len⟩
 .exact keep b o (neL b o e) hb (neC b o e hx) (I.base.keep b o e n hb hx) (I.base.free b o e n hx)
 .obtain⟨sl,e1⟩:=I.base.slot b o e n hb hx
  obtain⟨sl',e2⟩:=slot b _ (neL b o e) hb (neC b o e hx) e1 (I.base.free b o e n hx)
  exact⟨sl',e2⟩
 .obtain⟨o',e1⟩:=I.base.there b o e hx
  exact free b o' (neC b o e hx) e1 (I.base.free b o e n hx)
 .obtain⟨o',e1⟩:=I.base.there b o e hx
  exact there b o' (neC b o e hx) e1
 .obtain⟨m1,e1⟩:=I.base.tbls b ps e
  obtain⟨m2,e2⟩:=tbls b _ e1
  exact⟨m1++m2,by rw[e2,Array.append_assoc]⟩
 .obtain⟨m,hn,hl⟩:=I.loc
  refine⟨m,ns m hn,λi x v e1 e2 e3=>?_⟩
  obtain⟨u,r,l⟩:=hl i x v e1 e2 e3
  refine⟨u,r,?_⟩
  rcases l with l|⟨k,c,e,z⟩
  .exact .inl l
  .exact .inr ⟨k,c,e,cellK x c e _ z⟩
 .obtain⟨v,z⟩:=I.cell x c e
  exact⟨v,cellK x c e v z⟩
 .obtain⟨m,⟨o,_,_,ho,_⟩,_⟩:=I.loc
  exact free _ o (λz=>(hch _ z).2.1 rfl) ho I.free
 .obtain⟨v,o,ho,hd⟩:=I.cell x c e
  exact free c o (λz=>(hch c z).2.2.1 x c e rfl) ho (I.freeC x c e)
 .obtain⟨e,n,ne,nf,d⟩:=I.pin p hp
  have nch:p.1∉ch:=λz=>(hch p.1 z).2.2.2 p hp rfl
  exact⟨keep p.1 p.2 ne nf nch e n,free p.1 p.2 nch e n,ne,nf,d⟩
theorem Inv.un {t':Nat} (I:Inv X pins σ H s) (u:Un X.fs [] H H' s.heap h') (hok:HOk X.prog X.w H' h'):Inv X pins σ H' {s with heap:=h',toks:=t'}:=by
 obtain⟨m,⟨o,es,ep,ho,r⟩,_⟩:=id I.loc
 obtain⟨sl,hL⟩:=u.any ho I.free (by simp)
 exact I.step (g':=s.gens) (d':=s.drawn) (ch:=[]) (λ_ z=>nomatch z) (λb o _ hb _ e n=>u.keep b o e n hb (by simp)) (λb o _ hb _ e n=>u.slot b o e n hb (by simp)) (λb o _ e n=>u.free b o e n (by simp)) (λb o _ e=>u.there b o e (by simp)) u.tups u.frzs u.tbls (λm' hm=>by
  obtain⟨o',es',ep',ho',r'⟩:=hm
  rw[ho]at ho';cases ho'
  exact⟨_,es',ep',hL,r'⟩) hok I.bare
theorem Inv.call {g':Array GenState}{t':Nat}{d':Drawn}{ch:List Addr} (I:Inv X pins σ H s) (u:Un (frs X.stack) ch H H' s.heap h') (hok:HOk X.prog X.w H' h') (hg:AllBare g')
  (hch:∀b∈ch,(b∈X.ex\/X.s₀.heap.objs.size<=b)/\b≠X.env.locals/\(∀x c,X.env.cells.lookup x=some c->c≠b)/\∀p∈X.pn++pins,p.1≠b) :
  Inv X pins σ H' {s with heap:=h',gens:=g',drawn:=d',toks:=t'}:=by
 obtain⟨m,⟨o,es,ep,ho,r⟩,_⟩:=id I.loc
 obtain⟨sl,hL⟩:=u.any ho I.free λz=>(hch _ z).2.1 rfl
 exact I.step (ch:=ch) hch (λb o hL hb hc e n=>u.keep b o e n (λz=>(Yk.mp (I.Zfp b z)).elim hL hb) hc) (λb o _ _ hc e n=>u.any e n hc) (λb o hc e n=>u.free b o e n hc) (λb o hc e=>u.there b o e hc) u.tups u.frzs u.tbls (λm' hm=>by
  obtain⟨o',es',ep',ho',r'⟩:=hm
  rw[ho]at ho';cases ho'
  exact⟨_,es',ep',hL,r'⟩) hok hg
theorem Inv.turned {t':Nat}{it:Addr} (I:Inv X pins σ H s) (k:∀b o,b≠it->s.heap.get? b=some o->h'.get? b=some o) (hn:H it=none) (hL:it≠X.env.locals)
  (h1:it∈X.ex\/X.s₀.heap.objs.size<=it) (h2:∀x c,X.env.cells.lookup x=some c->c≠it) (h3:∀p∈X.pn++pins,p.1≠it):Inv X pins σ H {s with heap:=h',toks:=t'}:=by
 have nit:∀b u,H b=some u->b≠it:=λb u e z=>by rw[z,hn]at e;cases e
 refine I.step (g':=s.gens) (d':=s.drawn) (ch:=[it]) (λb hb=>?_) (λb o _ _ hc e _=>k b o (λz=>hc (by simp[z])) e) (λb o _ _ hc e _=>⟨o.slots,k b o (λz=>hc (by simp[z])) e⟩) (λ_ _ _ _ n=>n)
  (λb o hc e=>⟨o,k b o (λz=>hc (by simp[z])) e⟩) (λ_ _ e=>e) (λ_ _ _ e=>e) (λb ps e=>⟨#[],by rw[e];simp⟩) (λm hm=>?_) (λb u e=>?_) I.bare
 .have e:b=it:=by simpa using hb
  subst e
  exact⟨h1,hL,h2,h3⟩
 .obtain⟨o,es,ep,ho,r⟩:=hm
  exact⟨o,es,ep,k _ o (Ne.symm hL) ho,r⟩
 .refine(I.hok b u e).ZiE (λc v hc q=>k c v ?_ q) (λ_ q=>q) (λ_ _ q=>q) λ_ _ _ q=>q
  rcases hc with z|z
  .rw[z];exact nit b u e
  .exact nit c _ z
theorem Inv.tok (I:Inv X pins σ H s) (t:Nat):Inv X pins σ H {s with toks:=t}:=I.un (h':=s.heap) (t':=t) Un.refl I.hok
theorem Inv.kept {t':Nat} (I:Inv X pins σ H s) (k:∀b u,s.heap.get? b=some u->h'.get? b=some u):Inv X pins σ H {s with heap:=h',toks:=t'}:=I.un (Un.kept k) (I.hok.kept k)
theorem Inv.laid {a:Addr}{o:HO}{t':Nat} (I:Inv X pins σ H s) (k:∀b u,s.heap.get? b=some u->h'.get? b=some u) (hp:s.heap.objs.size<=a) (new:Zak X.prog X.w (upd H a o) h' a o) :
  Inv X pins σ (upd H a o) {s with heap:=h',toks:=t'}:=I.un (Un.laid k hp (I.hok.fresh hp)) (I.hok.laid k hp new)
theorem Inv.write {x e:Addr}{o:HO}{t':Nat} (I:Inv X pins σ H s) (mu:Mut (H x)) (he:e=x\/H e=some (.own x)) (k:∀b u,b≠e->s.heap.get? b=some u->h'.get? b=some u) (heo:∃u,h'.get? e=some u)
  (new:Zak X.prog X.w (upd H x o) h' x o):Inv X pins σ (upd H x o) {s with heap:=h',toks:=t'}:=I.un (Un.write mu he k heo) (I.hok.write mu he k heo new)
theorem Inv.weak {σ':List (Option V)} (I:Inv X pins σ H s) (hl:σ'.length=σ.length) (w:∀(i:Nat) v,σ'[i]?=some (some v)->σ[i]?=some (some v)):Inv X pins σ' H s :=
 ⟨I.ok,I.os,I.bare,I.base,let ⟨m,hn,hl'⟩:=I.loc;⟨m,hn,λi x v e1 e2 e3=>hl' i x v e1 (w i v e2) e3⟩,I.cell,I.free,I.freeC,I.pin,I.hok,hl.trans I.len⟩
theorem Inv.ZG {pins':List (Addr×Obj)} (I:Inv X pins σ H s) (h:∀p∈pins',s.heap.get? p.1=some p.2/\H p.1=none/\p.1≠X.env.locals/\p.1∉X.fs/\∀v,p.2.data≠.cell v):Inv X pins' σ H s :=
 ⟨I.ok,I.os,I.bare,I.base,I.loc,I.cell,I.free,I.freeC,λp hp=>(YB.mp hp).elim (λz=>I.pin p (YY _ z)) (h p),I.hok,I.len⟩
theorem Zmy {N:List Str} (hN:N.Nodup) {i j:Nat}{x:Str} (a:N[i]?=some x) (b:N[j]?=some x):i=j:=by
 obtain⟨h1,e1⟩:=Yw.mp a
 obtain⟨h2,e2⟩:=Yw.mp b
 exact(List.getElem_inj hN).mp (e1.trans e2.symm)
theorem Zqf {M:Model}{A:Around}{E:Value->Shared->Prop}{i:Nat}{x:Str}{v:V}{u:Value}{Q:Unit->Shared->Prop} (I:Inv X pins σ H s) (hN:X.N.Nodup) (hi:X.N[i]?=some x) (hx:Loc X.env.scope x) (r:RelV v u)
  (h:∀s',Inv X pins (σ.set i (some v)) H s'->(∃a,Heap.SameBut a s.heap s'.heap/\(a=X.env.locals\/X.env.cells.lookup x=some a))->Q () s') (hf:X.fn x=true\/X.env.scope.names.lookup x=some .local:=by and_intros):wpAny M A (storeName X.env x u) Q E s:=by
 obtain⟨m,hn,hl⟩:=id I.loc
 have hcls:(X.env.scope.kind==.class||(X.env.scope.kind==.module&&X.env.locals != X.env.globals))=false:=by rw[I.ok.kind];rfl
 have hiσ:i < σ.length:=by rw[I.len];exact(Yw.mp hi).1
 have cne:=I.cne
 have tracked:∀{a:Addr}{h':Heap},(∃o,s.heap.get? a=some o/\H a=none)->Heap.SameBut a s.heap h'->HOk X.prog X.w H h':=λ{a h'} ha hs b ob e=>by
  obtain⟨_,_,hfree⟩:=ha
  refine(I.hok b ob e).ZiE (λc w' hc q=>(hs.2 c ?_).trans q) (λ_ q=>q) (λ_ _ q=>q) λ_ _ _ q=>q
  rintro rfl
  rcases hc with rfl|hc
  .rw[hfree]at e;cases e
  .rw[hfree]at hc;cases hc
 rcases hx with hk|hk
 .refine wpAny_storeName_local hk hn (λh' hn' hs=>?_) hcls
  obtain⟨oL,_,_,hoL,_⟩:=id hn
  refine h _ ⟨I.ok,I.os,I.bare,⟨λb o e n hb hx=>?_,λb o e n hb hx=>?_,I.base.free,λb o e hx=>?_,I.base.tups,I.base.frzs,I.base.tbls⟩,⟨_,hn',λj y v' e1 e2 e3=>?_⟩,λy c e=>?_,I.free,I.freeC,λp hp=>?_,tracked ⟨oL,hoL,I.free⟩ hs,by simpa using I.len⟩ ⟨_,hs,.inl rfl⟩
  .exact(hs.2 b (Yo (YD (Yl e) I.ok.above))).trans (I.base.keep b o e n hb hx)
  .obtain⟨sl,e1⟩:=I.base.slot b o e n hb hx
   exact⟨sl,(hs.2 b (Yo (YD (Yl e) I.ok.above))).trans e1⟩
  .obtain⟨o',e1⟩:=I.base.there b o e hx
   exact⟨o',(hs.2 b (Yo (YD (Yl e) I.ok.above))).trans e1⟩
  .by_cases hj:j=i
   .subst hj
    rw[hi]at e1;cases e1
    rw[List.getElem?_set_self hiσ]at e2
    cases e2
    exact⟨u,r,.inl ⟨hk,by simp⟩⟩
   .rw[List.getElem?_set_ne (Ne.symm hj)]at e2
    obtain⟨u',r',q⟩:=hl j y v' e1 e2 e3
    refine⟨u',r',?_⟩
    rcases q with⟨k,e⟩|⟨k,c,e,z⟩
    .refine .inl ⟨k,?_⟩
     have:y≠x:=λe=>hj (Zmy hN e1 (e▸hi))
     simp[this,e]
    .exact .inr ⟨k,c,e,z.sameBut hs (cne y c e)⟩
  .obtain⟨w',z⟩:=I.cell y c e
   exact⟨w',z.sameBut hs (cne y c e)⟩
  .obtain⟨e,n,ne,nf,d⟩:=I.pin p hp
   exact⟨(hs.2 p.1 ne).trans e,n,ne,nf,d⟩
 .have hfn:X.fn x=true:=by
   rcases hf with z|z
   .exact z
   .rw[z]at hk;cases hk
  obtain⟨c,hc⟩:=I.ok.has x (.inl hk)
  obtain⟨w',z⟩:=I.cell x c hc
  refine wpAny_storeName_cell I.ok.kind hk hc z (λh' hc' hs=>?_)
  obtain⟨oc,hoc,hocd⟩:=id z
  refine h {s with heap:=h'} ⟨I.ok,I.os,I.bare,⟨λb o e n hb hx=>?_,λb o e n hb hx=>?_,I.base.free,λb o e hx=>?_,I.base.tups,I.base.frzs,I.base.tbls⟩,⟨m,hn.sameBut hs (Ne.symm (cne x c hc)),λj y v' e1 e2 e3=>?_⟩,λy c' e=>?_,I.free,I.freeC,λp hp=>?_,tracked ⟨oc,hoc,I.freeC x c hc⟩ hs,by simpa using I.len⟩ ⟨c,hs,.inr hc⟩
  .exact(hs.2 b (Yo (YD (Yl e) (I.ok.cab x c hfn hc)))).trans (I.base.keep b o e n hb hx)
  .obtain⟨sl,e1⟩:=I.base.slot b o e n hb hx
   exact⟨sl,(hs.2 b (Yo (YD (Yl e) (I.ok.cab x c hfn hc)))).trans e1⟩
  .obtain⟨o',e1⟩:=I.base.there b o e hx
   exact⟨o',(hs.2 b (Yo (YD (Yl e) (I.ok.cab x c hfn hc)))).trans e1⟩
  .by_cases hj:j=i
   .subst hj
    rw[hi]at e1;cases e1
    rw[List.getElem?_set_self hiσ]at e2
    cases e2
    exact⟨u,r,.inr ⟨.inl hk,c,hc,hc'⟩⟩
   .rw[List.getElem?_set_ne (Ne.symm hj)]at e2
    obtain⟨u',r',q⟩:=hl j y v' e1 e2 e3
    refine⟨u',r',?_⟩
    rcases q with q|⟨k,c',e,z'⟩
    .exact .inl q
    .refine .inr ⟨k,c',e,z'.sameBut hs ?_⟩
     rintro rfl
     exact hj (Zmy hN e1 (I.ok.inj _ _ _ e hc▸hi))
  .by_cases hcc:c'=c
   .subst hcc;exact⟨_,hc'⟩
   .obtain⟨w2,z2⟩:=I.cell y c' e
    exact⟨w2,z2.sameBut hs hcc⟩
  .obtain⟨e,n,ne,nf,d⟩:=I.pin p hp
   refine⟨(hs.2 p.1 ?_).trans e,n,ne,nf,d⟩
   intro q
   rw[q,hoc]at e
   have q':oc=p.2:=YM e
   exact d w' (by rw[<-q'];exact hocd)
theorem Zi3 {M:Model}{A:Around}{E:Value->Shared->Prop}{i:Nat}{x:Str}{v:V}{u:Value}{Q:Unit->Shared->Prop} (I:Inv X pins σ H s) (hN:X.N.Nodup) (hi:X.N[i]?=some x) (hx:Loc X.env.scope x) (r:RelV v u)
  (h:∀s',Inv X pins (σ.set i (some v)) H s'->Q () s') (hf:X.fn x=true\/X.env.scope.names.lookup x=some .local:=by and_intros):wpAny M A (storeName X.env x u) Q E s :=
 Zqf I hN hi hx r (λs' I' _=>h s' I') hf
theorem Inv.Zrx {s':Shared}{ch:List Addr} (I:Inv X pins σ H s) (ho:s'.os=s.os) (u:Un (frs X.stack) ch H H' s.heap s'.heap) (hok:HOk X.prog X.w H' s'.heap) (hg:AllBare s'.gens)
  (hch:∀b∈ch,(b∈X.ex\/X.s₀.heap.objs.size<=b)/\b≠X.env.locals/\(∀x c,X.env.cells.lookup x=some c->c≠b)/\∀p∈X.pn++pins,p.1≠b):Inv X pins σ H' s':=by
 obtain⟨h',g',d',t',o'⟩:=s'
 have e:o'=s.os:=ho
 subst e
 exact I.call (g':=g') (t':=t') (d':=d') u hok hg hch
end
noncomputable abbrev XK:=Value->Option Addr->Hp->Prop
noncomputable abbrev St:=List (Option V)
noncomputable abbrev VK:=V->Hp->Prop
noncomputable abbrev TE:=St->Hp->VK->Prop
noncomputable abbrev TT:=St->Hp->(Bool->Hp->Prop)->Prop
noncomputable abbrev TA:=St->Hp->(List V->Hp->Prop)->Prop
structure Ends where
 nx:St->Hp->Prop
 rt:VK
 bk:St->Hp->Prop:=λ_ _=>False
 ct:St->Hp->Prop:=λ_ _=>False
noncomputable abbrev TS:=Ends->St->Hp->Prop
noncomputable def EP (X:Cx) (pins:List (Addr×Obj)) (σ:St) (Q:VK) (u:Value) (s':Shared):Prop:=∃v H',Inv X pins σ H' s'/\RelV v u/\Q v H'
noncomputable def TP (X:Cx) (pins:List (Addr×Obj)) (σ:St) (Q:Bool->Hp->Prop) (b:Bool) (s':Shared):Prop:=∃H',Inv X pins σ H' s'/\Q b H'
noncomputable def AP (X:Cx) (pins:List (Addr×Obj)) (σ:St) (Q:List V->Hp->Prop) (us:List Value) (s':Shared):Prop:=∃vs H',Inv X pins σ H' s'/\Vals vs us/\Q vs H'
noncomputable def SP (X:Cx) (pins:List (Addr×Obj)) (D:Ends) (f:Flow) (s':Shared):Prop :=
 match f with
 |.next=>∃σ' H',Inv X pins σ' H' s'/\D.nx σ' H'
 |.brk=>∃σ' H',Inv X pins σ' H' s'/\D.bk σ' H'
 |.cont=>∃σ' H',Inv X pins σ' H' s'/\D.ct σ' H'
 |.ret u=>∃v σ' H',Inv X pins σ' H' s'/\RelV v u/\D.rt v H'
noncomputable def PE (X:Cx) (e:Expr) (t:TE):Prop :=
 ∀(pins:List (Addr×Obj)) (s:Shared) (σ:St) (H:Hp) (Q:VK),Inv X pins σ H s->t σ H Q->wpAny (model X.prog X.w) X.A (eval e X.env) (EP X pins σ Q) X.xe s
noncomputable def PT (X:Cx) (e:Expr) (t:TT):Prop :=
 ∀(pins:List (Addr×Obj)) (s:Shared) (σ:St) (H:Hp) (Q:Bool->Hp->Prop),Inv X pins σ H s->t σ H Q->wpAny (model X.prog X.w) X.A (isTrue e X.env (eval e X.env)) (TP X pins σ Q) X.xe s
noncomputable def PW (X:Cx) (e:Expr) (t:TT):Prop :=
 ∀(whole:Sem Value) (pins:List (Addr×Obj)) (s:Shared) (σ:St) (H:Hp) (Q:Bool->Hp->Prop),Inv X pins σ H s->t σ H Q->wpAny (model X.prog X.w) X.A (isTrue e X.env whole) (TP X pins σ Q) X.xe s
theorem PW.pt {X:Cx}{e:Expr}{t:TT} (h:PW X e t):PT X e t:=h _
noncomputable def PA (X:Cx) (es:List Expr) (t:TA):Prop :=
 ∀(pos:Pos) (pins:List (Addr×Obj)) (s:Shared) (σ:St) (H:Hp) (Q:List V->Hp->Prop),Inv X pins σ H s->t σ H Q->wpAny (model X.prog X.w) X.A (spliced (backTo pos (starEach es X.env))) (AP X pins σ Q) X.xe s
noncomputable def PS (X:Cx) (st:Stmt) (t:TS):Prop :=
 ∀(pins:List (Addr×Obj)) (s:Shared) (σ:St) (H:Hp) (D:Ends),Inv X pins σ H s->t D σ H->wpAny (model X.prog X.w) X.A (exec st X.env) (SP X pins D) X.xe s
noncomputable def PSs (X:Cx) (st:List Stmt) (t:TS):Prop :=
 ∀(pins:List (Addr×Obj)) (s:Shared) (σ:St) (H:Hp) (D:Ends),Inv X pins σ H s->t D σ H->wpAny (model X.prog X.w) X.A (execs st X.env) (SP X pins D) X.xe s
theorem thn {α:Type}{t:Sem α}{Q Q':α->Shared->Prop}{M:Model}{A:Around}{E:Value->Shared->Prop}{s:Shared} (h:wpAny M A t Q E s) (hQ:∀a s,Q a s->Q' a s):wpAny M A t Q' E s:=YJ h hQ λ_ _ x=>x
section
variable {X:Cx}
noncomputable def Zlp (i:Nat):TE:=fun σ H Q=>∃v,σ[i]?=some (some v)/\Q v H
noncomputable def tC (v:V):TE:=λ_ H Q=>Q v H
theorem pe_var {i:Nat}{x:Str}{pos:Pos} (hN:X.N[i]?=some x) (hv:Vis X.env.scope x) (hd:(x==("__debug__":Str))=false:=by decide) (hcd:(x==("__classdict__":Str))=false:=by decide):PE X (.Name x pos) (Zlp i):=by
 intro pins s σ H Q I h
 obtain⟨v,e,h⟩:=h
 obtain⟨m,hn,hl⟩:=I.loc
 obtain⟨u,r,l⟩:=hl i x v hN e hv
 have fin:EP X pins σ Q u s:=⟨v,H,I,r,h⟩
 rcases l with⟨hk,hm⟩|⟨hk,c,hc,hcell⟩
 .exact wpAny_Name (wpAny_loadName_local I.ok.kind hk hn hm fin) hd
 .rcases hk with hk|hk
  .exact wpAny_Name (wpAny_loadName_cell I.ok.kind hk hc hcell fin) hd
  .exact wpAny_Name (wpAny_loadName_free I.ok.kind hk hc hcell fin hcd) hd
theorem Zf {i j pos}:PE X (.Constant (.int i) j pos) (tC (.int i)):=λ_ _ _ H _ I h=>wpAny_Constant_int ⟨.int i,H,I.tok _,⟨_,rfl⟩,h⟩
theorem Zi4 {b j pos}:PE X (.Constant (.bool b) j pos) (tC (.bl b)):=λ_ _ _ H _ I h=>Constant_bool ⟨.bl b,H,I,rfl,h⟩
theorem Zac {j pos}:PE X (.Constant .none j pos) (tC .non):=λ_ _ _ H _ I h=>Constant_none ⟨.non,H,I,rfl,h⟩
noncomputable def Gl (X:Cx) (x:Str):Prop:=X.env.kindOf x=some .globalImplicit
theorem Zlq {E:Value->Shared->Prop}{pins:List (Addr×Obj)}{s:Shared}{σ:St}{H:Hp}{x:Str}{u:Value}{pos:Pos}{Q:Value->Shared->Prop} (I:Inv X pins σ H s) (hg:Gl X x) (hm:X.mg x=some u) (h:Q u s)
  (hd:(x==("__debug__":Str))=false:=by decide):wpAny (model X.prog X.w) X.A (eval (.Name x pos) X.env) Q E s :=
 Calls.Name_function_global I.ok.kind hg (Calls.loadGlobal_global (by rw[I.ok.glob];exact I.mod.glob.keeps I.bk) hm h) hd
theorem Zcb {E:Value->Shared->Prop}{pins:List (Addr×Obj)}{s:Shared}{σ:St}{H:Hp}{x:Str}{u:Value}{pos:Pos}{Q:Value->Shared->Prop} (I:Inv X pins σ H s) (hg:Gl X x) (hm:X.mg x=none) (hv:bootBuiltins x=some u) (h:Q u s)
  (hn:x≠"__name__":=by decide) (hd:(x==("__debug__":Str))=false:=by decide):wpAny (model X.prog X.w) X.A (eval (.Name x pos) X.env) Q E s:=by
 obtain⟨mb,h1,h2⟩:=I.mod.blt
 exact Calls.Name_function_global I.ok.kind hg (Calls.loadGlobal_builtin (by rw[I.ok.glob];exact I.mod.glob.keeps I.bk) hm (by rw[I.ok.blt];exact h1.keeps I.bk) ((h2 x hn).trans hv) h) hd
theorem ZiP {x:Str}{v:V}{u:Value}{pos:Pos} (hg:Gl X x) (hm:X.mg x=some u) (r:RelV v u) (hd:(x==("__debug__":Str))=false:=by decide):PE X (.Name x pos) (tC v) :=
 λ_ _ _ H _ I h=>Zlq I hg hm ⟨v,H,I,r,h⟩ hd
theorem Zpl {x:Str}{v:V}{u:Value}{pos:Pos} (hg:Gl X x) (hm:X.mg x=none) (hv:bootBuiltins x=some u) (r:RelV v u) (hn:x≠"__name__":=by decide) (hd:(x==("__debug__":Str))=false:=by decide):PE X (.Name x pos) (tC v) :=
 λ_ _ _ H _ I h=>Zcb I hg hm hv ⟨v,H,I,r,h⟩ hn hd
variable {a b:Expr}{ta tb:TE}{pos:Pos}
noncomputable def tB (t:TE):TT:=fun σ H Q=>t σ H λx H1=>∃c,x=.bl c/\Q c H1
theorem Zi5 {e:Expr}{t:TE} (h:PE X e t) (he:∀whole,isTrue e X.env whole=(do let v <-whole;standAt e.pos;holding [v] (truthy v)):=by ac_nf):PT X e (tB t):=by
 intro pins s σ H Q I hw
 refine isTrue_plain (thn (h pins s σ H _ I hw) λv s1 ⟨x,H1,I1,r1,q1⟩=>?_) (he _)
 obtain⟨d,rfl,q⟩:=q1
 cases r1
 exact wpAny_truthy_bool ⟨H1,I1,q⟩
variable {tA tB':TT}{rest:List Expr}
noncomputable def tAnd (t u:TT):TT:=fun σ H Q=>t σ H λc H1=>if c=true then u σ H1 Q else Q false H1
noncomputable def tOr (t u:TT):TT:=fun σ H Q=>t σ H λc H1=>if c=true then Q true H1 else u σ H1 Q
noncomputable def tNot (t:TT):TT:=fun σ H Q=>t σ H λc H1=>Q (!c) H1
theorem Zco (ha:PT X a tA):PW X (.BoolOp .And [a] pos) tA:=by
 intro wh pins s σ H Q I h
 refine isTrue_and (thn (ha pins s σ H Q I h) λc s1 e=>?_)
 cases c with
 |true=>exact isTrue_and_nil e
 |false=>exact e
theorem Zi6 (ha:PT X a tA):PW X (.BoolOp .Or [a] pos) tA:=by
 intro wh pins s σ H Q I h
 refine isTrue_or (thn (ha pins s σ H Q I h) λc s1 e=>?_)
 cases c with
 |false=>exact isTrue_or_nil e
 |true=>exact e
theorem ZcK (ha:PT X a tA) (hb:PW X (.BoolOp .And (b::rest) pos) tB'):PW X (.BoolOp .And (a::b::rest) pos) (tAnd tA tB'):=by
 intro wh pins s σ H Q I h
 refine isTrue_and (thn (ha pins s σ H _ I h) λc s1 ⟨H1,I1,q1⟩=>?_)
 cases c with
 |true=>exact hb wh pins s1 σ H1 Q I1 q1
 |false=>exact⟨H1,I1,q1⟩
theorem ZkH (ha:PT X a tA) (hb:PW X (.BoolOp .Or (b::rest) pos) tB'):PW X (.BoolOp .Or (a::b::rest) pos) (tOr tA tB'):=by
 intro wh pins s σ H Q I h
 refine isTrue_or (thn (ha pins s σ H _ I h) λc s1 ⟨H1,I1,q1⟩=>?_)
 cases c with
 |true=>exact⟨H1,I1,q1⟩
 |false=>exact hb wh pins s1 σ H1 Q I1 q1
theorem Zi7 (ha:PT X a tA):PT X (.UnaryOp .Not a pos) (tNot tA):=by
 intro pins s σ H Q I h
 exact isTrue_not (ha pins s σ H (λc H1=>Q (!c) H1) I h)
noncomputable def Zry (ta tb:TE):TE:=fun σ H Q=>ta σ H λx H1=>∃c,x=.bl c/\if c=true then tb σ H1 Q else Q (.bl false) H1
theorem ZnH {op}{t:TE} (h:PE X a t):PE X (.BoolOp op [a] pos) t:=λpins s σ H Q I hw=>BoolOp_one (h pins s σ H Q I hw)
theorem Zlr (ha:PE X a ta) (hb:PE X (.BoolOp .And (b::rest) pos) tb):PE X (.BoolOp .And (a::b::rest) pos) (Zry ta tb):=by
 intro pins s σ H Q I h
 refine BoolOp_and (thn (ha pins s σ H _ I h) λv s1 ⟨x,H1,I1,r1,q1⟩=>?_)
 obtain⟨c,rfl,q1⟩:=q1
 cases r1
 refine wpAny_truthy_bool ?_
 cases c with
 |true=>exact hb pins s1 σ H1 Q I1 q1
 |false=>exact⟨.bl false,H1,I1,rfl,q1⟩
noncomputable def tIf (t:TT) (ta tb:TE):TE:=fun σ H Q=>t σ H λc H1=>if c=true then ta σ H1 Q else tb σ H1 Q
theorem Zrz {c:Expr} (hc:PT X c tA) (ha:PE X a ta) (hb:PE X b tb):PE X (.IfExp c a b pos) (tIf tA ta tb):=by
 intro pins s σ H Q I h
 refine wpAny_IfExp (thn (hc pins s σ H _ I h) λd s1 ⟨H1,I1,q1⟩=>?_)
 cases d with
 |true=>exact ha pins s1 σ H1 Q I1 q1
 |false=>exact hb pins s1 σ H1 Q I1 q1
end
noncomputable def SqL (K:PySem.W.Frag) (H:Hp) (a:Addr) (xs:List V):Prop :=
 Rd H a (.lst xs) \/
  ∃(o:Obj) (its:Array Value) (n:Nat),K.lookup a=some o/\o.cls=.type "list"/\o.dict=none/\o.data=.seq its n/\its.size<=sizeLine/\Vals xs its.toList
noncomputable def SqT (K:PySem.W.Frag) (H:Hp) (a:Addr) (xs:List V):Prop :=
 Rd H a (.tup xs) \/
  ∃(o:Obj) (its:Array Value) (n:Nat),K.lookup a=some o/\o.cls=.type "tuple"/\o.data=.seq its n/\its.size<=sizeLine/\Vals xs its.toList
noncomputable def absV:Value->Option V
 |.none=>some .non
 |.bool b=>some (.bl b)
 |.int i _=>some (.int i)
 |.str x _=>some (.str x)
 |.bytes b _=>some (.byt b)
 |.float b _=>some (.flt b)
 |.ref a=>some (.ref a)
 |.type n=>some (.ty n)
 |_=>none
theorem RelV.abs {x:V}{u:Value} (r:RelV x u):absV u=some x:=by
 cases x with
 |non=>cases r;rfl
 |bl _=>cases r;rfl
 |int _=>obtain⟨t,rfl⟩:=r;rfl
 |str _=>obtain⟨t,rfl⟩:=r;rfl
 |byt _=>obtain⟨t,rfl⟩:=r;rfl
 |flt _=>obtain⟨t,rfl⟩:=r;rfl
 |ref _=>cases r;rfl
 |ty _=>cases r;rfl
theorem RelV.inj {x y:V}{u:Value} (r:RelV x u) (q:RelV y u):x=y:=YM (r.abs.symm.trans q.abs)
theorem Vals.inj:∀{xs ys:List V}{us:List Value},Vals xs us->Vals ys us->xs=ys
 |_,_,_,.nil,.nil=>rfl
 |_,_,_,.cons r t,.cons r' t'=>by rw[r.inj r',Vals.inj t t']
section
variable {X:Cx}{pins:List (Addr×Obj)}{σ:St}{H:Hp}{s:Shared}{a:Addr}{xs ys:List V}
theorem SqL.of {K:PySem.W.Frag} (h:H a=some (.lst xs)):SqL K H a xs:=.inl (.inl h)
theorem SqT.of {K:PySem.W.Frag} (h:H a=some (.tup xs)):SqT K H a xs:=.inl (.inl h)
theorem Inv.list (I:Inv X pins σ H s) (h:SqL X.K H a xs):∃its:List Value,Vals xs its/\PlainL s.heap a its.toArray/\xs.length<=sizeLine:=by
 rcases h with h|⟨o,its,n,hk,hc,hd,hs,hz,r⟩
 .obtain⟨z,its,n,r,e⟩:=h.ok I.hok
  exact⟨its,r,⟨_,n,e,rfl,rfl,rfl⟩,z⟩
 .refine⟨its.toList,r,⟨o,n,I.kIn a o hk,hc,hd,by simpa using hs⟩,?_⟩
  have e:=r.length
  simp only[Yp]at e
  omega
theorem Inv.tuple (I:Inv X pins σ H s) (h:SqT X.K H a xs):∃its:List Value,Vals xs its/\IsTup s.heap a its.toArray/\xs.length<=sizeLine:=by
 rcases h with h|⟨o,its,n,hk,hc,hs,hz,r⟩
 .obtain⟨z,its,r,p⟩:=h.ok I.hok
  exact⟨its,r,p,z⟩
 .refine⟨its.toList,r,⟨o,I.kIn a o hk,hc,n,by simpa using hs⟩,?_⟩
  have e:=r.length
  simp only[Yp]at e
  omega
theorem Inv.Zg5 (I:Inv X pins σ H s) (h:SqL X.K H a xs) (h':SqL X.K H a ys):xs=ys:=by
 obtain⟨its,r,⟨o,n,e,_,_,d⟩,_⟩:=I.list h
 obtain⟨its',r',⟨o',n',e',_,_,d'⟩,_⟩:=I.list h'
 rw[e]at e';cases e'
 rw[d]at d'
 injection d' with d1 _
 have:its=its':=by simpa using congrArg Array.toList d1
 subst this
 exact r.inj r'
theorem Inv.ZhH (I:Inv X pins σ H s) (h:SqT X.K H a xs) (h':SqT X.K H a ys):xs=ys:=by
 obtain⟨its,r,⟨o,e,_,n,d⟩,_⟩:=I.tuple h
 obtain⟨its',r',⟨o',e',_,n',d'⟩,_⟩:=I.tuple h'
 rw[e]at e';cases e'
 rw[d]at d'
 injection d' with d1 _
 have:its=its':=by simpa using congrArg Array.toList d1
 subst this
 exact r.inj r'
end
noncomputable abbrev Cx.Zkd (X:Cx) (E:Value->Shared->Prop):Cx:={X with xe:=E}
noncomputable abbrev Cx.nox (X:Cx):Cx:=X.Zkd λ_ _=>False
theorem Cx.Ok.Zkd {X:Cx} (ok:X.Ok) (E:Value->Shared->Prop):(X.Zkd E).Ok :=
 ⟨ok.mod,ok.kind,ok.glob,ok.blt,ok.above,ok.inj,ok.has,ok.cab,ok.hd,ok.frames,ok.stk,ok.exf,ok.bs,ok.bsz,ok.noex,ok.exfs,ok.funs,ok.frf⟩
theorem Cx.Ok.Zfq {X:Cx}{E:Value->Shared->Prop} (ok:(X.Zkd E).Ok):X.Ok :=
 ⟨ok.mod,ok.kind,ok.glob,ok.blt,ok.above,ok.inj,ok.has,ok.cab,ok.hd,ok.frames,ok.stk,ok.exf,ok.bs,ok.bsz,ok.noex,ok.exfs,ok.funs,ok.frf⟩
section
variable {X:Cx}{pins:List (Addr×Obj)}{σ:St}{H:Hp}{s:Shared}{E:Value->Shared->Prop}
theorem Inv.Zkd (I:Inv X pins σ H s) (E:Value->Shared->Prop):Inv (X.Zkd E) pins σ H s:=⟨I.ok.Zkd E,I.os,I.bare,I.base,I.loc,I.cell,I.free,I.freeC,I.pin,I.hok,I.len⟩
theorem Inv.Zfq (I:Inv (X.Zkd E) pins σ H s):Inv X pins σ H s:=⟨I.ok.Zfq,I.os,I.bare,I.base,I.loc,I.cell,I.free,I.freeC,I.pin,I.hok,I.len⟩
theorem SP.Zfq {D:Ends}{f:Flow}{s':Shared} (h:SP (X.Zkd E) pins D f s'):SP X pins D f s':=by
 cases f with
 |next=>obtain⟨σ',H',I,q⟩:=h;exact⟨σ',H',I.Zfq,q⟩
 |brk=>obtain⟨σ',H',I,q⟩:=h;exact⟨σ',H',I.Zfq,q⟩
 |cont=>obtain⟨σ',H',I,q⟩:=h;exact⟨σ',H',I.Zfq,q⟩
 |ret u=>obtain⟨v,σ',H',I,r,q⟩:=h;exact⟨v,σ',H',I.Zfq,r,q⟩
end
section
variable {X:Cx}{st:Stmt}{rest:List Stmt}{t u:TS}{e:Expr}{te:TE}{pos:Pos}
noncomputable def ZrA:TS:=λD σ H=>D.nx σ H
noncomputable def tSeq (t u:TS):TS:=λD σ H=>t {D with nx:=u D} σ H
theorem ZI:PSs X [] ZrA:=λ_ _ σ H _ I h=>wpAny_execs_nil ⟨σ,H,I,h⟩
theorem Ze (h1:PS X st t) (h2:PSs X rest u):PSs X (st::rest) (tSeq t u):=by
 intro pins s σ H D I h
 refine wpAny_execs_cons (thn (h1 pins s σ H {D with nx:=u D} I h) λf s1 q=>?_)
 cases f with
 |next =>
  obtain⟨σ',H',I',q⟩:=q
  exact h2 pins s1 σ' H' D I' q
 |ret v=>exact q
 |brk=>exact q
 |cont=>exact q
theorem Zg (h1:PS X st t):PSs X [st] t:=by
 intro pins s σ H D I h
 refine wpAny_execs_cons (thn (h1 pins s σ H D I h) λf s1 q=>?_)
 cases f with
 |next=>exact wpAny_execs_nil q
 |ret v=>exact q
 |brk=>exact q
 |cont=>exact q
theorem Inv.quiet {pins:List (Addr×Obj)}{σ:St}{H:Hp}{s:Shared} (I:Inv X pins σ H s):interactive X.env=false:=by simp[interactive,I.ok.kind]
noncomputable def ZrB (te:TE):TS:=λD σ H=>te σ H λ_ H1=>D.nx σ H1
theorem Zal (he:PE X e te) (hs:swapsWith e none pos.line X.env=pure false:=by rfl):PS X (.Expr e pos) (ZrB te):=by
 intro pins s σ H D I h
 exact wpAny_Expr_any (thn (he pins s σ H _ I h) λv s1 ⟨x,H1,I1,r1,q1⟩=>⟨σ,H1,I1,q1⟩) I.quiet hs
noncomputable def tRet (te:TE):TS:=λD σ H=>te σ H D.rt
theorem Zz (he:PE X e te):PS X (.Return (some e) pos) (tRet te):=by
 intro pins s σ H D I h
 exact wpAny_Return_some (thn (he pins s σ H _ I h) λv s1 ⟨x,H1,I1,r1,q1⟩=>⟨x,σ,H1,I1,r1,q1⟩)
noncomputable def tIfS (c:TT) (t u:TS):TS:=λD σ H=>c σ H λb H1=>if b=true then t D σ H1 else u D σ H1
theorem Zaa {c:Expr}{a b:List Stmt}{tc:TT} (hc:PT X c tc) (ha:PSs X a t) (hb:PSs X b u):PS X (.If c a b pos) (tIfS tc t u):=by
 intro pins s σ H D I h
 refine wpAny_If (thn (hc pins s σ H _ I h) λd s1 ⟨H1,I1,q1⟩=>?_)
 cases d with
 |true=>exact ha pins s1 σ H1 D I1 q1
 |false=>exact hb pins s1 σ H1 D I1 q1
end
noncomputable abbrev TG:=V->St->Hp->(St->Hp->Prop)->Prop
noncomputable abbrev TGs:=List V->St->Hp->(St->Hp->Prop)->Prop
noncomputable def PG (X:Cx) (target:Expr) (t:TG):Prop :=
 ∀(pins:List (Addr×Obj)) (s:Shared) (σ:St) (H:Hp) (v:V) (u:Value) (Q:St->Hp->Prop),Inv X pins σ H s->RelV v u->t v σ H Q ->
  wpAny (model X.prog X.w) X.A (assign target X.env u) (λ_ s'=>∃σ' H',Inv X pins σ' H' s'/\Q σ' H') X.xe s
noncomputable def PGs (X:Cx) (ts:List Expr) (t:TGs):Prop :=
 ∀(pins:List (Addr×Obj)) (s:Shared) (σ:St) (H:Hp) (vs:List V) (us:List Value) (Q:St->Hp->Prop),Inv X pins σ H s->Vals vs us->t vs σ H Q ->
  wpAny (model X.prog X.w) X.A (assignInOrder ((assignEach ts X.env).map (·.2)) us) (λ_ s'=>∃σ' H',Inv X pins σ' H' s'/\Q σ' H') X.xe s
noncomputable abbrev TSet:=V->V->V->Hp->(Hp->Prop)->Prop
noncomputable def PSet (X:Cx) (t:TSet):Prop :=
 ∀(pins:List (Addr×Obj)) (s:Shared) (σ:St) (H:Hp) (o i v:V) (ov iv u:Value) (Q:Hp->Prop),Inv X pins σ H s->RelV o ov->RelV i iv->RelV v u->t o i v H Q ->
  wpAny (model X.prog X.w) X.A (setItem ov iv u) (λ_ s'=>∃H',Inv X pins σ H' s'/\Q H') X.xe s
noncomputable abbrev TIp:=V->V->Hp->VK->Prop
noncomputable def PIp (X:Cx) (op:Operator) (t:TIp):Prop :=
 ∀(pins:List (Addr×Obj)) (s:Shared) (σ:St) (H:Hp) (x y:V) (v u:Value) (Q:VK),Inv X pins σ H s->RelV x v->RelV y u->t x y H Q ->
  wpAny (model X.prog X.w) X.A (inplaceOp op v u) (EP X pins σ Q) X.xe s
section
variable {X:Cx}{pos:Pos}
noncomputable def Zgl (i:Nat):TG:=λv σ H Q=>Q (σ.set i (some v)) H
theorem Zm {i:Nat}{x:Str} (hN:X.N.Nodup) (hi:X.N[i]?=some x) (hx:Loc X.env.scope x) (hf:X.fn x=true\/X.env.scope.names.lookup x=some .local:=by and_intros):PG X (.Name x pos) (Zgl i):=by
 intro pins s σ H v u Q I r h
 exact wpAny_assign_Name (Zi3 I hN hi hx r (λs' I'=>⟨_,H,I',h⟩) hf)
noncomputable def gNil:TGs:=λvs σ H Q=>vs=[]/\Q σ H
noncomputable def ZrC (t:TG) (u:TGs):TGs:=λvs σ H Q=>∃v r,vs=v::r/\t v σ H fun σ' H'=>u r σ' H' Q
theorem ZiQ:PGs X [] gNil:=by
 intro pins s σ H vs us Q I r h
 obtain⟨e,h⟩:=h
 subst e
 cases r
 exact assignInOrder_nil ⟨σ,H,I,h⟩
theorem Zb7 {e:Expr}{es:List Expr}{t:TG}{u:TGs} (h1:PG X e t) (h2:PGs X es u)
  (hs:(assignEach (e::es) X.env).map (·.2)=assign e X.env::(assignEach es X.env).map (·.2):=by rfl):PGs X (e::es) (ZrC t u):=by
 intro pins s σ H vs us Q I r h
 obtain⟨v,vr,e1,h⟩:=h
 subst e1
 cases r with
 |cons r rr =>
  rw[hs]
  refine assignInOrder_cons (thn (h1 pins s σ H _ _ _ I r h) λ_ s1 ⟨σ1,H1,I1,q1⟩=>?_)
  exact h2 pins s1 σ1 H1 _ _ Q I1 rr q1
noncomputable def gTup (K:PySem.W.Frag) (n:Nat) (t:TGs):TG:=λv σ H Q=>∃a xs,v=.ref a/\SqT K H a xs/\xs.length=n/\t xs σ H Q
theorem ZnI {es:List Expr}{k:Nat}{t:TGs}{n:Nat} (hc:X.calm=true) (h:PGs X es t)
  (hn:(assignEach es X.env).length=n:=by rfl) (hst:(assignEach es X.env).findIdx? (·.1)=none:=by rfl):PG X (.Tuple es k pos) (gTup X.K n t):=by
 intro pins s σ H v u Q I r hw
 obtain⟨a,xs,e1,hq,hl,hw⟩:=hw
 subst e1
 cases r
 obtain⟨its,rv,ht,hz⟩:=I.tuple hq
 refine assign_Tuple_tuple (I.ok.hd hc) ht (by simp[hn,<-hl,rv.length]) hst λh' hx=>?_
 have I1:Inv X pins σ H {s with heap:=h'}:=I.kept (t':=s.toks) λb o e=>hx b o (Yo (Yl e)) e
 exact h pins _ σ H xs _ Q I1 (by simpa using rv) hw
noncomputable def gSub (to ti:TE) (t:TSet):TG:=λv σ H Q=>to σ H λo H1=>ti σ H1 λi H2=>t o i v H2 λH3=>Q σ H3
theorem ZhI {o i:Expr}{to ti:TE}{t:TSet} (ho:PE X o to) (hi:PE X i ti) (hs:PSet X t)
  (ha:∀v,assign (.Subscript o i pos) X.env v=(do
   let ov <-holding [v] (eval o X.env)
   let iv <-holding [v,ov] (eval i X.env)
   standAt pos
   holding [v,ov,iv] (setItem ov iv v)
   release [v,ov,iv] []):=by ac_nf):PG X (.Subscript o i pos) (gSub to ti t):=by
 intro pins s σ H v u Q I r h
 rw[ha]
 refine Ya (YH (thn (ho pins s σ H _ I h) λov s1 ⟨x,H1,I1,r1,q1⟩=>?_))
 refine Ya (YH (thn (hi pins s1 σ H1 _ I1 q1) λiv s2 ⟨y,H2,I2,r2,q2⟩=>?_))
 refine Ya (wpAny_standAt (Ya (YH (thn (hs pins s2 σ H2 x y v ov iv u _ I2 r1 r2 r q2) λ_ s3 ⟨H3,I3,q3⟩=>?_))))
 exact wpAny_release ⟨σ,H3,I3,q3⟩
noncomputable def tAsg (te:TE) (g:TG):TS:=λD σ H=>te σ H λx H1=>g x σ H1 D.nx
theorem Zet {tg e:Expr}{te:TE}{g:TG} (he:PE X e te) (hg:PG X tg g) (hs:swapsWithSole [tg] e pos.line X.env=pure false:=by rfl) (hw:swappedStores [tg] e X.env=pure none:=by rfl)
  (h1:(assignEach [tg] X.env).map (·.2)=[assign tg X.env]:=by rfl):PS X (.Assign [tg] e pos) (tAsg te g):=by
 intro pins s σ H D I h
 refine wpAny_Assign_stores (thn (he pins s σ H _ I h) λv s1 ⟨x,H1,I1,r1,q1⟩=>?_) hs hw
 rw[h1]
 exact thn (hg pins s1 σ H1 x v _ I1 r1 q1) λ_ s2 q=>q
theorem Zu {i:Nat}{x:Str}{e:Expr}{te:TE}{pos':Pos} (hN:X.N.Nodup) (hi:X.N[i]?=some x) (hx:Loc X.env.scope x) (he:PE X e te) (hs:swapsWith e (some (.Name x pos')) pos.line X.env=pure false:=by rfl) (hf:X.fn x=true\/X.env.scope.names.lookup x=some .local:=by and_intros) :
  PS X (.Assign [.Name x pos'] e pos) (tAsg te (Zgl i)):=by
 intro pins s σ H D I h
 refine wpAny_Assign_Name (thn (he pins s σ H _ I h) λv s1 ⟨y,H1,I1,r1,q1⟩=>?_) hs
 exact Zi3 I1 hN hi hx r1 (λs2 I2=>⟨_,H1,I2,q1⟩) hf
noncomputable def tAug (i:Nat) (te:TE) (ti:TIp):TS:=λD σ H=>∃x,σ[i]?=some (some x)/\te σ H λy H1=>ti x y H1 λz H2=>D.nx (σ.set i (some z)) H2
theorem ps_aug {i:Nat}{x:Str}{e:Expr}{te:TE}{op:Operator}{ti:TIp}{pos':Pos} (hN:X.N.Nodup) (hi:X.N[i]?=some x) (hx:Loc X.env.scope x) (he:PE X e te) (ho:PIp X op ti) (hf:X.fn x=true\/X.env.scope.names.lookup x=some .local:=by and_intros) :
  PS X (.AugAssign (.Name x pos') op e pos) (tAug i te ti):=by
 intro pins s σ H D I h
 obtain⟨v,e1,h⟩:=h
 obtain⟨m,hn,hl⟩:=I.loc
 have vis:Vis X.env.scope x:=by rcases hx with k|k;exact .inl k;exact .inr (.inl k)
 obtain⟨u,r,l⟩:=hl i x v hi e1 vis
 refine wpAny_AugAssign_Name ?_
 have go:wpAny (model X.prog X.w) X.A (eval e X.env) (λw s₂=>wpAny (model X.prog X.w) X.A (inplaceOp op u w) (λr s₃=>wpAny (model X.prog X.w) X.A (storeName X.env x r) (λ_=>SP X pins D .next) X.xe s₃) X.xe s₂) X.xe s:=by
  refine thn (he pins s σ H _ I h) λw s1 ⟨y,H1,I1,r1,q1⟩=>?_
  refine thn (ho pins s1 σ H1 v y u w _ I1 r r1 q1) λz s2 ⟨zv,H2,I2,r2,q2⟩=>?_
  exact Zi3 I2 hN hi hx r2 (λs3 I3=>⟨_,H2,I3,q2⟩) hf
 rcases l with⟨hk,hm⟩|⟨hk,c,hc,hcell⟩
 .exact wpAny_loadName_local I.ok.kind hk hn hm go
 .rcases hk with hk|hk
  .exact wpAny_loadName_cell I.ok.kind hk hc hcell go
  .rcases hx with k|k
   .have:X.env.scope.names.lookup x=some .free:=hk
    rw[k]at this;cases this
   .have:X.env.scope.names.lookup x=some .free:=hk
    rw[k]at this;cases this
noncomputable def ipI (f:Int->Int->Int):TIp:=λx y H Q=>∃i j,x=.int i/\y=.int j/\Q (.int (f i j)) H
theorem ip_sub:PIp X .Sub (ipI λi j=>i-j):=by
 intro pins s σ H x y v u Q I r1 r2 h
 obtain⟨i,j,e1,e2,q⟩:=h
 subst e1;subst e2
 obtain⟨t,rfl⟩:=r1
 obtain⟨t',rfl⟩:=r2
 exact isub_int ⟨.int _,H,I.tok _,⟨_,rfl⟩,q⟩
end
section
variable {X:Cx}{pos:Pos}
noncomputable def ZnJ (c:TT) (tb:TS):TS:=λD σ H=>∃W:Nat->St->Hp->Prop,(∃m,W m σ H)/\∀m σ H,W m σ H ->
 c σ H λb H1=>if b=true then ∃N:St->Hp->Prop,(∀σ' H',N σ' H'->∃m',m'<m/\W m' σ' H')/\tb {D with nx:=N,ct:=N,bk:=D.nx} σ H1 else D.nx σ H1
theorem Zi8 {c:Expr}{body:List Stmt}{tc:TT}{tb:TS} (hp:PassesOwn (model X.prog X.w) X.A X.env X.xe) (hc:PT X c tc) (hb:PSs X body tb):PS X (.While c body [] pos) (ZnJ tc tb):=by
 intro pins s σ H D I h
 obtain⟨W,⟨m0,w0⟩,turn⟩:=h
 refine wpAny_While (codeAny_whileLoop (λn s'=>∃σ' H',Inv X pins σ' H' s'/\W n σ' H') ?_ m0 ⟨σ,H,I,w0⟩)
 rintro n s1 ⟨σ1,H1,I1,w1⟩
 refine wpAny_passesOwn hp (thn (hc pins s1 σ1 H1 _ I1 (turn n σ1 H1 w1)) λb s2 ⟨H2,I2,q2⟩=>?_)
 cases b with
 |true =>
  obtain⟨N,hN,q2⟩:=q2
  rw[Yd rfl]
  refine wpAny_passesOwn hp (thn (hb pins s2 σ1 H2 _ I2 q2) λf s3 q3=>?_)
  cases f with
  |next =>
   obtain⟨σ3,H3,I3,n3⟩:=q3
   obtain⟨m',hm,w3⟩:=hN σ3 H3 n3
   exact⟨m',hm,σ3,H3,I3,w3⟩
  |cont =>
   obtain⟨σ3,H3,I3,n3⟩:=q3
   obtain⟨m',hm,w3⟩:=hN σ3 H3 n3
   exact⟨m',hm,σ3,H3,I3,w3⟩
  |brk=>exact q3
  |ret v=>exact q3
 |false =>
  rw[Yb YW]
  exact wpAny_execs_nil ⟨σ1,H2,I2,q2⟩
end
structure It where
 go:Nat->Hp->Prop
 yld:Nat->Hp->V->Hp->Prop
 stop:Nat->Hp->Prop
noncomputable def FpOk (X:Cx) (pins:List (Addr×Obj)) (H:Hp) (b:Addr):Prop :=
 H b=none/\b≠X.env.locals/\b∉X.fs/\(b∈X.ex\/X.s₀.heap.objs.size<=b)/\(∀x c,X.env.cells.lookup x=some c->c≠b)/\∀p∈X.pn++pins,p.1≠b
theorem Inv.fpOk {X:Cx}{pins:List (Addr×Obj)}{σ:St}{H H':Hp}{s:Shared}{b:Addr} (I:Inv X pins σ H s) (hb:s.heap.objs.size<=b) (hn:H' b=none):FpOk X pins H' b:=by
 refine⟨hn,Nat.ne_of_gt (YD I.lt hb),I.Zmx hb,.inr (Yr I.sz hb),λx c e z=>?_,λp hp z=>?_⟩
 .obtain⟨v,q⟩:=I.cell x c e
  exact absurd (YD q.lt (by rw[z];exact hb)) (YA _)
 .exact absurd (YD (Yl (I.pin p hp).1) (by rw[z];exact hb)) (YA _)
structure Turn (P:Program) (w:World) (K:PySem.W.Frag) (tg:Expr) (J:It) (fp:List Addr) (it:Addr) (tn:Nat->Heap->Prop):Prop where
 mem:it∈fp
 obj:∀i h,tn i h->∀b∈fp,∃o,h.get? b=some o/\∀v,o.data≠.cell v
 keep:∀i h h',tn i h->(∀b∈fp,∀o,h.get? b=some o->h'.get? b=some o)->tn i h'
 item:∀(X:Cx),X.prog=P->X.w=w->X.K=K->X.calm=true->∀(i:Nat) (pins:List (Addr×Obj)) (s:Shared) (σ:St) (H:Hp) (E:Value->Shared->Prop),Inv X pins σ H s->(∀b∈fp,FpOk X pins H b)->tn i s.heap->J.go i H ->
  wpAny (model P w) X.A (pyNext (.ref it)) (λr s1=>∃u,r=some u /\
   wpAny (model P w) X.A (letOwnedTupleGo tg (.ref it) u) (λ_ s2=>∃x H',Inv X pins σ H' s2/\RelV x u/\J.yld i H x H'/\tn (i+1) s2.heap/\∀b∈fp,H' b=none) E s1) E s
 done:∀(X:Cx),X.prog=P->X.w=w->X.K=K->X.calm=true->∀(i:Nat) (pins:List (Addr×Obj)) (s:Shared) (σ:St) (H:Hp) (E:Value->Shared->Prop),Inv X pins σ H s->(∀b∈fp,FpOk X pins H b)->tn i s.heap->J.stop i H ->
  wpAny (model P w) X.A (pyNext (.ref it)) (λr s1=>r=none/\Inv X pins σ H s1) E s
 self:∀(A:Around) (i:Nat) (s:Shared) (Q:Value->Shared->Prop) (E:Value->Shared->Prop),tn i s.heap->Q (.ref it) s->wpAny (model P w) A (pyIter (.ref it)) Q E s
noncomputable abbrev TI:=St->Hp->(It->Hp->Prop)->Prop
noncomputable def PIE (X:Cx) (pins:List (Addr×Obj)) (σ:St) (tg:Expr) (R:It->Hp->Prop) (itv:Value) (s2:Shared):Prop :=
 ∃(it:Addr) (fp:List Addr) (tn:Nat->Heap->Prop) (J:It) (H':Hp),itv=.ref it/\Inv X pins σ H' s2/\Turn X.prog X.w X.K tg J fp it tn/\tn 0 s2.heap/\(∀b∈fp,FpOk X pins H' b)/\R J H'
noncomputable def PI (X:Cx) (tg iter:Expr) (wi:TI):Prop :=
 ∀(pins:List (Addr×Obj)) (s:Shared) (σ:St) (H:Hp) (R:It->Hp->Prop),Inv X pins σ H s->wi σ H R ->
  wpAny (model X.prog X.w) X.A (eval iter X.env) (λv s1=>wpAny (model X.prog X.w) X.A (pyIter v) (PIE X pins σ tg R) X.xe s1) X.xe s
theorem ZrD {M : Model} {A : Around} {E : Value → Shared → Prop} {s : Shared} {tg : Expr} {it : Addr} {u : Value} {o : Obj} {n : String} {vs : Array Value} {Q : Unit → Shared → Prop} (ho : s.heap.get? it = some o) (hc : o.cls = .type n) (hd : o.data = .fields vs)
    (hn : ["enumerate", "zip", "dict_itemiterator", "dict_reverseitemiterator", "odict_iterator", "itertools.zip_longest", "itertools.pairwise"].contains n = false) (hQ : Q () s) : wpAny M A (letOwnedTupleGo tg (.ref it) u) Q E s := by
  unfold letOwnedTupleGo
  cases tg <;> first
    | exact Ye hQ
    | (cases u <;> first
        | exact Ye hQ
        | (refine Ya (wpAny_load ho ?_)
           rw [hc, hd]
           show wpAny M A (if (["enumerate", "zip", "dict_itemiterator", "dict_reverseitemiterator", "odict_iterator", "itertools.zip_longest", "itertools.pairwise"].contains n && vs[0]? == some (rawInt _)) = true then _ else _) Q E s
           rw [Yb (by intro h; rw [hn, Bool.false_and] at h; cases h)]
           exact Ye hQ))
noncomputable def Itl (K:PySem.W.Frag) (a:Addr):It :=
 ⟨λi H=>∃xs x,SqL K H a xs/\xs[i]?=some x,λi H x H'=>H'=H/\∀xs,SqL K H a xs->xs[i]?=some x,λi H=>∃xs,SqL K H a xs/\xs.length<=i⟩
noncomputable def Itt (K:PySem.W.Frag) (a:Addr):It :=
 ⟨λi H=>∃xs x,SqT K H a xs/\xs[i]?=some x,λi H x H'=>H'=H/\∀xs,SqT K H a xs->xs[i]?=some x,λi H=>∃xs,SqT K H a xs/\xs.length<=i⟩
noncomputable def Itr (lo:Int) (n:Nat):It:=⟨λi _=>i<n,λi H x H'=>H'=H/\x=.int (lo+i),λi _=>n<=i⟩
theorem Zqg {P:Program}{w:World}{K:PySem.W.Frag}{tg:Expr} (a it:Addr):Turn P w K tg (Itl K a) [it] it (λi h=>h.IsListIter it a i) where
 mem:=by simp
 obj:=λi h st b hb=>by
  have e:b=it:=by simpa using hb
  subst e
  obtain⟨o,e,c,d⟩:=st
  exact⟨o,e,λv z=>by rw[d]at z;cases z⟩
 keep:=λi h h' st k=>st.at λo e=>k it (by simp) o e
 item:=by
  intro X hP hw hK hc i pins s σ H E I hf st hg
  subst hP hw hK
  obtain⟨xs,x,hq,hx⟩:=hg
  obtain⟨its,rv,p,hz⟩:=I.list hq
  obtain⟨u,hu,ru⟩:=rv.get hx
  obtain⟨f0,f1,f2,f3,f4,f5⟩:=hf it (by simp)
  refine wpAny_pyNext_list_item st p.isList (x:=u) (by simpa using hu) λh' st' sb=>?_
  have I1:Inv X pins σ H {s with heap:=h'}:=I.turned (t':=s.toks) (λb o hb e=>(sb.2 b hb).trans e) f0 f1 f3 f4 f5
  obtain⟨o,e,c,d⟩:=id st'
  exact⟨u,rfl,ZrD (s:={s with heap:=h'}) e c d nofun ⟨x,H,I1,ru,⟨rfl,λys hy=>by rw[I.Zg5 hy hq];exact hx⟩,st',λb hb=>(hf b hb).1⟩⟩
 done:=by
  intro X hP hw hK hc i pins s σ H E I hf st hg
  subst hP hw hK
  obtain⟨xs,hq,hx⟩:=hg
  obtain⟨its,rv,p,hz⟩:=I.list hq
  obtain⟨f0,f1,f2,f3,f4,f5⟩:=hf it (by simp)
  have hl:=rv.length
  exact wpAny_pyNext_list_end (I.ok.hd hc) st p.isList (by simp;omega) λh' eb=>⟨rfl,I.turned (t':=s.toks) (λb o hb e=>eb b o hb e) f0 f1 f3 f4 f5⟩
 self:=λ_ _ _ _ _ st h=>wpAny_pyIter_listiter st h
theorem ZnK {P:Program}{w:World}{K:PySem.W.Frag}{tg:Expr} (a it:Addr):Turn P w K tg (Itt K a) [it] it (λi h=>h.IsTupleIter it a i) where
 mem:=by simp
 obj:=λi h st b hb=>by
  have e:b=it:=by simpa using hb
  subst e
  obtain⟨o,e,c,d⟩:=st
  exact⟨o,e,λv z=>by rw[d]at z;cases z⟩
 keep:=λi h h' st k=>st.at λo e=>k it (by simp) o e
 item:=by
  intro X hP hw hK hc i pins s σ H E I hf st hg
  subst hP hw hK
  obtain⟨xs,x,hq,hx⟩:=hg
  obtain⟨its,rv,p,hz⟩:=I.tuple hq
  obtain⟨u,hu,ru⟩:=rv.get hx
  obtain⟨f0,f1,f2,f3,f4,f5⟩:=hf it (by simp)
  refine wpAny_pyNext_tuple_item st (show s.heap.IsTuple a its.toArray from p) (x:=u) (by simpa using hu) λh' st' sb=>?_
  have I1:Inv X pins σ H {s with heap:=h'}:=I.turned (t':=s.toks) (λb o hb e=>(sb.2 b hb).trans e) f0 f1 f3 f4 f5
  obtain⟨o,e,c,d⟩:=id st'
  exact⟨u,rfl,ZrD (s:={s with heap:=h'}) e c d nofun ⟨x,H,I1,ru,⟨rfl,λys hy=>by rw[I.ZhH hy hq];exact hx⟩,st',λb hb=>(hf b hb).1⟩⟩
 done:=by
  intro X hP hw hK hc i pins s σ H E I hf st hg
  subst hP hw hK
  obtain⟨xs,hq,hx⟩:=hg
  obtain⟨its,rv,p,hz⟩:=I.tuple hq
  obtain⟨f0,f1,f2,f3,f4,f5⟩:=hf it (by simp)
  have hl:=rv.length
  exact wpAny_pyNext_tuple_end (I.ok.hd hc) st (show s.heap.IsTuple a its.toArray from p) (by simp;omega) λh' eb=>⟨rfl,I.turned (t':=s.toks) (λb o hb e=>eb b o hb e) f0 f1 f3 f4 f5⟩
 self:=λ_ _ _ _ _ st h=>wpAny_pyIter_tupleiter st h
theorem ZnL {P:Program}{w:World}{K:PySem.W.Frag}{tg:Expr} (it:Addr) (lo:Int) (n:Nat):Turn P w K tg (Itr lo n) [it] it (λi h=>IsRangeIter h it (lo+(i:Nat)*1) ((n:Int)-(i:Nat)) 1) where
 mem:=by simp
 obj:=λi h st b hb=>by
  have e:b=it:=by simpa using hb
  subst e
  exact⟨_,st,λv z=>by
   have z':Data.fields _=Data.cell v:=z
   cases z'⟩
 keep:=λi h h' st k=>k it (by simp) _ st
 item:=by
  intro X hP hw hK hc i pins s σ H E I hf st hg
  subst hP hw hK
  obtain⟨f0,f1,f2,f3,f4,f5⟩:=hf it (by simp)
  have W:=Walks.range (prog:=X.prog) (w:=X.w) (I.ok.hd hc) it lo 1 n
  refine W.item i s _ _ hg st λv h' tk hv st' kk=>?_
  obtain⟨t,rfl⟩:=hv
  have I1:Inv X pins σ H {s with heap:=h',toks:=tk}:=I.turned (λb o hb e=>kk b o (by simpa using hb) e) f0 f1 f3 f4 f5
  refine⟨_,rfl,ZrD (s:={s with heap:=h',toks:=tk}) (n:="range_iterator") st' rfl rfl nofun ⟨.int (lo+i),H,I1,⟨t,?_⟩,⟨rfl,rfl⟩,st',λb hb=>(hf b hb).1⟩⟩
  rw[Int.mul_one]
 done:=by
  intro X hP hw hK hc i pins s σ H E I hf st hg
  subst hP hw hK
  obtain⟨f0,f1,f2,f3,f4,f5⟩:=hf it (by simp)
  exact wpAny_pyNext_range_end (I.ok.hd hc) st (by have:n<=i:=hg;omega) λh' eb=>⟨rfl,I.turned (t':=s.toks) (λb o hb e=>eb b o hb e) f0 f1 f3 f4 f5⟩
 self:=λ_ _ _ _ _ st h=>wpAny_pyIter_rangeiter st h
section
variable {X:Cx}{tg:Expr}
noncomputable def Zpm (K:PySem.W.Frag) (tl:TE):TI:=fun σ H R=>tl σ H λx H1=>∃a,x=.ref a/\(∃xs,SqL K H1 a xs)/\R (Itl K a) H1
noncomputable def iTup (K:PySem.W.Frag) (tl:TE):TI:=fun σ H R=>tl σ H λx H1=>∃a,x=.ref a/\(∃xs,SqT K H1 a xs)/\R (Itt K a) H1
theorem Zam {l:Expr}{tl:TE} (hl:PE X l tl):PI X tg l (Zpm X.K tl):=by
 intro pins s σ H R I h
 refine thn (hl pins s σ H _ I h) λv s1 ⟨x,H1,I1,r1,q1⟩=>?_
 obtain⟨a,e,⟨xs,hq⟩,q⟩:=q1
 subst e
 cases r1
 obtain⟨its,rv,p,hz⟩:=I1.list hq
 refine wpAny_pyIter_list p.isList ?_
 refine⟨s1.heap.objs.size,[s1.heap.objs.size],_,_,H1,rfl,I1.kept (t':=s1.toks) λb o e=>Ym _ e,Zqg a _,⟨_,YC _ rfl,rfl,rfl⟩,λb hb=>?_,q⟩
 have e:b=s1.heap.objs.size:=by simpa using hb
 subst e
 exact I1.fpOk (Yc _) (I1.hok.fresh (Yc _))
theorem ZnM {l:Expr}{tl:TE} (hl:PE X l tl):PI X tg l (iTup X.K tl):=by
 intro pins s σ H R I h
 refine thn (hl pins s σ H _ I h) λv s1 ⟨x,H1,I1,r1,q1⟩=>?_
 obtain⟨a,e,⟨xs,hq⟩,q⟩:=q1
 subst e
 cases r1
 obtain⟨its,rv,p,hz⟩:=I1.tuple hq
 refine wpAny_pyIter_tuple (show s1.heap.IsTuple a its.toArray from p) ?_
 refine⟨s1.heap.objs.size,[s1.heap.objs.size],_,_,H1,rfl,I1.kept (t':=s1.toks) λb o e=>Ym _ e,ZnK a _,⟨_,YC _ rfl,rfl,rfl⟩,λb hb=>?_,q⟩
 have e:b=s1.heap.objs.size:=by simpa using hb
 subst e
 exact I1.fpOk (Yc _) (I1.hok.fresh (Yc _))
theorem Zmz {pins:List (Addr×Obj)}{σ:St}{H:Hp}{s:Shared}{R:It->Hp->Prop}{E:Value->Shared->Prop}{lo hi:Int}{t u v:Tok}{tk:Nat} (I:Inv X pins σ H s) (h1:-(2 ^ 62)<=lo) (h2:lo<2 ^ 62) (h3:-(2 ^ 62)<=hi) (h4:hi<2 ^ 62)
  (q:R (Itr lo (hi-lo).toNat) H):wpAny (model X.prog X.w) X.A (pyIter (.ref s.heap.objs.size)) (PIE X pins σ tg R) E {s with heap:=s.heap.push {cls:=.type "range",data:=.fields #[.int lo t,.int hi u,.int 1 v]},toks:=tk}:=by
 refine wpAny_pyIter_range (IsRange.new ..) (small_one h1 h2 h3 h4) ?_
 have I1:Inv X pins σ H {s with heap:=s.heap.push {cls:=.type "range",data:=.fields #[.int lo t,.int hi u,.int 1 v]},toks:=tk}:=I.kept λb o e=>Ym _ e
 refine⟨(s.heap.push {cls:=.type "range",data:=.fields #[.int lo t,.int hi u,.int 1 v]}).objs.size,[(s.heap.push {cls:=.type "range",data:=.fields #[.int lo t,.int hi u,.int 1 v]}).objs.size],_,_,H,rfl,
  I1.kept (t':=tk) λb o e=>Ym _ e,ZnL _ lo (hi-lo).toNat,?_,λb hb=>?_,q⟩
 .have e1:lo+((0:Nat):Int)*1=lo:=by simp
  have e2:(((hi-lo).toNat:Nat):Int)-((0:Nat):Int)=Builtin.Range.rangeSize lo hi 1:=by rw[rangeSize_one];split<;>omega
  show IsRangeIter _ _ (lo+((0:Nat):Int)*1) ((((hi-lo).toNat:Nat):Int)-((0:Nat):Int)) 1
  rw[e1,e2]
  exact YC _ rfl
 .have e:b=(s.heap.push {cls:=.type "range",data:=.fields #[.int lo t,.int hi u,.int 1 v]}).objs.size:=by simpa using hb
  subst e
  exact I1.fpOk (Yc _) (I1.hok.fresh (Yc _))
noncomputable def ZrE (ta:TA):TI:=fun σ H R=>ta σ H λvs H1=>∃j:Int,vs=[.int j]/\-(2 ^ 62)<=j/\j<2 ^ 62/\R (Itr 0 j.toNat) H1
noncomputable def ZrF (ta:TA):TI:=fun σ H R=>ta σ H λvs H1=>∃i j:Int,vs=[.int i,.int j]/\(-(2 ^ 62)<=i/\i<2 ^ 62/\-(2 ^ 62)<=j/\j<2 ^ 62)/\R (Itr i (j-i).toNat) H1
theorem ZM {a:Expr}{ta:TA}{p pos:Pos} (hg:Gl X "range") (hm:X.mg "range"=none) (ha:PA X [a] ta) (hs:starEach [a] X.env=[(false,eval a X.env)]:=by rfl):PI X tg (.Call (.Name "range" p) [a] [] pos) (ZrE ta):=by
 intro pins s σ H R I h
 refine Call_ (Zcb I hg hm boot_range (PyProof.Rows.callWith_type1 (thn (ha pos pins s σ H _ I h) λus s1 ⟨vs,H1,I1,r1,q1⟩=>?_) hs rfl))
 obtain⟨j,e,q1,q2,q⟩:=q1
 subst e
 cases r1 with
 |cons r rr =>
  cases rr
  obtain⟨t,rfl⟩:=r
  exact call_range_1 (Zmz I1 ⋯ ⋯ q1 q2 (by simpa using q))
theorem Zf8 {a b:Expr}{ta:TA}{p pos:Pos} (hg:Gl X "range") (hm:X.mg "range"=none) (ha:PA X [a,b] ta) (hs:starEach [a,b] X.env=[(false,eval a X.env),(false,eval b X.env)]:=by rfl) (hs2:starEach [b] X.env=[(false,eval b X.env)]:=by rfl) :
  PI X tg (.Call (.Name "range" p) [a,b] [] pos) (ZrF ta):=by
 intro pins s σ H R I h
 refine Call_ (Zcb I hg hm boot_range (PyProof.Rows.callWith_type1 (thn (ha pos pins s σ H _ I h) λus s1 ⟨vs,H1,I1,r1,q1⟩=>?_) (by rw[hs,hs2]) (by rw[hs2];rfl)))
 obtain⟨i,j,e,⟨q1,q2,q3,q4⟩,q⟩:=q1
 subst e
 cases r1 with
 |cons r rr =>
  cases rr with
  |cons r' rr =>
   cases rr
   obtain⟨t,rfl⟩:=r
   obtain⟨t',rfl⟩:=r'
   exact call_range_2 (Zmz I1 q1 q2 q3 q4 q)
noncomputable def tFor (wi:TI) (g:TG) (tb:TS):TS:=λD σ H=>wi σ H λJ H1=>∃W:Nat->Nat->St->Hp->Prop,(∃m,W 0 m σ H1)/\∀i m σ H,W i m σ H ->
 (J.stop i H/\D.nx σ H)\/(J.go i H/\∃N:St->Hp->Prop,(∀σ' H',N σ' H'->∃m',m'<m/\W (i+1) m' σ' H')/\∀x H',J.yld i H x H'->g x σ H' fun σ2 H2=>tb {D with nx:=N,ct:=N,bk:=D.nx} σ2 H2)
noncomputable def Zcc (fp:List Addr) (h:Heap):List (Addr×Obj):=fp.filterMap λb=>(h.get? b).map λo=>(b,o)
theorem ZbC {fp:List Addr}{h:Heap}{b:Addr}{o:Obj} (hb:b∈fp) (e:h.get? b=some o):(b,o)∈Zcc fp h:=List.mem_filterMap.mpr ⟨b,hb,by rw[e];rfl⟩
theorem ZhJ {fp:List Addr}{h:Heap}{p:Addr×Obj} (hp:p∈Zcc fp h):p.1∈fp/\h.get? p.1=some p.2:=by
 obtain⟨b,hb,e⟩:=List.mem_filterMap.mp hp
 cases q:h.get? b with
 |none=>rw[q]at e;cases e
 |some o =>
  rw[q]at e
  have e':(b,o)=p:=YM e
  subst e'
  exact⟨hb,q⟩
theorem Inv.pinned {pins:List (Addr×Obj)}{σ:St}{H:Hp}{s:Shared}{fp:List Addr} (I:Inv X pins σ H s) (hf:∀b∈fp,FpOk X pins H b) (ho:∀b∈fp,∃o,s.heap.get? b=some o/\∀v,o.data≠.cell v):Inv X (pins++Zcc fp s.heap) σ H s :=
 I.ZG λp hp=>(YB.mp hp).elim (λz=>I.pin p (Yn _ z)) λz=>by
  obtain⟨hb,e⟩:=ZhJ z
  obtain⟨f0,f1,f2,_⟩:=hf p.1 hb
  obtain⟨o,e',d⟩:=ho p.1 hb
  rw[e]at e';cases e'
  exact⟨e,f0,f1,f2,d⟩
theorem Inv.Zef {pins pl:List (Addr×Obj)}{σ:St}{H:Hp}{s:Shared} (I:Inv X (pins++pl) σ H s):Inv X pins σ H s:=I.ZG λp hp=>I.pin p (Yn _ (YY _ hp))
theorem Zdz {iter:Expr}{body:List Stmt}{wi:TI}{g:TG}{tb:TS}{pos:Pos} (hp:PassesOwn (model X.prog X.w) X.A X.env X.xe) (hc:X.calm=true) (hi:PI X tg iter wi) (hg:PG X tg g) (hb:PSs X body tb)
  (hs:∀x,foldedSetIterable iter X.env x=pure x:=by ac_nf):PS X (.For tg iter body [] pos) (tFor wi g tb):=by
 intro pins s σ H D I h
 refine wpAny_For (thn (hi pins s σ H _ I h) λv s1 h1=>thn h1 λitv s2 h2=>?_) hs
 obtain⟨it,fp,tn,J,H2,e,I2,T,st2,f2,W,⟨m0,w0⟩,turn⟩:=h2
 subst e
 -- what stays true of the iterator's objects through the loop
 have stat:∀{H':Hp},(∀b∈fp,H' b=none)->∀b∈fp,FpOk X pins H' b:=λhn b hb=>⟨hn b hb,(f2 b hb).2⟩
 refine codeAny_forLoop_any (λn s'=>∃i σ' H',Inv X pins σ' H' s'/\tn i s'.heap/\(∀b∈fp,H' b=none)/\W i n σ' H') ?_ m0 ⟨0,σ,H2,I2,st2,λb hb=>(f2 b hb).1,w0⟩
 rintro n s3 ⟨i,σ3,H3,I3,st3,fr3,w3⟩
 rcases turn i n σ3 H3 w3 with⟨stop,qn⟩|⟨go,N,hN,step⟩
 .refine wpAny_passesOwn hp (thn (T.done X rfl rfl rfl hc i pins s3 σ3 H3 X.xe I3 (stat fr3) st3 stop) λr s4 ⟨hr,I4⟩=>?_)
  subst hr
  exact wpAny_execs_nil ⟨σ3,H3,I4,qn⟩
 .refine wpAny_passesOwn hp (thn (T.item X rfl rfl rfl hc i pins s3 σ3 H3 X.xe I3 (stat fr3) st3 go) λr s4 ⟨u,hr,h4⟩=>?_)
  subst hr
  refine wpAny_passesOwn hp (thn h4 λ_ s5 ⟨x,H5,I5,r5,y5,st5,fr5⟩=>?_)
  have I5':=I5.pinned (stat fr5) (T.obj _ _ st5)
  refine wpAny_passesOwn hp (thn (hg _ s5 σ3 H5 x u _ I5' r5 (step x H5 y5)) λ_ s6 ⟨σ6,H6,I6,q6⟩=>?_)
  refine wpAny_passesOwn hp (thn (hb _ s6 σ6 H6 _ I6 q6) λf s7 q7=>?_)
  have again:∀{σ7:St}{H7:Hp},Inv X (pins++Zcc fp s5.heap) σ7 H7 s7->N σ7 H7->∃m,m<n/\∃i σ' H',Inv X pins σ' H' s7/\tn i s7.heap/\(∀b∈fp,H' b=none)/\W i m σ' H':=λ{σ7 H7} I7 n7=>by
   obtain⟨m',hm,w7⟩:=hN σ7 H7 n7
   refine⟨m',hm,i+1,σ7,H7,I7.Zef,T.keep _ _ _ st5 λb hb o e=>(I7.pin (b,o) (Yn _ (Yn _ (ZbC hb e)))).1,λb hb=>?_,w7⟩
   obtain⟨o,e,d⟩:=T.obj _ _ st5 b hb
   exact(I7.pin (b,o) (Yn _ (Yn _ (ZbC hb e)))).2.1
  cases f with
  |next=>obtain⟨σ7,H7,I7,n7⟩:=q7;exact again I7 n7
  |cont=>obtain⟨σ7,H7,I7,n7⟩:=q7;exact again I7 n7
  |brk=>obtain⟨σ7,H7,I7,q7⟩:=q7;exact⟨σ7,H7,I7.Zef,q7⟩
  |ret v=>obtain⟨x7,σ7,H7,I7,r7,q7⟩:=q7;exact⟨x7,σ7,H7,I7.Zef,r7,q7⟩
end
theorem ZmA {K:PySem.W.Frag}{a:Addr}{xs:List V}{g:TG}{tb:TS}{D:Ends}{σ:St}{H:Hp} (Pv:Nat->St->Hp->Prop) (h0:Pv 0 σ H) (hl:∀i σ H,i<=xs.length->Pv i σ H->SqL K H a xs)
  (hs:∀i x σ H,xs[i]?=some x->Pv i σ H->g x σ H fun σ2 H2=>tb {D with nx:=Pv (i+1),ct:=Pv (i+1),bk:=D.nx} σ2 H2) (hd:∀σ H,Pv xs.length σ H->D.nx σ H) :
  ∃W:Nat->Nat->St->Hp->Prop,(∃m,W 0 m σ H)/\∀i m σ H,W i m σ H ->
   ((Itl K a).stop i H/\D.nx σ H)\/((Itl K a).go i H/\∃N:St->Hp->Prop,(∀σ' H',N σ' H'->∃m',m'<m/\W (i+1) m' σ' H')/\∀x H',(Itl K a).yld i H x H'->g x σ H' fun σ2 H2=>tb {D with nx:=N,ct:=N,bk:=D.nx} σ2 H2):=by
 refine⟨λi m σ H=>m=xs.length-i/\i<=xs.length/\Pv i σ H,⟨xs.length,by simp,Yq _,h0⟩,?_⟩
 rintro i m σ H ⟨rfl,hi,p⟩
 have q:=hl i σ H hi p
 by_cases hlt:i<xs.length
 .refine .inr ⟨⟨xs,xs[i],q,by simp[hlt]⟩,Pv (i+1),fun σ' H' p'=>⟨xs.length-(i+1),⋯,rfl,hlt,p'⟩,λx H' y=>?_⟩
  obtain⟨e,y⟩:=y
  subst e
  exact hs i x σ _ (y xs q) p
 .have e:i=xs.length:= ⋯
  subst e
  exact .inl ⟨⟨xs,q,Yc _⟩,hd σ H p⟩
theorem Zeg {lo:Int}{n:Nat}{g:TG}{tb:TS}{D:Ends}{σ:St}{H:Hp} (Pv:Nat->St->Hp->Prop) (h0:Pv 0 σ H)
  (hs:∀i σ H,i<n->Pv i σ H->g (.int (lo+i)) σ H fun σ2 H2=>tb {D with nx:=Pv (i+1),ct:=Pv (i+1),bk:=D.nx} σ2 H2) (hd:∀σ H,Pv n σ H->D.nx σ H) :
  ∃W:Nat->Nat->St->Hp->Prop,(∃m,W 0 m σ H)/\∀i m σ H,W i m σ H ->
   ((Itr lo n).stop i H/\D.nx σ H)\/((Itr lo n).go i H/\∃N:St->Hp->Prop,(∀σ' H',N σ' H'->∃m',m'<m/\W (i+1) m' σ' H')/\∀x H',(Itr lo n).yld i H x H'->g x σ H' fun σ2 H2=>tb {D with nx:=N,ct:=N,bk:=D.nx} σ2 H2):=by
 refine⟨λi m σ H=>m=n-i/\i<=n/\Pv i σ H,⟨n,by simp,Yq _,h0⟩,?_⟩
 rintro i m σ H ⟨rfl,hi,p⟩
 by_cases hlt:i<n
 .refine .inr ⟨hlt,Pv (i+1),fun σ' H' p'=>⟨n-(i+1),⋯,rfl,hlt,p'⟩,λx H' y=>?_⟩
  obtain⟨e,y⟩:=y
  subst e y
  exact hs i σ _ hlt p
 .have e:i=n:= ⋯
  subst e
  exact .inl ⟨Yc _,hd σ H p⟩
noncomputable abbrev R2:=V->V->Hp->VK->Prop
noncomputable def OpR (X:Cx) (f:Value->Value->Sem Value) (r:R2):Prop :=
 ∀(pins:List (Addr×Obj)) (s:Shared) (σ:St) (H:Hp) (x y:V) (v u:Value) (Q:VK),Inv X pins σ H s->RelV x v->RelV y u->r x y H Q ->
  wpAny (model X.prog X.w) X.A (f v u) (EP X pins σ Q) X.xe s
noncomputable def UnR (X:Cx) (f:Value->Sem Value) (r:V->Hp->VK->Prop):Prop :=
 ∀(pins:List (Addr×Obj)) (s:Shared) (σ:St) (H:Hp) (x:V) (v:Value) (Q:VK),Inv X pins σ H s->RelV x v->r x H Q ->
  wpAny (model X.prog X.w) X.A (f v) (EP X pins σ Q) X.xe s
noncomputable def Za1 (X:Cx) (f:Value) (r:List V->Hp->VK->Prop):Prop :=
 ∀(pins:List (Addr×Obj)) (s:Shared) (σ:St) (H:Hp) (xs:List V) (us:List Value) (Q:VK),Inv X pins σ H s->Vals xs us->r xs H Q ->
  wpAny (model X.prog X.w) X.A (call f us) (EP X pins σ Q) X.xe s
noncomputable def TruR (X:Cx) (r:V->Hp->(Bool->Hp->Prop)->Prop):Prop :=
 ∀(pins:List (Addr×Obj)) (s:Shared) (σ:St) (H:Hp) (x:V) (v:Value) (Q:Bool->Hp->Prop),Inv X pins σ H s->RelV x v->r x H Q ->
  wpAny (model X.prog X.w) X.A (truthy v) (TP X pins σ Q) X.xe s
noncomputable def tOp (r:R2) (ta tb:TE):TE:=fun σ H Q=>ta σ H λx H1=>tb σ H1 λy H2=>r x y H2 Q
noncomputable def tUn (r:V->Hp->VK->Prop) (ta:TE):TE:=fun σ H Q=>ta σ H λx H1=>r x H1 Q
noncomputable def rI (C:Int->Int->Prop) (g:Int->Int->V):R2:=λx y H Q=>∃i j,x=.int i/\y=.int j/\C i j/\Q (g i j) H
noncomputable def rI0 (g:Int->Int->V):R2:=λx y H Q=>∃i j,x=.int i/\y=.int j/\Q (g i j) H
noncomputable def rU (g:Int->V):V->Hp->VK->Prop:=λx H Q=>∃i,x=.int i/\Q (g i) H
section
variable {X:Cx}{a b c:Expr}{ta tb tc:TE}{pos:Pos}
theorem binT (ha:PE X a ta) (hb:PE X b tb) {pins:List (Addr×Obj)}{s:Shared}{σ:St}{H:Hp}{R:V->V->Hp->Prop} (I:Inv X pins σ H s)
  (h:ta σ H λx H1=>tb σ H1 λy H2=>R x y H2) {Q:Value->Shared->Prop}{f:Value->Value->Sem Value}
  (hf:∀v u s2 x y H2,Inv X pins σ H2 s2->RelV x v->RelV y u->R x y H2->wpAny (model X.prog X.w) X.A (f v u) Q X.xe s2) :
  wpAny (model X.prog X.w) X.A (eval a X.env) (λv s₁=>wpAny (model X.prog X.w) X.A (eval b X.env) (λu s₂=>wpAny (model X.prog X.w) X.A (f v u) Q X.xe s₂) X.xe s₁) X.xe s:=by
 refine thn (ha pins s σ H _ I h) λv s1 ⟨x,H1,I1,r1,q1⟩=>?_
 refine thn (hb pins s1 σ H1 _ I1 q1) λu s2 ⟨y,H2,I2,r2,q2⟩=>?_
 exact hf v u s2 x y H2 I2 r1 r2 q2
theorem Zy {op:Operator}{r:R2} (ho:OpR X (binaryOp op) r) (ha:PE X a ta) (hb:PE X b tb):PE X (.BinOp a op b pos) (tOp r ta tb):=by
 intro pins s σ H Q I h
 exact wpAny_BinOp (binT ha hb I h λv u s2 x y H2 I2 rx ry q=>ho pins s2 σ H2 x y v u Q I2 rx ry q)
theorem Zfr {op:UnaryOp}{r:V->Hp->VK->Prop} (ho:UnR X (unaryOp op) r) (ha:PE X a ta):PE X (.UnaryOp op a pos) (tUn r ta):=by
 intro pins s σ H Q I h
 exact UnaryOp_ (thn (ha pins s σ H _ I h) λv s1 ⟨x,H1,I1,r1,q1⟩=>ho pins s1 σ H1 x v Q I1 r1 q1)
theorem opI {f:Value->Value->Sem Value}{C:Int->Int->Prop}{g:Int->Int->Int}
  (rule:∀(i j:Int) (t u:Tok) (s:Shared) (Q:Value->Shared->Prop) (E:Value->Shared->Prop),C i j->Q (.int (g i j) s.toks) {s with toks:=s.toks+1}->wpAny (model X.prog X.w) X.A (f (.int i t) (.int j u)) Q E s) :
  OpR X f (rI C λi j=>.int (g i j)):=by
 intro pins s σ H x y v u Q I rx ry h
 obtain⟨i,j,rfl,rfl,hc,q⟩:=h
 obtain⟨t,rfl⟩:=rx
 obtain⟨t',rfl⟩:=ry
 exact rule i j t t' s _ _ hc ⟨.int (g i j),H,I.tok _,⟨_,rfl⟩,q⟩
theorem opI0 {f:Value->Value->Sem Value}{g:Int->Int->Int}
  (rule:∀(i j:Int) (t u:Tok) (s:Shared) (Q:Value->Shared->Prop) (E:Value->Shared->Prop),Q (.int (g i j) s.toks) {s with toks:=s.toks+1}->wpAny (model X.prog X.w) X.A (f (.int i t) (.int j u)) Q E s) :
  OpR X f (rI0 λi j=>.int (g i j)):=by
 intro pins s σ H x y v u Q I rx ry h
 obtain⟨i,j,rfl,rfl,q⟩:=h
 obtain⟨t,rfl⟩:=rx
 obtain⟨t',rfl⟩:=ry
 exact rule i j t t' s _ _ ⟨.int (g i j),H,I.tok _,⟨_,rfl⟩,q⟩
theorem opB0 {f:Value->Value->Sem Value}{g:Int->Int->Bool}
  (rule:∀(i j:Int) (t u:Tok) (s:Shared) (Q:Value->Shared->Prop) (E:Value->Shared->Prop),Q (.bool (g i j)) s->wpAny (model X.prog X.w) X.A (f (.int i t) (.int j u)) Q E s) :
  OpR X f (rI0 λi j=>.bl (g i j)):=by
 intro pins s σ H x y v u Q I rx ry h
 obtain⟨i,j,rfl,rfl,q⟩:=h
 obtain⟨t,rfl⟩:=rx
 obtain⟨t',rfl⟩:=ry
 exact rule i j t t' s _ _ ⟨.bl (g i j),H,I,rfl,q⟩
noncomputable def ZnN (i j:Int):Prop:=0<=j/\j<=1000000/\i.natAbs<2 ^ 64
theorem Zcd:OpR X (binaryOp .Add) (rI0 λi j=>.int (i+j)):=opI0 λ_ _ _ _ _ _ _ q=>add_int q
theorem ZhK:OpR X (binaryOp .Sub) (rI0 λi j=>.int (i-j)):=opI0 λ_ _ _ _ _ _ _ q=>sub_int q
theorem Zfs:OpR X (binaryOp .Mod) (rI (λ_ j=>0<j) λi j=>.int (i % j)):=opI λi j _ _ _ _ _ hc q=>by
 have h1:(0:Int)<j:=hc
 exact mod_int' ⋯ (by rw[Int.fmod_eq_emod_of_nonneg i ⋯];exact q)
theorem ZgA:OpR X (binaryOp .Pow) (rI ZnN λi j=>.int (i ^ j.toNat)):=opI λ_ _ _ _ _ _ _ hc q=>pow_int_small hc.1 hc.2.1 hc.2.2 q
theorem unI {f:Value->Sem Value}{g:Int->Int}
  (rule:∀(i:Int) (t:Tok) (s:Shared) (Q:Value->Shared->Prop) (E:Value->Shared->Prop),Q (.int (g i) s.toks) {s with toks:=s.toks+1}->wpAny (model X.prog X.w) X.A (f (.int i t)) Q E s) :
  UnR X f (rU λi=>.int (g i)):=by
 intro pins s σ H x v Q I rx h
 obtain⟨i,rfl,q⟩:=h
 obtain⟨t,rfl⟩:=rx
 exact rule i t s _ _ ⟨.int (g i),H,I.tok _,⟨_,rfl⟩,q⟩
theorem ZcL:UnR X (unaryOp .USub) (rU λi=>.int (-i)):=unI λ_ _ _ _ _ q=>neg_int q
end
noncomputable def ZnO:V->V->Bool
 |.non,.non=>true|.non,.int _=>true|.int _,.non=>true|.non,.bl _=>true|.bl _,.non=>true|.non,.str _=>true|.str _,.non=>true
 |.int _,.int _=>true|.bl _,.bl _=>true|.str _,.str _=>true|.byt _,.byt _=>true
 |.int _,.str _=>true|.str _,.int _=>true|.bl _,.str _=>true|.str _,.bl _=>true
 |_,_=>false
noncomputable def rEq:R2:=λx y H Q=>ZnO x y=true/\Q (.bl (decide (x=y))) H
theorem ZuA {i j:Int}:decide (V.int i=V.int j)=(i==j):=by
 rw[Bool.eq_iff_iff]
 simp
theorem dec_bl {i j:Bool}:decide (V.bl i=V.bl j)=(i==j):=by
 rw[Bool.eq_iff_iff]
 simp
theorem ZuB {i j:Str}:decide (V.str i=V.str j)=(i==j):=by
 rw[Bool.eq_iff_iff]
 simp
theorem ZuC {i j:Array UInt8}:decide (V.byt i=V.byt j)=(i.toList==j.toList):=by
 rw[Bool.eq_iff_iff]
 cases i
 cases j
 simp
section
variable {X:Cx}{a b c:Expr}{ta tb tc:TE}{pos:Pos}
theorem ZaK {pins:List (Addr×Obj)}{σ:St}{H:Hp}{s:Shared}{Q:VK}{k k':Bool} (I:Inv X pins σ H s) (q:Q (.bl k) H) (e:k=k'):EP X pins σ Q (.bool k') s:=by
 subst e
 exact⟨.bl k,H,I,rfl,q⟩
theorem Zgm:OpR X (compareOp .Eq) rEq:=by
 intro pins s σ H x y v u Q I rx ry h
 obtain⟨hs,q⟩:=h
 cases x with
 |non =>
  cases rx
  cases y with
  |non=>cases ry;exact PySem.EqNone.eq_none_none (ZaK I q (by simp))
  |bl j=>cases ry;exact PySem.EqNone.eq_none_bool (ZaK I q (by simp))
  |int j=>obtain⟨t',rfl⟩:=ry;exact PySem.EqNone.eq_none_int (ZaK I q (by simp))
  |str j=>obtain⟨t',rfl⟩:=ry;exact PySem.EqNone.eq_none_str (ZaK I q (by simp))
  |_=>exact absurd (show false=true from hs) YW
 |bl i =>
  cases rx
  cases y with
  |non=>cases ry;exact PySem.EqNone.eq_bool_none (ZaK I q (by simp))
  |bl j=>cases ry;exact eq_bool (ZaK I q dec_bl)
  |str j=>obtain⟨t',rfl⟩:=ry;exact PySem.EqMixed.eq_bool_str (ZaK I q (by simp))
  |_=>exact absurd (show false=true from hs) YW
 |int i =>
  obtain⟨t,rfl⟩:=rx
  cases y with
  |non=>cases ry;exact PySem.EqNone.eq_int_none (ZaK I q (by simp))
  |int j=>obtain⟨t',rfl⟩:=ry;exact eq_int (ZaK I q ZuA)
  |str j=>obtain⟨t',rfl⟩:=ry;exact PySem.EqMixed.eq_int_str (ZaK I q (by simp))
  |_=>exact absurd (show false=true from hs) YW
 |str i =>
  obtain⟨t,rfl⟩:=rx
  cases y with
  |non=>cases ry;exact PySem.EqNone.eq_str_none (ZaK I q (by simp))
  |bl j=>cases ry;exact PySem.EqMixed.eq_str_bool (ZaK I q (by simp))
  |int j=>obtain⟨t',rfl⟩:=ry;exact PySem.EqMixed.eq_str_int (ZaK I q (by simp))
  |str j=>obtain⟨t',rfl⟩:=ry;exact eq_str (ZaK I q ZuB)
  |_=>exact absurd (show false=true from hs) YW
 |byt i =>
  obtain⟨t,rfl⟩:=rx
  cases y with
  |byt j=>obtain⟨t',rfl⟩:=ry;exact PySem.W.eq_bytes (ZaK I q ZuC)
  |_=>exact absurd (show false=true from hs) YW
 |_=>cases y<;>exact absurd (show false=true from hs) YW
theorem Zg6:OpR X (compareOp .Lt) (rI0 λi j=>.bl (decide (i<j))):=opB0 λ_ _ _ _ _ _ _ q=>lt_int q
theorem ZkI:OpR X (compareOp .LtE) (rI0 λi j=>.bl (decide (i<=j))):=opB0 λ_ _ _ _ _ _ _ q=>le_int q
theorem Zfd:OpR X (compareOp .Gt) (rI0 λi j=>.bl (decide (j<i))):=opB0 λ_ _ _ _ _ _ _ q=>gt_int q
theorem ZmB:OpR X (compareOp .GtE) (rI0 λi j=>.bl (decide (j<=i))):=opB0 λ_ _ _ _ _ _ _ q=>ge_int q
theorem ZrG:OpR X (compareOp .Is) (λx y H Q=>y=.non/\Q (.bl (decide (x=.non))) H):=by
 intro pins s σ H x y v u Q I rx ry h
 obtain⟨rfl,q⟩:=h
 cases ry
 refine is_none_gen (ZaK I q ?_)
 cases x<;>first
  |(cases rx;rfl)
  |(obtain⟨t,rfl⟩:=rx;rfl)
theorem ZbM:OpR X (compareOp .IsNot) (λx y H Q=>y=.non/\Q (.bl (!decide (x=.non))) H):=by
 intro pins s σ H x y v u Q I rx ry h
 obtain⟨rfl,q⟩:=h
 cases ry
 refine isnot_none_gen (ZaK I q ?_)
 cases x<;>first
  |(cases rx;rfl)
  |(obtain⟨t,rfl⟩:=rx;rfl)
theorem Zl (b:Expr) {op:CmpOp} (h:op≠.In:=by decide) (h2:op≠.NotIn:=by decide):behindInMarks op b=false:=by
 have e1:(op==CmpOp.In)=false:=by cases op<;>first|rfl|exact absurd rfl h
 have e2:(op==CmpOp.NotIn)=false:=by cases op<;>first|rfl|exact absurd rfl h2
 cases b<;>simp[behindInMarks,e1,e2]
theorem Zeu {op:CmpOp}{r:R2} (ho:OpR X (compareOp op) r) (ha:PE X a ta) (hb:PE X b tb) (hm:behindInMarks op b=false):PE X (.Compare a [op] [b] pos) (tOp r ta tb):=by
 intro pins s σ H Q I h
 exact wpAny_Compare1 (binT ha hb I h λv u s2 x y H2 I2 rx ry q=>ho pins s2 σ H2 x y v u Q I2 rx ry q) hm
noncomputable def Zpn (t:TE):TT:=fun σ H Q=>t σ H λx H'=>∃k,x=.bl k/\Q k H'
theorem Zj {op:CmpOp}{r:R2} (ho:OpR X (compareOp op) r) (ha:PE X a ta) (hb:PE X b tb) (hm:behindInMarks op b=false):PT X (.Compare a [op] [b] pos) (Zpn (tOp r ta tb)):=by
 intro pins s σ H Q I h
 refine wpAny_isTrue_Compare1 (thn (ha pins s σ H _ I h) λv s1 ⟨x,H1,I1,r1,q1⟩=>thn (hb pins s1 σ H1 _ I1 q1) λu s2 ⟨y,H2,I2,r2,q2⟩ =>
  thn (ho pins s2 σ H2 x y v u _ I2 r1 r2 q2) λc s3 ⟨z,H3,I3,r3,k,e,q3⟩=>?_) hm
 subst e
 cases r3
 exact wpAny_truthy_bool ⟨H3,I3,q3⟩
noncomputable def ZnP (r r':R2) (ta tb tc:TE):TE:=fun σ H Q=>ta σ H λx H1=>tb σ H1 λy H2=>r x y H2 λz H3=>∃k,z=.bl k /\
 (if k=true then tc σ H3 λw' H4=>r' y w' H4 Q else Q (.bl false) H3)
theorem ZrH {op op':CmpOp}{r r':R2} (ho:OpR X (compareOp op) r) (ho':OpR X (compareOp op') r') (ha:PE X a ta) (hb:PE X b tb) (hc:PE X c tc)
  (hm:lastMarks [op,op'] [b,c]=false:=by with_unfolding_all rfl):PT X (.Compare a [op,op'] [b,c] pos) (Zpn (ZnP r r' ta tb tc)):=by
 intro pins s σ H Q I h
 refine isTrue_chain (thn (ha pins s σ H _ I h) λv s1 ⟨x,H1,I1,r1,q1⟩=>test_link (thn (hb pins s1 σ H1 _ I1 q1) λu s2 ⟨y,H2,I2,r2,q2⟩ =>
  thn (ho pins s2 σ H2 x y v u _ I2 r1 r2 q2) λd s3 ⟨z,H3,I3,r3,k,e,q3⟩=>?_)) hm
 subst e
 cases r3
 refine wpAny_truthy_bool ?_
 cases k with
 |false =>
  obtain⟨k',e',q'⟩:=q3
  cases e'
  exact ite_ff ⟨H3,I3,q'⟩
 |true =>
  refine ite_tt (test_last (thn (hc pins s3 σ H3 _ I3 q3) λw' s4 ⟨z',H4,I4,r4,q4⟩=>thn (ho' pins s4 σ H4 y z' u w' _ I4 r2 r4 q4) λd' s5 ⟨z2,H5,I5,r5,k2,e2,q5⟩=>?_))
  subst e2
  cases r5
  exact wpAny_truthy_bool ⟨H5,I5,q5⟩
noncomputable def TruV (K:PySem.W.Frag) (x:V) (H:Hp) (k:Bool):Prop :=
 match x with
 |.non=>k=false
 |.bl b=>k=b
 |.int i=>k=(i != 0)
 |.str y=>y.length<=sizeLine/\k=((y.length:Int) != 0)
 |.byt y=>y.size<=sizeLine/\k=((y.size:Int) != 0)
 |.ref p=>(∃xs,SqL K H p xs/\k=!xs.isEmpty)\/(∃xs,SqT K H p xs/\k=!xs.isEmpty)\/∃kvs,H p=some (.dK kvs)/\k=!kvs.isEmpty
 |_=>False
theorem ZnQ {κ:Type}{kvs:List (κ×V)}{vs:List (κ×Value)} (r:KV kvs vs):(!vs.isEmpty)=!kvs.isEmpty:=by
 cases r<;>rfl
theorem Zi9 {xs:List V}{its:List Value} (r:Vals xs its):(!its.toArray.isEmpty)=!xs.isEmpty:=by
 cases r<;>simp
theorem Zja:(sizeLine:Nat)<2 ^ 63:=by rw[sizeLine_eq];decide
theorem tru_ok:TruR X (λx H Q=>∃k,TruV X.K x H k/\Q k H):=by
 intro pins s σ H x v Q I rx h
 obtain⟨k,e,q⟩:=h
 have hl:=Zja
 have hs:sizeLine=16777216:=sizeLine_eq
 cases x with
 |non =>
  cases rx
  have e':k=false:=e
  subst e'
  exact truthy_none ⟨H,I,q⟩
 |bl b =>
  cases rx
  have e':k=b:=e
  subst e'
  exact wpAny_truthy_bool ⟨H,I,q⟩
 |int i =>
  obtain⟨t,rfl⟩:=rx
  have e':k=(i != 0):=e
  subst e'
  exact PySem.P.truthy_int ⟨H,I,q⟩
 |str y =>
  obtain⟨t,rfl⟩:=rx
  obtain⟨hy,e'⟩:y.length<=sizeLine/\k=((y.length:Int) != 0):=e
  subst e'
  exact PySem.P.truthy_str ⋯ ⟨H,I.tok _,q⟩
 |byt y =>
  obtain⟨t,rfl⟩:=rx
  obtain⟨hy,e'⟩:y.size<=sizeLine/\k=((y.size:Int) != 0):=e
  subst e'
  exact PySem.W.truthy_bytes ⋯ ⟨H,I.tok _,q⟩
 |ref p =>
  cases rx
  have e':(∃xs,SqL X.K H p xs/\k=!xs.isEmpty)\/(∃xs,SqT X.K H p xs/\k=!xs.isEmpty)\/∃kvs,H p=some (.dK kvs)/\k=!kvs.isEmpty:=e
  rcases e' with⟨xs,hx,e'⟩|⟨xs,hx,e'⟩|⟨kvs,hx,e'⟩
  .subst e'
   obtain⟨its,r,pl,hz⟩:=I.list hx
   have hlen:=r.length
   exact wpAny_truthy_list pl.isList (by simp only[Ys];omega) ⟨H,I.tok _,by rw[Zi9 r];exact q⟩
  .subst e'
   obtain⟨its,r,pl,hz⟩:=I.tuple hx
   have hlen:=r.length
   exact truthy_tuple pl (by simp only[Ys];omega) ⟨H,I.tok _,by rw[Zi9 r];exact q⟩
  .subst e'
   obtain⟨hz,hS,vs,r,m⟩:kvs.length<=sizeLine/\(p==sysModules)=false/\∃vs,KV kvs vs/\s.heap.DictOf (Zlo X.prog X.w) p vs:=I.hok p _ hx
   have hlen:kvs.length=vs.length:=Paired.length r
   exact wpAny_truthy_dict hS m ⋯ ⟨H,I.tok _,by rw[ZnQ r];exact q⟩
 |_=>exact(show False from e).elim
theorem vals1 {x:V}{us:List Value} (r:Vals [x] us):∃u,us=[u]/\RelV x u:=by
 cases r with
 |cons r1 r2=>cases r2;exact⟨_,rfl,r1⟩
theorem vals2 {x y:V}{us:List Value} (r:Vals [x,y] us):∃u w',us=[u,w']/\RelV x u/\RelV y w':=by
 cases r with
 |cons r1 r2 =>
  cases r2 with
  |cons r3 r4=>cases r4;exact⟨_,_,rfl,r1,r3⟩
theorem Zqh (hc:X.calm=true):Za1 X (.builtin "max") (λxs H Q=>∃i j,xs=[.int i,.int j]/\Q (.int (if j>i then j else i)) H):=by
 intro pins s σ H xs us Q I r h
 obtain⟨i,j,rfl,q⟩:=h
 obtain⟨u,w',rfl,⟨t,rfl⟩,⟨t',rfl⟩⟩:=vals2 r
 refine max_two_ints (I.ok.hd hc) λh' tk k=>⟨_,H,I.kept k,?_,q⟩
 by_cases hj:j>i
 .rw[Yd hj,Yd hj];exact⟨_,rfl⟩
 .rw[Yb hj,Yb hj];exact⟨_,rfl⟩
theorem Zqi (hc:X.calm=true):Za1 X (.builtin "min") (λxs H Q=>∃i j,xs=[.int i,.int j]/\Q (.int (if j<i then j else i)) H):=by
 intro pins s σ H xs us Q I r h
 obtain⟨i,j,rfl,q⟩:=h
 obtain⟨u,w',rfl,⟨t,rfl⟩,⟨t',rfl⟩⟩:=vals2 r
 refine min_two_ints (I.ok.hd hc) λh' tk k=>⟨_,H,I.kept k,?_,q⟩
 by_cases hj:j<i
 .rw[Yd hj,Yd hj];exact⟨_,rfl⟩
 .rw[Yb hj,Yb hj];exact⟨_,rfl⟩
end
structure ObjM (h:Heap) (x dx C:Addr) (mA:Str->Option Value):Prop where
 obj:h.get? x=some (PySem.W.instObj C dx)
 ns:h.Ns1 dx mA
 ne:dx≠x
theorem Zqj {h:Heap}{dx:Addr}{mA:Str->Option Value} (n:h.Ns1 dx mA):∃od,h.get? dx=some od/\∀name,PySem.W.lookIn name od=some (mA name):=by
 obtain⟨o,es,ep,ho,hd,hk,_,hm⟩:=n
 refine⟨o,ho,λname=>?_⟩
 have e:=hm name
 unfold nsFind findBy at e
 rw[<-Array.find?_toList]at e
 unfold PySem.W.lookIn
 rw[hd]
 dsimp only
 split
 .rename_i y q
  rw[q]at e
  exact congrArg some e
 .rename_i q
  rw[q]at e
  have a:es.toList.any (·.refKey)=false:=by
   rw[List.any_eq_false]
   intro y hy
   obtain⟨z,t,hkey⟩:=hk y (Array.mem_toList_iff.mp hy)
   simp[DictEntry.refKey,hkey]
  have a':¬ es.toList.any (·.refKey)=true:=by rw[a];exact YW
  rw[Yb a']
  exact congrArg some e
theorem ObjM.look {h:Heap}{x dx C:Addr}{mA:Str->Option Value} (I:ObjM h x dx C mA):∃od,PySem.W.InstAt h x (PySem.W.instObj C dx) C (some od)/\∀name,PySem.W.lookIn name od=some (mA name) :=
 let ⟨od,ho,hl⟩:=Zqj I.ns
 ⟨od,⟨I.obj,rfl,rfl,ho⟩,hl⟩
section
variable {P:Program}{w:World}{H H':Hp}{h h':Heap}{a C dx:Addr}{fs fs':List (Str×V)}
theorem ZiR (hok:HOk P w H h) (e:H a=some (.ins C dx fs)):∃mA,ObjM h a dx C mA/\(∀f,RelO (fs.lookup f) (mA f))/\PySem.Within mA (fs.map (·.1))/\fs.length<=1000/\H dx=some (.own a):=by
 obtain⟨d,z,ne,ob,mA,n,r,q⟩:=(show Zak P w H h a (.ins C dx fs)from hok a _ e)
 exact⟨mA,⟨ob,n,ne⟩,r,q,z,d⟩
end
structure Cls (K:PySem.W.Frag) (C:Addr):Prop where
 pg:PySem.W.plainGet K C Str.empty=true
 hd:PySem.W.hasDictIn K C=true
 po:PySem.W.plainOver K C=true
 sa:PySem.W.findIn K (.ref C) "__setattr__"=some (some (.builtin "object.__setattr__"))
theorem Cls.get {K:PySem.W.Frag}{C:Addr} (c:Cls K C) (f:Str):PySem.W.plainGet K C f=true:=c.pg
section
variable {X:Cx}{pins:List (Addr×Obj)}{σ:St}{H:Hp}{s:Shared}{A:Around}{E:Value->Shared->Prop}{Q:Value->Shared->Prop}{c:Value}{b:Bool}
inductive TyOf (K:PySem.W.Frag) (H:Hp):V->Value->Prop where
 |non:TyOf K H .non (.type "NoneType")
 |bl (x:Bool):TyOf K H (.bl x) (.type "bool")
 |int (i:Int):TyOf K H (.int i) (.type "int")
 |str (x:Str):TyOf K H (.str x) (.type "str")
 |flt (x:UInt64):TyOf K H (.flt x) (.type "float")
 |lst {a:Addr}{xs:List V} (e:H a=some (.lst xs)):TyOf K H (.ref a) (.type "list")
 |frz {a:Addr}{o:Obj}{xs:List V} (e:H a=some (.frz o (.lst xs))):TyOf K H (.ref a) (.type "list")
 |tup {a:Addr}{xs:List V} (e:H a=some (.tup xs)):TyOf K H (.ref a) (.type "tuple")
 |dK {a:Addr}{kvs:List (Key×V)} (e:H a=some (.dK kvs)):TyOf K H (.ref a) (.type "dict")
 |dT {a:Addr}{kvs:List (List Key×V)} (e:H a=some (.dT kvs)):TyOf K H (.ref a) (.type "dict")
 |ins {a C dx:Addr}{fs:List (Str×V)} (e:H a=some (.ins C dx fs)) (cl:Cls K C) (ha:PySem.W.findIn K (.ref C) "__class__"=some (some (.builtin "object.__class__")))
   (hn:PySem.W.specialIn K (.builtin "object.__class__") "__get__"=some (some (.builtin "getset_descriptor.__get__"))) (htk:PySem.W.takesIn K (.builtin "object.__class__")=some true)
   (hm:PySem.W.mroIn K C (.type "object")=some true):TyOf K H (.ref a) (.ref C)
theorem Zqk {x:V}{u t:Value} (I:Inv X pins σ H s) (rx:RelV x u) (ty:TyOf X.K H x t) (e:PySem.W.kitOne X.K t c=some b) (h:∀tk,Q (.bool b) {s with toks:=tk}) :
  wpAny (model X.prog X.w) A (call (.builtin "isinstance") [u,c]) Q E s:=by
 cases ty with
 |non=>cases(show u=Value.none from rx);exact PySem.W.kia_one PySem.W.kitx_none I.kIn True.intro e (λz=>nomatch z) h
 |bl y=>cases(show u=Value.bool y from rx);exact PySem.W.kia_one PySem.W.kitx_bool I.kIn True.intro e (λz=>nomatch z) h
 |int i=>obtain⟨t,q⟩:=(show ∃t,u=Value.int i t from rx);cases q;exact PySem.W.kia_one PySem.W.kitx_int I.kIn True.intro e (λz=>nomatch z) h
 |str y=>obtain⟨t,q⟩:=(show ∃t,u=Value.str y t from rx);cases q;exact PySem.W.kia_one PySem.W.kitx_str I.kIn True.intro e (λz=>nomatch z) h
 |flt y=>obtain⟨t,q⟩:=(show ∃t,u=Value.float y t from rx);cases q;exact PySem.W.kia_one PySem.W.kitx_float I.kIn True.intro e (λz=>nomatch z) h
 |@lst a xs ea =>
  cases(show u=Value.ref a from rx)
  obtain⟨_,_,n,_,h1⟩:=(show Zak X.prog X.w H s.heap a (.lst xs)from I.hok a _ ea)
  exact PySem.W.kia_one PySem.W.kitx_list I.kIn ⟨_,h1,rfl⟩ e (λz=>nomatch z) h
 |@frz a ob xs ea =>
  cases(show u=Value.ref a from rx)
  obtain⟨_,_,_,n,_,h1⟩:=(show Zak X.prog X.w H s.heap a (.frz ob (.lst xs))from I.hok a _ ea)
  exact PySem.W.kia_one PySem.W.kitx_list I.kIn ⟨_,h1,rfl⟩ e (λz=>nomatch z) h
 |@tup a xs ea =>
  cases(show u=Value.ref a from rx)
  obtain⟨_,_,_,p⟩:=(show Zak X.prog X.w H s.heap a (.tup xs)from I.hok a _ ea)
  obtain⟨o,h1,h2,_⟩:=p
  exact PySem.W.kia_one PySem.W.kitx_tuple I.kIn ⟨o,h1,h2⟩ e (λz=>nomatch z) h
 |@dK a kvs ea =>
  cases(show u=Value.ref a from rx)
  obtain⟨_,_,vs,_,p⟩:=(show Zak X.prog X.w H s.heap a (.dK kvs)from I.hok a _ ea)
  obtain⟨o,es,ep,h1,h2,_⟩:=p
  exact PySem.W.kia_one PySem.W.kitx_dict I.kIn ⟨o,h1,h2.1⟩ e (λz=>nomatch z) h
 |@dT a kvs ea =>
  cases(show u=Value.ref a from rx)
  obtain⟨_,_,xs,_,o,es,ep,h1,h2,_⟩:=(show Zak X.prog X.w H s.heap a (.dT kvs)from I.hok a _ ea)
  exact PySem.W.kia_one PySem.W.kitx_dict I.kIn ⟨o,h1,h2.1⟩ e (λz=>nomatch z) h
 |@ins a C dx fs ea cl ha hn htk hm =>
  cases(show u=Value.ref a from rx)
  obtain⟨mA,O,_⟩:=ZiR I.hok ea
  obtain⟨od,J,_⟩:=O.look
  exact PySem.W.kia_one (PySem.W.kitx_own (cl.get _) cl.hd ha hn htk hm) I.kIn J e (λz=>nomatch z) h
end
structure Room (k:Nat) (A:Around):Prop where
 hd:A.handled=none
 dp:A.depth+3*k+5<recursionLimit
 un:A.units+16*k+200<cLine
theorem Room.mono {j k:Nat}{A:Around} (r:Room k A) (h:j<=k):Room j A:=⟨r.hd,by have:=r.dp;omega,by have:=r.un;omega⟩
theorem Room.deeper {k:Nat}{A:Around} (r:Room (k+1) A) (env:Env):Room k (A.deeper env) :=
 ⟨r.hd,by have:=r.dp;show A.depth+1+3*k+5 < _;omega,by have:=r.un;show A.units+3+16*k+200 < _;omega⟩
theorem Room.in1 {k:Nat}{A:Around} (r:Room (k+1) A):Room k A.in1 :=
 ⟨r.hd,by have:=r.dp;show A.depth+3*k+5 < _;omega,by have:=r.un;show A.units+1+16*k+200 < _;omega⟩
theorem Room.depth {k:Nat}{A:Around} (r:Room k A):A.depth<recursionLimit:=by have:=r.dp;omega
noncomputable def Zql:TA:=λ_ H Q=>Q [] H
noncomputable def ZkJ (ta:TE) (tr:TA):TA:=fun σ H Q=>ta σ H λx H1=>tr σ H1 λxs H2=>Q (x::xs) H2
section
variable {X:Cx}{e:Expr}{es:List Expr}{te:TE}{t:TA}{pos:Pos}
theorem Zb:PA X [] Zql:=λ_ _ _ _ H Q I h=>Calls.spliced_nil ⟨[],H,I,.nil,h⟩
theorem Za (ha:PE X e te) (hr:PA X es t) (hs:starEach (e::es) X.env=(false,eval e X.env)::starEach es X.env:=by rfl):PA X (e::es) (ZkJ te t):=by
 intro pos pins s σ H Q I h
 rw[hs]
 show wpAny _ _ (spliced ((false,eval e X.env)::backTo pos (starEach es X.env))) _ _ s
 refine Calls.spliced_cons (thn (ha pins s σ H _ I h) λu s1 ⟨x,H1,I1,r1,q1⟩=>?_)
 exact thn (hr pos pins s1 σ H1 _ I1 q1) λus s2 ⟨xs,H2,I2,r2,q2⟩=>⟨x::xs,H2,I2,.cons r1 r2,q2⟩
noncomputable def tTup (t:TA):TE:=fun σ H Q=>t σ H λxs H1=>xs.length<=sizeLine/\∀p,H1 p=none->Q (.ref p) (upd H1 p (.tup xs))
noncomputable def tLst (t:TA):TE:=fun σ H Q=>t σ H λxs H1=>xs.length<=sizeLine/\∀p,H1 p=none->Q (.ref p) (upd H1 p (.lst xs))
theorem ZdA {x1} (h:PA X es t):PE X (.Tuple es x1 pos) (tTup t):=by
 intro pins s σ H Q I hq
 refine wpAny_Tuple_spliced (thn (h pos pins s σ H _ I hq) λus s1 ⟨xs,H1,I1,r,z,q⟩=>⟨by rw[<-r.length];exact z,?_⟩)
 have hf:H1 s1.heap.objs.size=none:=I1.hok.fresh (Yc _)
 refine⟨.ref s1.heap.objs.size,upd H1 s1.heap.objs.size (.tup xs),I1.laid (t':=s1.toks) (λb u e=>Ym _ e) (Yc _) ?_,rfl,q _ hf⟩
 exact⟨z,us,r,⟨_,YC _ rfl,rfl,_,rfl⟩⟩
theorem ZZ (h:PA X es t):PE X (.List es pos) (tLst t):=by
 intro pins s σ H Q I hq
 refine wpAny_List_spliced (thn (h pos pins s σ H _ I hq) λus s1 ⟨xs,H1,I1,r,z,q⟩=>⟨by rw[<-r.length];exact z,?_⟩)
 have hf:H1 s1.heap.objs.size=none:=I1.hok.fresh (Yc _)
 refine⟨.ref s1.heap.objs.size,upd H1 s1.heap.objs.size (.lst xs),I1.laid (t':=s1.toks) (λb u e=>Ym _ e) (Yc _) ?_,rfl,q _ hf⟩
 exact⟨z,us,0,r,YC _ rfl⟩
end
noncomputable abbrev Sp:=List V->Hp->VK->XK->Prop
noncomputable abbrev CXT:=List Env->Hp->Shared->XK->Value->Shared->Prop
structure Env0 (P:Program) (w:World) (K:PySem.W.Frag) (mg:Str->Option Value) (base:Heap) (A:Around) (outer:List Env) (s:Shared) (H:Hp):Prop where
 frames:A.frames=some outer
 mod:Mod K mg base
 bs:∀b o,base.get? b=some o->s.heap.get? b=some o/\H b=none
 bsz:base.objs.size<=s.heap.objs.size
 funs:s.heap.FunFrames base outer
 frf:∀b∈frs outer,H b=none
 hok:HOk P w H s.heap
 bare:AllBare s.gens
noncomputable def CE (outer:List Env) (P:Program) (w:World) (H:Hp) (s:Shared) (Q:VK) (u:Value) (s':Shared):Prop :=
 ∃v H',s'.os=s.os/\AllBare s'.gens/\Un (frs outer) [] H H' s.heap s'.heap/\HOk P w H' s'.heap/\RelV v u/\Q v H'
noncomputable def CR (CX:CXT) (outer:List Env) (P:Program) (w:World) (H:Hp) (s:Shared) (Q:VK) (E:XK) (r:Result) (s':Shared):Prop :=
 match r with
 |.ok (.ret u)=>CE outer P w H s Q u s'
 |.ok _=>False
 |.error e=>CX outer H s E e s'
structure FnOk (P:Program) (w:World) (K:PySem.W.Frag) (mg:Str->Option Value) (base:Heap) (CX:CXT) (k:Nat) (f:Addr) (fd:FuncData) (ps:List Str) (sp:Sp):Prop where
 len:∀vs H Q E,sp vs H Q E->vs.length=ps.length
 run:∀(A:Around) (outer:List Env) (s:Shared) (H:Hp) (args:Args) (us:List Value) (vs:List V) (Q:VK) (E:XK),Room k A->Env0 P w K mg base A outer s H->BindsTo s fd args (ps.zip us)->Vals vs us->sp vs H Q E ->
  codeAny (model P w) A (.call (.ref f) args) (CR CX outer P w H s Q E) s
section
variable {X:Cx}{pins:List (Addr×Obj)}{σ:St}{H:Hp}{s s':Shared}
theorem Inv.env0 (I:Inv X pins σ H s):Env0 X.prog X.w X.K X.mg X.base X.A X.stack s H :=
 ⟨I.ok.frames,I.ok.mod,I.bs,Yr I.ok.bsz I.sz,I.stack,I.Zg4,I.hok,I.bare⟩
theorem Inv.after {Q:VK}{u:Value} (I:Inv X pins σ H s) (h:CE X.stack X.prog X.w H s Q u s'):EP X pins σ Q u s':=by
 obtain⟨v,H',os,bare,un,hok,r,q⟩:=h
 obtain⟨hh,g,d,t,os'⟩:=s'
 obtain rfl:os'=s.os:=os
 exact⟨v,H',I.call (h':=hh) (g':=g) (d':=d) (t':=t) (ch:=[]) un hok bare (λb z=>absurd z (by simp)),r,q⟩
end
noncomputable def ZmC (sp:Sp) (dvs:List V) (E:XK) (t:TA):TE:=fun σ H Q=>t σ H λvs H1=>sp (vs++dvs) H1 Q E
noncomputable def Binds (K:PySem.W.Frag) (fd:FuncData) (ps:List Str) (ds:List Value):Prop :=
 ∀(s:Shared) (us:List Value),K.In s.heap->(us++ds).length=ps.length->BindsTo s fd ⟨us,[]⟩ (ps.zip (us++ds))
theorem Binds.all {K:PySem.W.Frag}{fd:FuncData}{ps:List Str} (h:∀us:List Value,us.length=ps.length->bindArgs fd ⟨us,[]⟩=pure (ps.zip us)):Binds K fd ps []:=λs us _ hl=>by
 rw[List.append_nil]at hl⊢
 exact .of_eq (h us hl)
noncomputable def Passes (CX:CXT) (X:Cx) (E:XK):Prop:=∀(pins:List (Addr×Obj)) (σ:St) (H:Hp) (s:Shared) (e:Value) (s':Shared),Inv X pins σ H s->CX X.stack H s E e s'->X.xe e s'
section
variable {X:Cx}{CX:CXT}{k:Nat}{f C:Addr}{fd:FuncData}{ps:List Str}{sp:Sp}{dvs:List V}{ds:List Value}{E:XK}{x m:Str}{p pos apos:Pos}{e o:Expr}{es:List Expr}{ta:TE}{t:TA}
theorem run_fn {pins:List (Addr×Obj)}{σ:St}{H:Hp}{s:Shared}{Q:VK}{us:List Value}{vs:List V} (F:FnOk X.prog X.w X.K X.mg X.base CX k f fd ps sp) (hr:Room k X.A) (hb:Binds X.K fd ps ds) (hd:Vals dvs ds) (hx:Passes CX X E)
  (I:Inv X pins σ H s) (r:Vals vs us) (h:sp (vs++dvs) H Q E):wpAny (model X.prog X.w) X.A (call (.ref f) us) (EP X pins σ Q) X.xe s:=by
 have r2:Vals (vs++dvs) (us++ds):=r.append hd
 have hl:(us++ds).length=ps.length:=by rw[<-r2.length];exact F.len _ _ _ _ h
 refine wpAny_call (codeAny_mono (F.run X.A X.stack s H ⟨us,[]⟩ (us++ds) (vs++dvs) Q E hr I.env0 (hb s us I.kIn hl) r2 h) λr s' hq=>?_)
 cases r with
 |error e=>exact hx pins σ H s e s' I hq
 |ok fl =>
  cases fl with
  |ret u=>exact I.after hq
  |next=>exact False.elim hq
  |brk=>exact False.elim hq
  |cont=>exact False.elim hq
theorem Zpo (F:FnOk X.prog X.w X.K X.mg X.base CX k f fd ps sp) (hr:Room k X.A) (hg:Gl X x) (hm:X.mg x=some (.ref f)) (hk:PySem.W.keepIn X.K (.ref f)=true) (hb:Binds X.K fd ps ds) (hd:Vals dvs ds) (hx:Passes CX X E)
  (ha:PA X (e::es) t) (hdb:(x==("__debug__":Str))=false:=by decide) (he:starEach (e::es) X.env=(false,eval e X.env)::starEach es X.env:=by rfl) (hpl:(backTo pos (starEach es X.env)).any (·.1)=false:=by rfl) :
  PE X (.Call (.Name x p) (e::es) [] pos) (ZmC sp dvs E t):=by
 intro pins s σ H Q I h
 refine wpAny_Call_Name_kw (Zlq I hg hm ?_ hdb)
 refine PySem.W.callWith_K (h₀:=X.base) I.ok.mod.kin hk (thn (ha pos pins s σ H _ I h) λus s1 ⟨vs,H1,I1,r,q⟩=>⟨I1.kIn,?_⟩) he hpl
 exact run_fn F hr hb hd hx I1 r q
end
noncomputable def PK (X:Cx) (kws:List Keyword) (t:TA):Prop :=
 ∀(pos:Pos) (pins:List (Addr×Obj)) (s:Shared) (σ:St) (H:Hp) (Q:List V->Hp->Prop),Inv X pins σ H s->t σ H Q->wpAny (model X.prog X.w) X.A (evalAll ((backToKw pos (keywordEach kws X.env)).map (·.2))) (AP X pins σ Q) X.xe s
section
variable {X:Cx}{CX:CXT}{k:Nat}{f C:Addr}{fd:FuncData}{ps ks:List Str}{sp:Sp}{E:XK}{x m:Str}{p pos apos kpos:Pos}{e o:Expr}{es:List Expr}{kws:List Keyword}{te ta:TE}{t tk:TA}{nm:Option Str}
theorem Zls:PK X [] Zql:=λ_ _ _ _ H Q I h=>wpAny_evalAll_nil ⟨[],H,I,.nil,h⟩
theorem Zev (ha:PE X e te) (hr:PK X kws t):PK X (⟨nm,e,kpos⟩::kws) (ZkJ te t):=by
 intro pos pins s σ H Q I h
 show wpAny _ _ (evalAll ((do let v <-eval e X.env;standAt pos;pure v)::(backToKw pos (keywordEach kws X.env)).map (·.2))) _ _ s
 refine wpAny_evalAll_cons (Ya (thn (ha pins s σ H _ I h) λu s1 ⟨x,H1,I1,r1,q1⟩=>Ya (wpAny_standAt (Ye ?_))))
 exact thn (hr pos pins s1 σ H1 _ I1 q1) λus s2 ⟨xs,H2,I2,r2,q2⟩=>⟨x::xs,H2,I2,.cons r1 r2,q2⟩
variable {g:List Value->List Value->List Value}{gV:List V->List V->List V}
end
structure FnScope (N P:List Str) (sc:Scope):Prop where
 kind:sc.kind=.function
 co:sc.isCoroutine=false
 gen:sc.isGenerator=false
 nd:N.Nodup
 pre:N.take P.length=P
 par:∀x∈P,sc.names.lookup x=some .local\/sc.names.lookup x=some .cell
 nofree:∀y∈sc.names,y.2≠.free
theorem ZkK {kindOf:Str->Option NameKind}{x:Str}:∀{binds:List (Str×Value)}{m:Str->Option Value},(∀v,(x,v)∉binds)->bindL kindOf binds m x=m x
 |[],_,_=>rfl
 |(n,v)::r,m,h=>by
  unfold bindL
  rw[ZkK λw hw=>h w (Yu _ hw)]
  split
  .have:x≠n:=by rintro rfl;exact h v Yv
   simp[this]
  .rfl
theorem ZkL {kindOf:Str->Option NameKind}{x:Str}:∀{binds:List (Str×Value)}{m:Str->Option Value},(∀v,(x,v)∉binds)->bindC kindOf binds m x=m x
 |[],_,_=>rfl
 |(n,v)::r,m,h=>by
  unfold bindC
  rw[ZkL λw hw=>h w (Yu _ hw)]
  split
  .rfl
  .have:x≠n:=by rintro rfl;exact h v Yv
   simp[this]
theorem ZkM {kindOf:Str->Option NameKind}{x:Str}{v:Value}:∀{P:List Str}{vs:List Value}{i:Nat}{m:Str->Option Value},P.Nodup->P[i]?=some x->vs[i]?=some v->kindOf x=some .local ->
  bindL kindOf (P.zip vs) m x=some v
 |[],_,_,_,_,h,_,_=>by simp at h
 |_::_,[],_,_,_,_,h,_=>by simp at h
 |p::P,w::vs,0,m,nd,h1,h2,hk=>by
  simp at h1 h2;subst h1;subst h2
  show bindL kindOf ((p,w)::P.zip vs) m p=_
  unfold bindL
  rw[ZkK λv hv=>(List.nodup_cons.mp nd).1 (List.of_mem_zip hv).1,Yd hk]
  simp
 |p::P,w::vs,i+1,m,nd,h1,h2,hk=>by
  show bindL kindOf ((p,w)::P.zip vs) m x=_
  unfold bindL
  exact ZkM (i:=i) (List.nodup_cons.mp nd).2 (by simpa using h1) (by simpa using h2) hk
theorem ZkN {kindOf:Str->Option NameKind}{x:Str}{v:Value}:∀{P:List Str}{vs:List Value}{i:Nat}{m:Str->Option Value},P.Nodup->P[i]?=some x->vs[i]?=some v->kindOf x≠some .local ->
  bindC kindOf (P.zip vs) m x=some v
 |[],_,_,_,_,h,_,_=>by simp at h
 |_::_,[],_,_,_,_,h,_=>by simp at h
 |p::P,w::vs,0,m,nd,h1,h2,hk=>by
  simp at h1 h2;subst h1;subst h2
  show bindC kindOf ((p,w)::P.zip vs) m p=_
  unfold bindC
  rw[ZkL λv hv=>(List.nodup_cons.mp nd).1 (List.of_mem_zip hv).1,Yb hk]
  simp
 |p::P,w::vs,i+1,m,nd,h1,h2,hk=>by
  show bindC kindOf ((p,w)::P.zip vs) m x=_
  unfold bindC
  exact ZkN (i:=i) (List.nodup_cons.mp nd).2 (by simpa using h1) (by simpa using h2) hk
noncomputable def start (N:List Str) (vs:List V):St:=vs.map some++List.replicate (N.length-vs.length) none
noncomputable def ZgB (CX:CXT) (P:Program) (w:World) (K:PySem.W.Frag) (mg:Str->Option Value) (base:Heap) (N:List Str) (qual:Str) (scope:Scope) (f:Addr) (cd:Value) (A:Around) (outer:List Env) (s:Shared) (H:Hp) (E:XK):Cx where
 prog:=P
 w:=w
 K:=K
 mg:=mg
 base:=base
 A:=A.deeper (envOfC qual scope s.heap.objs.size f cd)
 N:=N
 s₀:=s
 H₀:=H
 env:=envOfC qual scope s.heap.objs.size f cd
 outer:=outer
 stack:=envOfC qual scope s.heap.objs.size f cd::outer
 ex:=[]
 calm:=true
 fn:=λ_=>true
 pn:=[]
 xe:=λe s'=>wpAny (model P w) (A.deeper (envOfC qual scope s.heap.objs.size f cd)) (leaving (envOfC qual scope s.heap.objs.size f cd) e) (λ_ s''=>CX outer H s E e s'') (λe' s''=>CX outer H s E e' s'') s'
theorem ZmD {sc:Scope}{n:Nat}{x:Str} (h:sc.names.lookup x=some .cell):∃c,(cellsFrom n sc.names []).lookup x=some c:=by
 have q:=PySem.W.cellsFrom_some sc.names n [] (.inl h)
 exact Option.isSome_iff_exists.mp q
theorem Zqm {CX:CXT}{P:Program}{w:World}{K:PySem.W.Frag}{mg:Str->Option Value}{base:Heap}{N ps:List Str}{qual:Str}{scope:Scope}{f:Addr}{cd:Value}{A:Around}{outer:List Env}{s s1:Shared}{H:Hp}{E:XK}{us:List Value}{vs:List V}
  (S:FnScope N ps scope) (hd:A.handled=none) (e0:Env0 P w K mg base A outer s H) (hl:vs.length=ps.length) (r:Vals vs us)
  (x:InCallC s s.heap.objs.size (bindL (envOfC qual scope s.heap.objs.size f cd).kindOf (ps.zip us) λ_=>none) (cellsFrom (s.heap.objs.size+1) scope.names []) (bindC (envOfC qual scope s.heap.objs.size f cd).kindOf (ps.zip us) λ_=>none) s1) :
  Inv (ZgB CX P w K mg base N qual scope f cd A outer s H E) [] (start N vs) H s1:=by
 have hpl:ps.length<=N.length:=by have:=congrArg List.length S.pre;rw[Y9]at this;omega
 obtain⟨h1,tk,rfl,hk⟩:=x.done
 have noA:∀b:Addr,b∉(ZgB CX P w K mg base N qual scope f cd A outer s H E).ex:=λb z=>absurd (show b∈([]:List Addr)from z) (by simp)
 refine⟨⟨e0.mod,S.kind,rfl,rfl,Yc _,λy z c h1 h2=>?_,λy hy=>?_,λy c _ h=>?_,λ_=>hd,Around.frames_deeper e0.frames,.inr ⟨rfl,rfl⟩,λb z=>absurd z (noA b),e0.bs,e0.bsz,λb _ _=>noA b,λb z=>absurd z (noA b),e0.funs,e0.frf⟩,
  rfl,e0.bare,Un.kept hk,⟨_,x.toInCall.ns,λi y v h1 h2 h3=>?_⟩,λy c h=>⟨_,x.cell y c h⟩,e0.hok.fresh (Yc _),λy c h=>?_,λp hp=>absurd (show p∈([]:List (Addr×Obj))from hp) (by simp),e0.hok.kept hk,?_⟩
 .exact name_of_addr x.apart (PySem.mem_of_lookup h1) (PySem.mem_of_lookup h2)
 .have hy:scope.names.lookup y=some .cell\/scope.names.lookup y=some .free:=hy
  rcases hy with hy|hy
  .exact ZmD hy
  .exact absurd rfl (S.nofree _ (PySem.mem_of_lookup hy))
 .exact Y7 (x.above y c (PySem.mem_of_lookup h))
 .have hi:i<vs.length:=by
   unfold start at h2
   by_cases hi:i<vs.length
   .exact hi
   .rw[Y4 (by simpa using hi)]at h2
    rw[List.getElem?_replicate]at h2
    split at h2<;>cases h2
  have ha:vs[i]?=some v:=by
   unfold start at h2
   rw[Y8 (by simpa using hi),YE]at h2
   cases e:vs[i]? with
   |none=>rw[e]at h2;cases h2
   |some a=>rw[e]at h2;cases h2;rfl
  obtain⟨u,hu,rv⟩:=r.get ha
  have hp:ps[i]?=some y:=by
   rw[<-S.pre,List.getElem?_take_of_lt ⋯];exact h1
  have ndP:ps.Nodup:=by rw[<-S.pre];exact S.nd.sublist (List.take_sublist _ _)
  refine⟨u,rv,?_⟩
  rcases S.par y (List.mem_of_getElem? hp)with k|k
  .exact .inl ⟨k,ZkM ndP hp hu k⟩
  .obtain⟨c,e⟩:=ZmD (n:=s.heap.objs.size+1) k
   refine .inr ⟨.inl k,c,e,?_⟩
   have q:=x.cell y c e
   rw[ZkN ndP hp hu (by show scope.names.lookup y≠_;rw[k];decide)]at q
   exact q
 .exact e0.hok.fresh (Y7 (x.above y c (PySem.mem_of_lookup h)))
 .unfold start
  show _=N.length
  rw[YS,Yi,List.length_replicate]
  omega
theorem ZrI {CX:CXT}{P:Program}{w:World}{K:PySem.W.Frag}{mg:Str->Option Value}{base:Heap}{k:Nat}{f:Addr}{name qual:Str}{params:Arguments}{body:List Stmt}{scope:Scope}{dV kV doc pm cdv ct oc:Value}{an od:Option Addr}
  {osl:Array (Option Value)}{N ps:List Str}{sp:Sp} (lk:K.lookup f=some ⟨oc,od,.func (PySem.W.fnOf name qual params body scope dV kV doc pm an cdv ct),osl⟩) (hcd:PySem.W.codeIn K cdv qual=true) (S:FnScope N ps scope)
  (len:∀vs H Q E,sp vs H Q E->vs.length=ps.length)
  (hbody:∀(A:Around) (outer:List Env) (s:Shared) (H:Hp) (vs:List V) (Q:VK) (E:XK),Room k (A.deeper (envOfC qual scope s.heap.objs.size f cdv))->sp vs H Q E ->
   ∃t,PSs (ZgB CX P w K mg base N qual scope f cdv A outer s H E) body t/\t {nx:=λ_ H'=>Q .non H',rt:=Q} (start N vs) H) :
  FnOk P w K mg base CX (k+1) f (PySem.W.fnOf name qual params body scope dV kV doc pm an cdv ct) ps sp:=by
 refine⟨len,λA outer s H args us vs Q E hr e0 hb r hsp=>?_⟩
 have hl:=len _ _ _ _ hsp
 have KX:K.In s.heap:=e0.mod.kin.keeps λb o e=>(e0.bs b o e).1
 have lim:s.heap.NoLimit:=e0.mod.nolimit.keeps λb o e=>(e0.bs b o e).1
 have hkind:∀y∈ps.zip us,scope.names.lookup y.1=some .local\/(scope.names.lookup y.1=some .cell/\((cellsFrom (s.heap.objs.size+1) scope.names []).lookup y.1).isSome=true):=λ⟨n,v⟩ hy=>by
  rcases S.par n (List.of_mem_zip hy).1 with q|q
  .exact .inl q
  .exact .inr ⟨q,PySem.W.cellsFrom_some _ _ _ (.inl q)⟩
 refine codeAny_call_function hr.depth (KX _ _ lk) rfl S.co S.gen rfl (PySem.W.codeRec_of KX hcd) (hb _ _ _ _ ?_)
 refine wpAny_newFunctionEnv_cells S.kind hkind λenv he s1 x=>?_
 subst he
 refine⟨lim.keeps x.toInCall.keep,codeAny_func ?_⟩
 obtain⟨t,ht,hq⟩:=hbody A outer s H vs Q E (hr.deeper _) hsp
 have I:Inv (ZgB CX P w K mg base N qual scope f cdv A outer s H E) [] (start N vs) H s1:=Zqm S hr.hd e0 hl r x
 refine YJ (ht [] s1 (start N vs) H _ I hq) (λfl s' hs=>?_) λe s' hs=>hs
 have fin:∀{σ':St}{H':Hp}{v:V}{u:Value},Inv (ZgB CX P w K mg base N qual scope f cdv A outer s H E) [] σ' H' s'->RelV v u->Q v H'->CE outer P w H s Q u s' :=
  λ{σ' H' v u} J rv q=>⟨v,H',J.os,J.bare,J.base,J.hok,rv,q⟩
 cases fl with
 |ret u =>
  obtain⟨v,σ',H',J,rv,q⟩:=hs
  exact fin J rv q
 |next =>
  obtain⟨σ',H',J,q⟩:=hs
  exact fin (v:=V.non) (u:=Value.none) J rfl q
 |brk =>
  obtain⟨_,_,_,q⟩:=hs
  exact False.elim q
 |cont =>
  obtain⟨_,_,_,q⟩:=hs
  exact False.elim q
section
variable {X:Cx}{x:Str}{p pos:Pos}{e:Expr}{es:List Expr}{t:TA}{id T:String}{r:List V->Hp->VK->Prop}
noncomputable def tCB (r:List V->Hp->VK->Prop) (t:TA):TE:=fun σ H Q=>t σ H λvs H1=>r vs H1 Q
theorem Zn (hc:Za1 X (.builtin id) r) (hg:Gl X x) (hm:X.mg x=none) (hv:bootBuiltins x=some (.builtin id)) (ha:PA X (e::es) t) (hn:x≠"__name__":=by decide) (hdb:(x==("__debug__":Str))=false:=by decide)
  (he:starEach (e::es) X.env=(false,eval e X.env)::starEach es X.env:=by rfl) (hpl:(backTo pos (starEach es X.env)).any (·.1)=false:=by rfl):PE X (.Call (.Name x p) (e::es) [] pos) (tCB r t):=by
 intro pins s σ H Q I h
 refine wpAny_Call_Name_kw (Zcb I hg hm hv ?_ hn hdb)
 exact PyProof.Rows.callWith_builtin1 (thn (ha pos pins s σ H _ I h) λus s1 ⟨vs,H1,I1,r1,q1⟩=>hc pins s1 σ H1 vs us Q I1 r1 q1) he hpl
theorem ZcG (hc:Za1 X (.type T) r) (hg:Gl X x) (hm:X.mg x=none) (hv:bootBuiltins x=some (.type T)) (ha:PA X (e::es) t) (hn:x≠"__name__":=by decide) (hdb:(x==("__debug__":Str))=false:=by decide)
  (he:starEach (e::es) X.env=(false,eval e X.env)::starEach es X.env:=by rfl) (hpl:(backTo pos (starEach es X.env)).any (·.1)=false:=by rfl):PE X (.Call (.Name x p) (e::es) [] pos) (tCB r t):=by
 intro pins s σ H Q I h
 refine wpAny_Call_Name_kw (Zcb I hg hm hv ?_ hn hdb)
 exact PyProof.Rows.callWith_type1 (thn (ha pos pins s σ H _ I h) λus s1 ⟨vs,H1,I1,r1,q1⟩=>hc pins s1 σ H1 vs us Q I1 r1 q1) he hpl
end
end Lake
namespace HT
open PySem PyProof.Rows
section
open PySem.SeqAt
open PySem.AutoSeq1 (wpAny_loadPart')
open PySem.MeetsSeq PySem.MeetsSeq2 PySem.MeetsSeq3
end
section
variable {prog:Program}{w:World}{A:Around}{E:Value->Shared->Prop}{s:Shared}
theorem ZuD {t b:Addr}{vs ws:List Value}{Q:Value->Shared->Prop} (ht:IsTup s.heap t vs.toArray) (hb:IsTup s.heap b ws.toArray) (hv:vs≠[])
  (h1:ws=[]->Q (.ref t) s) (h2:ws≠[]->Q (.ref s.heap.objs.size) {s with heap:=s.heap.push {cls:=.type "tuple",data:=.seq (vs++ws).toArray}})
  (hsz:vs.length+ws.length<=sizeLine):wpAny (model prog w) A (binaryOp .Add (.ref t) (.ref b)) Q E s:=by
 obtain⟨⟨cls,dd,data,sl⟩,ho,hc,n,hd⟩:=id ht
 obtain⟨⟨cls2,dd2,data2,sl2⟩,ho2,hc2,n2,hd2⟩:=id hb
 simp only at hc hd hc2 hd2
 subst hc hd hc2 hd2
 have e:vs.toArray++ws.toArray=(vs++ws).toArray:=by simp
 by_cases hw:ws=[]
 .exact concat_meets ⟨_,ho,rfl⟩ ⟨_,ho2,rfl⟩ noFill_tuple_add seq_tuple_add PySem.F.slot_tuple_add PySem.F.entry_tuple_add (PySem.F.args_tuple_add_2 _ _)
   (tuple_addW1 t b vs.toArray ws.toArray n n2 dd dd2 sl sl2 (by simpa using hv) (by simp[hw])) ⟨ho,ho2,h1 hw⟩
 .refine concat_meets ⟨_,ho,rfl⟩ ⟨_,ho2,rfl⟩ noFill_tuple_add seq_tuple_add PySem.F.slot_tuple_add PySem.F.entry_tuple_add (PySem.F.args_tuple_add_2 _ _)
   (tuple_addW2 t b vs.toArray ws.toArray n n2 dd dd2 sl sl2 (by simpa using hv) (by simpa using hw) (by rw[Ys,Ys];exact hsz)) ⟨ho,ho2,?_⟩
  rw[e]
  exact h2 hw
noncomputable def sIx (n d:Nat):Option Int->Nat
 |none=>d
 |some v=>if v<0 then (v+(n:Int)).toNat else min v.toNat n
end
end HT
namespace Lake
open PySem PySem.Spec PyProof.Rows
noncomputable abbrev TO:=St->Hp->(Option Int->Hp->Prop)->Prop
noncomputable def PO (X:Cx) (e:Option Expr) (t:TO):Prop :=
 ∀(pins:List (Addr×Obj)) (s:Shared) (σ:St) (H:Hp) (Q:Option Int->Hp->Prop),Inv X pins σ H s->t σ H Q ->
  wpAny (model X.prog X.w) X.A (evalPart e X.env) (λu s'=>∃o H',Inv X pins σ H' s'/\IsPart u o/\Q o H') X.xe s
noncomputable def Zlt:TO:=λ_ H Q=>Q none H
noncomputable def ZrJ (t:TE):TO:=fun σ H Q=>t σ H λx H1=>∃i,x=.int i/\Q (some i) H1
theorem intsAre_of {ns:List Int}:∀{us:List Value},Vals (ns.map V.int) us->IntsAre us ns:=by
 induction ns with
 |nil=>intro us r;rw[List.map_nil]at r;cases r;exact .nil
 |cons n ns ih =>
  intro us r
  rw[YR]at r
  cases r with
  |cons r1 r2 =>
   obtain⟨t,e⟩:=r1
   subst e
   exact .cons n t (ih r2)
section
variable {X:Cx}{e:Expr}{te:TE}{lo hi:Option Expr}{tl th:TO}{pos p2:Pos}
theorem Zlu:PO X none Zlt:=by
 intro pins s σ H Q I h
 rw[evalPart_none]
 exact Ye ⟨none,H,I,.none,h⟩
theorem Zlv (h:PE X e te):PO X (some e) (ZrJ te):=by
 intro pins s σ H Q I hw
 rw[evalPart_some]
 refine thn (h pins s σ H _ I hw) λu s1 ⟨x,H1,I1,r1,q1⟩=>?_
 obtain⟨i,rfl,q⟩:=q1
 obtain⟨t,rfl⟩:=r1
 exact⟨some i,H1,I1,.int i t,q⟩
noncomputable def SlR (X:Cx) (r:V->Option Int->Option Int->Hp->VK->Prop):Prop :=
 ∀(pins:List (Addr×Obj)) (s:Shared) (σ:St) (H:Hp) (x:V) (v vl vu:Value) (lo hi:Option Int) (sl:Addr) (Q:VK),Inv X pins σ H s->RelV x v->s.heap.IsSliceOf sl vl vu .none->IsPart vl lo->IsPart vu hi->r x lo hi H Q ->
  ∃T id,typeLookup (.type T) "__getitem__"=pure (some (.builtin id))/\s.TypeIs v T/\wpAny (model X.prog X.w) X.A (getItem v (.ref sl)) (EP X pins σ Q) X.xe s
noncomputable def tSl (r:V->Option Int->Option Int->Hp->VK->Prop) (te:TE) (tl th:TO):TE:=fun σ H Q=>te σ H λx H1=>tl σ H1 λl H2=>th σ H2 λu H3=>r x l u H3 Q
theorem Zjb {r:V->Option Int->Option Int->Hp->VK->Prop} (hr:SlR X r) (he:PE X e te) (hl:PO X lo tl) (hu:PO X hi th):PE X (.Subscript e (.Slice lo hi none p2) pos) (tSl r te tl th):=by
 intro pins s σ H Q I h
 refine Subscript_ (thn (he pins s σ H _ I h) λv s1 ⟨x,H1,I1,r1,q1⟩=>?_)
 refine wpAny_Slice (thn (hl pins s1 σ H1 _ I1 q1) λvl s2 ⟨l,H2,I2,pl,q2⟩=>thn (hu pins s2 σ H2 _ I2 q2) λvu s3 ⟨u,H3,I3,pu,q3⟩=>?_)
 rw[evalPart_none]
 refine Ye ?_
 have I4:Inv X pins σ H3 {s3 with heap:=s3.heap.push {cls:=.type "slice",data:=.fields #[vl,vu,.none]}}:=I3.kept (t':=s3.toks) λb ob q=>Ym _ q
 obtain⟨T,id,hT,ht,hg⟩:=hr pins {s3 with heap:=s3.heap.push {cls:=.type "slice",data:=.fields #[vl,vu,.none]}} σ H3 x v vl vu l u s3.heap.objs.size Q I4 r1 (Heap.IsSliceOf.new ..) pl pu q3
 show wpAny (model X.prog X.w) X.A (subscriptTail e (.Slice lo hi none p2) v (.ref s3.heap.objs.size)) (EP X pins σ Q) X.xe {s3 with heap:=s3.heap.push {cls:=.type "slice",data:=.fields #[vl,vu,.none]}}
 exact tail_any (ops:=[.ref s3.heap.objs.size,v]) ht hT hg (by with_unfolding_all rfl)
noncomputable def ZhL (xs:List V) (lo hi:Option Int):List V:=(xs.drop (HT.sIx xs.length 0 lo)).take (HT.sIx xs.length xs.length hi-HT.sIx xs.length 0 lo)
theorem ZmE (xs:List V) (lo hi:Option Int):(ZhL xs lo hi).length<=xs.length:=by
 unfold ZhL
 rw[Y9,Jl]
 omega
theorem Vals.Zlw {xs:List V}{us:List Value} (r:Vals xs us):us=[]↔xs=[]:=by
 cases r with
 |nil=>simp
 |cons _ _=>simp
end
noncomputable def ixN (n:Nat) (i:Int):Option Nat:=if 0<=i then (if i<n then some i.toNat else none)else if -(n:Int)<=i then some (i+n).toNat else none
noncomputable def atI {α:Type} (xs:List α) (i:Int):Option α:=(ixN xs.length i).bind λj=>xs[j]?
theorem Zpp {n:Nat}{i:Int}{j:Nat} (h:ixN n i=some j):seqIndex? i n=some j/\j<n/\-(n:Int)<=i/\i<n:=by
 unfold ixN at h
 by_cases h0:0<=i
 .rw[Yd h0]at h
  by_cases h1:i<n
  .rw[Yd h1]at h
   have e:i.toNat=j:=YM h
   exact⟨by rw[seqIndex_of h0 h1,e],⋯,⋯,h1⟩
  .rw[Yb h1]at h;cases h
 .rw[Yb h0]at h
  by_cases h1:-(n:Int)<=i
  .rw[Yd h1]at h
   have e:(i+n).toNat=j:=YM h
   exact⟨by rw[seqIndex_neg ⋯ h1,e],⋯,h1,⋯⟩
  .rw[Yb h1]at h;cases h
theorem Zlx {α:Type}{xs:List α}{i:Int}{v:α} (h:atI xs i=some v):∃j,seqIndex? i xs.length=some j/\xs[j]?=some v/\j<xs.length/\-(xs.length:Int)<=i/\i<xs.length:=by
 unfold atI at h
 cases e:ixN xs.length i with
 |none=>rw[e]at h;cases h
 |some j =>
  rw[e]at h
  obtain⟨h1,h2,h3,h4⟩:=Zpp e
  exact⟨j,h1,h,h2,h3,h4⟩
theorem Zf9 {α:Type}{xs:List α}{j:Nat}{v:α} (h:xs[j]?=some v):atI xs (j:Int)=some v:=by
 have hj:j<xs.length:=(Yw.mp h).1
 have e:ixN xs.length (j:Int)=some j:=by
  unfold ixN
  rw[Yd ⋯,Yd ⋯];simp
 unfold atI;rw[e];exact h
theorem ZrK {α:Type} (xs:List α) (v:α):atI (xs++[v]) (-1)=some v:=by
 have hl:(xs++[v]).length=xs.length+1:=by simp
 have e:ixN (xs++[v]).length (-1)=some xs.length:=by
  unfold ixN
  rw[hl,Yb nofun,Yd ⋯]
  congr 1
  omega
 unfold atI
 rw[e]
 show(xs++[v])[xs.length]?=some v
 simp
noncomputable def ZuE (b:Expr):Prop:=∀o i,subscripted b false o i=operate [o,i] (getItem o i)
noncomputable def IxR (X:Cx) (r:R2):Prop :=
 ∀(value slice:Expr) (pins:List (Addr×Obj)) (s:Shared) (σ:St) (H:Hp) (x y:V) (v u:Value) (Q:VK),Inv X pins σ H s->RelV x v->RelV y u->r x y H Q ->
  subscripted slice false v u=operate [v,u] (getItem v u)->wpAny (model X.prog X.w) X.A (subscriptTail value slice v u) (EP X pins σ Q) X.xe s
noncomputable def MtR (X:Cx) (id:String) (r:V->List V->Hp->VK->Prop):Prop :=
 ∀(pins:List (Addr×Obj)) (s:Shared) (σ:St) (H:Hp) (x:V) (xs:List V) (v:Value) (us:List Value) (Q:VK),Inv X pins σ H s->RelV x v->Vals xs us->r x xs H Q ->
  wpAny (model X.prog X.w) X.A (call (.builtin id) (v::us)) (EP X pins σ Q) X.xe s
section
variable {X:Cx}{a b:Expr}{ta tb:TE}{pos:Pos}
theorem IxR.or {r r':R2} (h:IxR X r) (h':IxR X r'):IxR X (λx y H Q=>r x y H Q\/r' x y H Q):=by
 intro value slice pins s σ H x y v u Q I rx ry q hs
 rcases q with q|q
 .exact h value slice pins s σ H x y v u Q I rx ry q hs
 .exact h' value slice pins s σ H x y v u Q I rx ry q hs
theorem Zk {r:R2} (hr:IxR X r) (ha:PE X a ta) (hb:PE X b tb) (hs:ZuE b):PE X (.Subscript a b pos) (tOp r ta tb):=by
 intro pins s σ H Q I h
 exact Subscript_ (binT ha hb I h λv u s2 x y H2 I2 rx ry q=>hr a b pins s2 σ H2 x y v u Q I2 rx ry q (hs _ _))
noncomputable def ZdB (K:PySem.W.Frag):R2:=λx y H Q=>∃p xs i v,x=.ref p/\y=.int i/\SqL K H p xs/\atI xs i=some v/\Q v H
noncomputable def Zfn (K:PySem.W.Frag):R2:=λx y H Q=>∃p xs i v,x=.ref p/\y=.int i/\SqT K H p xs/\atI xs i=some v/\Q v H
theorem Zr:IxR X (ZdB X.K):=by
 intro value slice pins s σ H x y v u Q I rx ry h hs
 obtain⟨p,xs,i,z,rfl,rfl,hq,he,q⟩:=h
 cases rx
 obtain⟨t,rfl⟩:=ry
 obtain⟨its,r,pl,hz⟩:=I.list hq
 obtain⟨j,h1,h2,h3,h4,h5⟩:=Zlx he
 obtain⟨w,ew,rw'⟩:=r.get h2
 have hl:=r.length
 have hn:=Zja
 have fin:EP X pins σ Q w s:=⟨z,H,I,rw',q⟩
 by_cases h0:0<=i
 .have hj:i.toNat=j:=by
   rw[seqIndex_of h0 h5]at h1
   exact YM h1
  exact item_listR pl.isList h0 ⋯ (by rw[hj];simpa using ew) fin hs
 .have hj:(i+(its.toArray.size:Int)).toNat=j:=by
   rw[seqIndex_neg ⋯ h4]at h1
   rw[Ys,<-hl]
   exact YM h1
  exact subscriptTail_builtinR (x:=w) pl.isList.typeIs slot_list_getitem.lookup
   (wpAny_getItem_list_neg (Q:=λr s'=>r=w/\EP X pins σ Q r s') pl.isList ⋯ (by rw[Ys]<;>omega) ⋯ (by rw[hj];simpa using ew) ⟨rfl,fin⟩) hs
theorem ZF:IxR X (Zfn X.K):=by
 intro value slice pins s σ H x y v u Q I rx ry h hs
 obtain⟨p,xs,i,z,rfl,rfl,hq,he,q⟩:=h
 cases rx
 obtain⟨t,rfl⟩:=ry
 obtain⟨its,r,pl,hz⟩:=I.tuple hq
 obtain⟨j,h1,h2,h3,h4,h5⟩:=Zlx he
 obtain⟨w,ew,rw'⟩:=r.get h2
 have hl:=r.length
 have hn:=Zja
 have fin:EP X pins σ Q w s:=⟨z,H,I,rw',q⟩
 exact subscriptTail_builtinR (x:=w) pl.typeIs slot_tuple_getitem.lookup
  (getItem_tuple (j:=j) (Q:=λr s'=>r=w/\EP X pins σ Q r s') pl ⋯ ⋯ (by rw[Ys,<-hl];exact h1) (by simpa using ew) ⟨rfl,fin⟩) hs
theorem ZnR (its:List Value) (n j:Nat) (u:Value):Obj.mapSeq (·.setIfInBounds j u) {cls:=.type "list",data:=.seq its.toArray n}={cls:=.type "list",data:=.seq (its.set j u).toArray n}:=by
 simp[Obj.mapSeq]
theorem Inv.lst {pins:List (Addr×Obj)}{σ:St}{H:Hp}{s:Shared}{p:Addr}{xs:List V} (I:Inv X pins σ H s) (h:H p=some (.lst xs)) :
  ∃(its:List Value) (n:Nat),Vals xs its/\s.heap.get? p=some {cls:=.type "list",data:=.seq its.toArray n}/\xs.length<=sizeLine:=by
 obtain⟨z,its,n,r,e⟩:=I.hok p _ h
 exact⟨its,n,r,e,z⟩
theorem Inv.lstUpd {pins:List (Addr×Obj)}{σ:St}{H:Hp}{s:Shared}{p:Addr}{xs ys:List V}{its its':List Value}{n n':Nat}{f:Obj->Obj} (I:Inv X pins σ H s) (h:H p=some (.lst xs))
  (ho:s.heap.get? p=some {cls:=.type "list",data:=.seq its.toArray n}) (hf:f {cls:=.type "list",data:=.seq its.toArray n}={cls:=.type "list",data:=.seq its'.toArray n'}) (r:Vals ys its') (hz:ys.length<=sizeLine) (t:Nat) :
  Inv X pins σ (upd H p (.lst ys)) {s with heap:=s.heap.update p f,toks:=t}:=by
 have e:(s.heap.update p f).get? p=some {cls:=.type "list",data:=.seq its'.toArray n'}:=by
  rw[Heap.get?_update_self f ho (by rw[hf]<;>rfl),hf]
 refine I.write (x:=p) (e:=p) (by rw[h];trivial) (.inl rfl) (λb u hb q=>(Heap.get?_update_other _ _ (Ne.symm hb)).trans q) ⟨_,e⟩ ?_
 exact⟨hz,its',n',r,e⟩
noncomputable def ZrL:V->V->V->Hp->(Hp->Prop)->Prop:=λo i v H Q=>∃p xs k j,o=.ref p/\i=.int k/\H p=some (.lst xs)/\ixN xs.length k=some j/\Q (upd H p (.lst (xs.set j v)))
theorem set_list:PSet X ZrL:=by
 intro pins s σ H o i v ov iv u Q I ro ri rv h
 obtain⟨p,xs,k,j,rfl,rfl,hp,hj,q⟩:=h
 cases ro
 obtain⟨t,rfl⟩:=ri
 obtain⟨its,n,r,ho,hz⟩:=I.lst hp
 obtain⟨h1,h2,h3,h4⟩:=Zpp hj
 have hl:=r.length
 have hn:=Zja
 have I':Inv X pins σ (upd H p (.lst (xs.set j v))) {s with heap:=s.heap.update p (Obj.mapSeq (·.setIfInBounds j u))} :=
  I.lstUpd hp ho (ZnR its n j u) (r.set rv j) (by rw[List.length_set];exact hz) s.toks
 by_cases h0:0<=k
 .have hk:k.toNat=j:=by
   rw[seqIndex_of h0 h4]at h1
   exact YM h1
  exact PySem.W.ki_setAt ho h0 ⋯ (by rw[Ys,<-hl];exact h4) (by rw[hk];exact⟨_,I',q⟩)
 .have hk:(k+(its.toArray.size:Int)).toNat=j:=by
   rw[seqIndex_neg ⋯ h3]at h1
   rw[Ys,<-hl]
   exact YM h1
  exact PySem.W.ki_setBack ho ⋯ (by rw[Ys,<-hl];exact h3) ⋯ (by rw[hk];exact⟨_,I',q⟩)
theorem Zly (lo hi:Option Int) (n:Nat):(sliceBounds lo hi none n).1=((HT.sIx n 0 lo:Nat):Int)/\(sliceBounds lo hi none n).2.1=((HT.sIx n n hi:Nat):Int)/\(sliceBounds lo hi none n).2.2=1:=by
 refine⟨?_,?_,rfl⟩
 .cases lo with
  |none=>simp[sliceBounds,HT.sIx]
  |some i =>
   simp only[sliceBounds,HT.sIx,Option.getD_none,show(1:Int)>0 by decide,if_true]
   by_cases h:i<0
   .simp only[h,if_true]<;>omega
   .simp only[h,if_false]<;>omega
 .cases hi with
  |none=>simp[sliceBounds,HT.sIx]
  |some i =>
   simp only[sliceBounds,HT.sIx,Option.getD_none,show(1:Int)>0 by decide,if_true]
   by_cases h:i<0
   .simp only[h,if_true]<;>omega
   .simp only[h,if_false]<;>omega
theorem Zke (its:List Value) (lo hi:Option Int):slicePick its.toArray lo hi none=((its.drop (HT.sIx its.length 0 lo)).take (HT.sIx its.length its.length hi-HT.sIx its.length 0 lo)).toArray:=by
 obtain⟨h1,h2,h3⟩:=Zly lo hi its.toArray.size
 unfold slicePick
 rw[h1,h2,h3]
 simp only[sliceRange_one,pick_run,Ys]<;>rfl
noncomputable def rSlL (K:PySem.W.Frag):V->Option Int->Option Int->Hp->VK->Prop:=λx lo hi H Q=>∃a xs,x=.ref a/\SqL K H a xs/\∀p,H p=none->Q (.ref p) (upd H p (.lst (ZhL xs lo hi)))
theorem Zlz:SlR X (rSlL X.K):=by
 intro pins s σ H x v vl vu lo hi sl Q I rx hs pl pu h
 obtain⟨a,xs,rfl,hx,q⟩:=h
 cases rx
 obtain⟨its,r,ht,hz⟩:=I.list hx
 have hlen:=r.length
 refine⟨"list",_,slot_list_getitem.lookup,ht.isList.typeIs,?_⟩
 refine wpAny_getItem_list_slice ht.isList hs pl pu .none (by simp) ?_ (by rw[Ys]<;>omega)
 rw[Zke,<-hlen]
 refine⟨.ref s.heap.objs.size,_,I.laid (t':=s.toks) (o:=.lst (ZhL xs lo hi)) (λb ob q=>Ym _ q) (Yc _) ?_,rfl,q _ (I.hok.fresh (Yc _))⟩
 exact⟨Yr (ZmE xs lo hi) hz,_,0,(r.drop (HT.sIx xs.length 0 lo)).take (HT.sIx xs.length xs.length hi-HT.sIx xs.length 0 lo),YC _ rfl⟩
noncomputable def flatV:V->Bool
 |.non=>true
 |.bl _=>true
 |.int _=>true
 |.str _=>true
 |_=>false
noncomputable def eqV:V->V->Bool
 |.non,.non=>true
 |.bl a,.bl b=>a==b
 |.bl a,.int b=>(if a then 1 else 0)==b
 |.int a,.bl b=>a==(if b then 1 else 0)
 |.int a,.int b=>a==b
 |.str a,.str b=>a==b
 |_,_=>false
theorem ZrM {A:Around}{s:Shared}{y x:V}{u v:Value} (ry:RelV y u) (rx:RelV x v) (fy:flatV y=true) (fx:flatV x=true):SeqAt.EqAt A s u v (eqV y x):=by
 cases y with
 |non =>
  cases ry
  cases x with
  |non=>cases rx;exact SeqAt.EqAt.same _
  |bl b=>cases rx;exact SeqAt.EqAt.none_bool b
  |int b=>obtain⟨t,rfl⟩:=rx;exact SeqAt.EqAt.none_int b t
  |str b=>obtain⟨t,rfl⟩:=rx;exact SeqAt.EqAt.none_str b t
  |_=>exact absurd (show false=true from fx) YW
 |bl a =>
  cases ry
  cases x with
  |non=>cases rx;exact SeqAt.EqAt.bool_none a
  |bl b=>cases rx;exact SeqAt.EqAt.bool_bool a b
  |int b=>obtain⟨t,rfl⟩:=rx;exact SeqAt.EqAt.bool_int a b t
  |str b=>obtain⟨t,rfl⟩:=rx;exact SeqAt.EqAt.bool_str a b t
  |_=>exact absurd (show false=true from fx) YW
 |int a =>
  obtain⟨t',rfl⟩:=ry
  cases x with
  |non=>cases rx;exact SeqAt.EqAt.int_none a t'
  |bl b=>cases rx;exact SeqAt.EqAt.int_bool a t' b
  |int b=>obtain⟨t,rfl⟩:=rx;exact SeqAt.EqAt.int_int a t' b t
  |str b=>obtain⟨t,rfl⟩:=rx;exact SeqAt.EqAt.int_str a t' b t
  |_=>exact absurd (show false=true from fx) YW
 |str a =>
  obtain⟨t',rfl⟩:=ry
  cases x with
  |non=>cases rx;exact SeqAt.EqAt.str_none a t'
  |bl b=>cases rx;exact SeqAt.EqAt.str_bool a t' b
  |int b=>obtain⟨t,rfl⟩:=rx;exact SeqAt.EqAt.str_int a t' b t
  |str b=>obtain⟨t,rfl⟩:=rx;exact SeqAt.EqAt.str_str a t' b t
  |_=>exact absurd (show false=true from fx) YW
 |_=>exact absurd (show false=true from fy) YW
noncomputable def eqU (x:V) (u:Value):Bool:=match u with
 |.none=>eqV .non x
 |.bool b=>eqV (.bl b) x
 |.int i _=>eqV (.int i) x
 |.str z _=>eqV (.str z) x
 |_=>false
theorem ZrN {x y:V}{u:Value} (r:RelV y u) (f:flatV y=true):eqU x u=eqV y x:=by
 cases y with
 |non=>cases r;rfl
 |bl b=>cases r;rfl
 |int i=>obtain⟨t,rfl⟩:=r;rfl
 |str z=>obtain⟨t,rfl⟩:=r;rfl
 |_=>exact absurd (show false=true from f) YW
theorem ZlA {x:V}:∀{xs:List V}{us:List Value},Vals xs us->xs.all flatV=true->us.any (eqU x)=xs.any λy=>eqV y x
 |_,_,.nil,_=>rfl
 |y::xs,u::us,.cons r t,f=>by
  rw[List.all_cons,Bool.and_eq_true]at f
  rw[List.any_cons,List.any_cons,ZrN r f.1,ZlA t f.2]
theorem Zjc {A:Around}{s:Shared}{x:V}{v:Value} (rx:RelV x v) (fx:flatV x=true):∀{xs:List V}{us:List Value},Vals xs us->xs.all flatV=true->∀u∈us,SeqAt.EqAt A s u v (eqU x u)
 |_,_,.nil,_=>λu hu=>by cases hu
 |y::xs,u::us,.cons r t,f=>λu' hu=>by
  rw[List.all_cons,Bool.and_eq_true]at f
  rcases Yk.mp hu with rfl|hu
  .rw[ZrN r f.1];exact ZrM r rx f.1 fx
  .exact Zjc rx fx t f.2 u' hu
noncomputable def inV (x:V) (xs:List V):Bool:=xs.any λy=>eqV y x
noncomputable def rIn (K:PySem.W.Frag) (neg:Bool):R2:=λx y H Q=>∃p xs,y=.ref p/\(SqL K H p xs\/SqT K H p xs)/\flatV x=true/\xs.all flatV=true/\Q (.bl (if neg then !inV x xs else inV x xs)) H
theorem Zqn:OpR X (compareOp .In) (rIn X.K false):=by
 intro pins s σ H x y v u Q I rx ry h
 obtain⟨p,xs,rfl,hq,fx,fs,q⟩:=h
 cases ry
 rcases hq with hq|hq
 .obtain⟨its,r,pl,hz⟩:=I.list hq
  refine SeqAt.in_listAt (eqU x) pl.isList (λw hw=>Zjc rx fx r fs w (by simpa using hw)) ⟨.bl _,H,I,rfl,?_⟩
  rw[show its.toArray.any (eqU x)=its.any (eqU x) by simp,ZlA r fs]
  exact q
 .obtain⟨its,r,pl,hz⟩:=I.tuple hq
  refine SeqAt.in_tupleAt (eqU x) pl (λw hw=>Zjc rx fx r fs w (by simpa using hw)) ⟨.bl _,H,I,rfl,?_⟩
  rw[show its.toArray.any (eqU x)=its.any (eqU x) by simp,ZlA r fs]
  exact q
theorem ZlB:Za1 X (.builtin "len") (λxs H Q=>∃p ys,xs=[.ref p]/\(SqL X.K H p ys\/SqT X.K H p ys)/\Q (.int ys.length) H):=by
 intro pins s σ H xs us Q I r h
 obtain⟨p,ys,rfl,hq,q⟩:=h
 obtain⟨u,rfl,rx⟩:=vals1 r
 cases rx
 have hn:=Zja
 rcases hq with hq|hq
 .obtain⟨its,r',pl,hz⟩:=I.list hq
  have hlen:=r'.length
  exact Calls.call_len_list pl.isList (by simp only[Ys]<;>omega) ⟨.int ys.length,H,I.tok _,⟨s.toks+1,by rw[Ys,hlen]⟩,q⟩
 .obtain⟨its,r',pl,hz⟩:=I.tuple hq
  have hlen:=r'.length
  exact len_tuple pl (by simp only[Ys]<;>omega) ⟨.int ys.length,H,I.tok _,⟨s.toks+1,by rw[Ys,hlen]⟩,q⟩
theorem ZlC:Za1 X (.type "list") (λxs H Q=>∃p ys,xs=[.ref p]/\(SqL X.K H p ys\/SqT X.K H p ys)/\∀l,H l=none->Q (.ref l) (upd H l (.lst ys))):=by
 intro pins s σ H xs us Q I r h
 obtain⟨p,ys,rfl,hq,q⟩:=h
 obtain⟨u,rfl,rx⟩:=vals1 r
 cases rx
 have fin:∀(its:List Value),Vals ys its->ys.length<=sizeLine->∀(h':Heap) (c':Nat),(∀b o',s.heap.get? b=some o'->h'.get? b=some o') ->
   h'.get? s.heap.objs.size=some {cls:=.type "list",dict:=none,data:=.seq its.toArray c',slots:=#[]}->EP X pins σ Q (.ref s.heap.objs.size) {s with heap:=h'}:=λits r' hz h' c' kp e =>
  ⟨.ref s.heap.objs.size,_,I.laid (t':=s.toks) kp (Yc _) (show Zak X.prog X.w _ h' _ (.lst ys)from⟨hz,its,c',r',e⟩),rfl,q _ (I.hok.fresh (Yc _))⟩
 rcases hq with hq|hq
 .obtain⟨its,r',pl,hz⟩:=I.list hq
  have hlen:=r'.length
  obtain⟨o,ho,hc,n,hd⟩:=pl.isList
  exact call_list_seq p (.inl rfl) ho hc hd (λh' c' kp e=>fin its r' hz h' c' kp e) (by simp only[Ys]<;>omega)
 .obtain⟨its,r',pl,hz⟩:=I.tuple hq
  have hlen:=r'.length
  obtain⟨o,ho,hc,n,hd⟩:=pl
  exact call_list_seq p (.inr rfl) ho hc hd (λh' c' kp e=>fin its r' hz h' c' kp e) (by simp only[Ys]<;>omega)
theorem Zkf:Za1 X (.type "tuple") (λxs H Q=>∃p ys,xs=[.ref p]/\((SqL X.K H p ys/\∀l,H l=none->Q (.ref l) (upd H l (.tup ys)))\/(SqT X.K H p ys/\Q (.ref p) H))):=by
 intro pins s σ H xs us Q I r h
 obtain⟨p,ys,rfl,h⟩:=h
 obtain⟨u,rfl,rx⟩:=vals1 r
 cases rx
 rcases h with⟨hq,q⟩|⟨hq,q⟩
 .obtain⟨its,r',pl,hz⟩:=I.list hq
  have hlen:=r'.length
  refine call_tuple_list pl.isList (λh' kp=>?_) (by simp only[Ys]<;>omega)
  have I1:Inv X pins σ H {s with heap:=h'}:=I.kept (t':=s.toks) kp
  have I2:Inv X pins σ (upd H h'.objs.size (.tup ys)) {s with heap:=h'.push {cls:=.type "tuple",data:=.seq its.toArray}} :=
   I1.laid (t':=s.toks) (λb o e=>Ym _ e) (Yc _) (show Zak X.prog X.w _ _ _ (.tup ys)from⟨hz,its,r',IsTup.new _ _⟩)
  exact⟨.ref h'.objs.size,_,I2,rfl,q _ (I1.hok.fresh (Yc _))⟩
 .obtain⟨its,r',pl,hz⟩:=I.tuple hq
  exact call_tuple_same pl ⟨.ref p,H,I,rfl,q⟩
noncomputable def tyV (K:PySem.W.Frag) (T:String) (x:V) (H:Hp):Prop:=match x with
 |.str _=>T="str"
 |.int _=>T="int"
 |.ref p=>(T="list"/\∃xs,SqL K H p xs)\/(T="tuple"/\∃o,K.lookup p=some o/\o.cls=.type "tuple"/\o.dict=none) \/
   (T="dict"/\((∃kvs,H p=some (.dK kvs))\/∃kvs,H p=some (.dT kvs)))\/(T="set"/\∃S n,H p=some (.set S n))
 |_=>False
theorem tyV_is {pins:List (Addr×Obj)}{σ:St}{H:Hp}{s:Shared}{T:String}{x:V}{v:Value} (I:Inv X pins σ H s) (r:RelV x v) (ty:tyV X.K T x H) :
  s.TypeIs v T/\∀a,v=.ref a->∃ob,s.heap.get? a=some ob/\ob.dict=none:=by
 cases x with
 |str z =>
  obtain⟨t,rfl⟩:=r
  cases(show T="str" from ty)
  exact⟨typeIs_str s z t,λ_ e=>nomatch e⟩
 |int i =>
  obtain⟨t,rfl⟩:=r
  cases(show T="int" from ty)
  exact⟨typeIs_int s i t,λ_ e=>nomatch e⟩
 |ref p =>
  cases r
  rcases ty with⟨rfl,xs,hq⟩|⟨rfl,o,hk,hc,hd⟩|⟨rfl,hk⟩|⟨rfl,S,n,hk⟩
  .obtain⟨its,_,pl,_⟩:=I.list hq
   refine⟨pl.isList.typeIs,λa e=>?_⟩
   cases e
   obtain⟨o,n,e,c,hd,_⟩:=pl
   exact⟨o,e,hd⟩
  .refine⟨⟨o,I.kIn p o hk,hc⟩,λa e=>?_⟩
   cases e
   exact⟨o,I.kIn _ o hk,hd⟩
  .have z:∃o,s.heap.get? p=some o/\o.ExactDict:=by
    rcases hk with⟨kvs,hk⟩|⟨kvs,hk⟩
    .obtain⟨_,_,_,_,o,_,_,e,ex,_⟩:=I.hok p _ hk
     exact⟨o,e,ex⟩
    .obtain⟨_,_,_,_,o,_,_,e,ex,_⟩:=I.hok p _ hk
     exact⟨o,e,ex⟩
   obtain⟨o,e,ex⟩:=z
   refine⟨⟨o,e,ex.1⟩,λa e2=>?_⟩
   cases e2
   exact⟨o,e,ex.2.1⟩
  .obtain⟨o,_,_,_,e,ex,_⟩:=I.hok p _ hk
   refine⟨⟨o,e,ex.1⟩,λa e2=>?_⟩
   cases e2
   exact⟨o,e,ex.2.1⟩
 |_=>exact False.elim ty
noncomputable def tBM (K:PySem.W.Frag) (T:String) (r:V->List V->Hp->VK->Prop) (to:TE) (t:TA):TE:=fun σ H Q=>to σ H λx H1=>tyV K T x H1/\t σ H1 λxs H2=>r x xs H2 Q
variable {o e:Expr}{es:List Expr}{to:TE}{t:TA}{name:Str}{apos cpos:Pos}{T id:String}{r:V->List V->Hp->VK->Prop}
theorem Zdb (pa:PlainAttrs T) (slot:Slot T name id) (hty:typeOf (.builtin id)=pure (.type "method_descriptor")) (hm:MtR X id r) (ho:PE X o to) (ha:PA X (e::es) t)
  (hbase:attributeBase o name X.env (eval o X.env)=eval o X.env:=by rfl)
  (hfew:((backTo cpos (starEach (e::es) X.env)).all (λx=>!x.1)&&(backToKw cpos (keywordEach [] X.env)).all (λx=>x.1.isSome)
   && decide ((e::es).length+([]:List Keyword).length+(if ([]:List Keyword).isEmpty then 0 else 1)<30))=true:=by rfl)
  (hline:(apos.endLine==cpos.line)=true:=by rfl) (hs:starEach (e::es) X.env=(false,eval e X.env)::starEach es X.env:=by rfl) (hplain:(backTo cpos (starEach es X.env)).any (·.1)=false:=by rfl) :
  PE X (.Call (.Attribute o name apos) (e::es) [] cpos) (tBM X.K T r to t):=by
 intro pins s σ H Q I h
 refine wpAny_Call_method_late hbase hfew hline rfl (thn (ho pins s σ H _ I h) λv s1 ⟨x,H1,I1,r1,ty,q1⟩=>?_)
 obtain⟨h1,h2⟩:=tyV_is I1 r1 ty
 refine⟨T,id,pa,slot,hty,h1,h2,?_⟩
 have hA:=ha cpos pins s1 σ H1 _ I1 q1
 rw[hs]at hA⊢
 refine Calls.callWith_builtin (by show(false||(backTo cpos (starEach es X.env)).any (·.1))=false;rw[hplain]<;>rfl) (Calls.evalArgs_plain ?_)
 exact thn hA λus s2 ⟨vs,H2,I2,r2,q2⟩=>hm pins s2 σ H2 x vs v us Q I2 r1 r2 q2
end
noncomputable def MtM (X:Cx) (id:String) (r:V->List V->Hp->VK->Prop):Prop :=
 ∀(pins:List (Addr×Obj)) (s:Shared) (σ:St) (H:Hp) (x:V) (xs:List V) (v:Value) (us:List Value) (Q:VK),Inv X pins σ H s->RelV x v->Vals xs us->r x xs H Q ->
  wpAny (model X.prog X.w) X.A (call (.builtin id) (v::us)) (EP X pins σ Q) X.xe s
theorem Vals.hd:∀{x:V}{xs:List V}{us:List Value},Vals (x::xs) us->∃u vs,us=u::vs/\RelV x u/\Vals xs vs
 |_,_,_,.cons r h=>⟨_,_,rfl,r,h⟩
theorem Vals.no:∀{us:List Value},Vals [] us->us=[]
 |_,.nil=>rfl
theorem Vals.one {x:V}{us:List Value} (h:Vals [x] us):∃u,us=[u]/\RelV x u:=by
 obtain⟨u,_,rfl,r,h⟩:=h.hd;rw[h.no];exact⟨u,rfl,r⟩
theorem Vals.two {x y:V}{us:List Value} (h:Vals [x,y] us):∃u v,us=[u,v]/\RelV x u/\RelV y v:=by
 obtain⟨u,_,rfl,r,h⟩:=h.hd;obtain⟨v,rfl,q⟩:=h.one;exact⟨u,v,rfl,r,q⟩
theorem Vals.rep {xs:List V}{us:List Value} (h:Vals xs us):∀k:Nat,Vals (List.replicate k xs).flatten (List.replicate k us).flatten
 |0=>.nil
 |k+1=>by
  rw[List.replicate_succ,List.replicate_succ,List.flatten_cons,List.flatten_cons]
  exact Vals.append h (Vals.rep h k)
theorem foldl_rep (its:List Value):∀(k:Nat) (acc:List Value),
  List.foldl (λx1 x2=>x1++x2) acc.toArray (List.replicate k its.toArray)=(acc++(List.replicate k its).flatten).toArray
 |0,acc=>by simp
 |k+1,acc=>by
  have e:acc.toArray++its.toArray=(acc++its).toArray:=by simp
  have e2:(acc++its)++(List.replicate k its).flatten=acc++(List.replicate (k+1) its).flatten:=by
   rw[List.replicate_succ,List.flatten_cons,YX]
  rw[<-e2,<-foldl_rep its k (acc++its),<-e,List.replicate_succ,List.foldl_cons]
section
variable {X:Cx}{pins:List (Addr×Obj)}{σ:St}{H:Hp}{s:Shared}{l b:Addr}{xs ys zs:List V}
theorem Inv.lset {its its':List Value}{n:Nat}{f:Array Value->Array Value}{t':Nat} (I:Inv X pins σ H s) (hH:H l=some (.lst xs))
  (e:s.heap.get? l=some {cls:=.type "list",data:=.seq its.toArray n}) (hf:f its.toArray=its'.toArray) (hv:Vals ys its') (hz:ys.length<=sizeLine) :
  Inv X pins σ (upd H l (.lst ys)) {s with heap:=s.heap.update l (Obj.mapSeq f),toks:=t'}:=by
 have q:=PySem.IsL.update e f
 rw[hf]at q
 refine I.write (x:=l) (e:=l) (by rw[hH];exact trivial) (.inl rfl) (λb' u hb hu=>(Heap.get?_update_other s.heap (Obj.mapSeq f) (Ne.symm hb)).trans hu) ⟨_,q⟩ ?_
 exact⟨hz,its',_,hv,q⟩
theorem Inv.lnew {its:List Value}{t':Nat} (I:Inv X pins σ H s) (hv:Vals ys its) (hz:ys.length<=sizeLine) :
  Inv X pins σ (upd H s.heap.objs.size (.lst ys)) {s with heap:=s.heap.push {cls:=.type "list",data:=.seq its.toArray},toks:=t'} :=
 I.laid (λ_ _ q=>Ym _ q) (Yc _) ⟨hz,its,0,hv,YC _ rfl⟩
theorem Inv.fresh (I:Inv X pins σ H s):H s.heap.objs.size=none:=I.hok.fresh (Yc _)
theorem Inv.ZmF (I:Inv X pins σ H s) (hH:H l=some (.lst xs)):xs.length<=sizeLine/\∃(its:List Value) (n:Nat),Vals xs its/\xs.length=its.length/\s.heap.get? l=some {cls:=.type "list",data:=.seq its.toArray n}:=by
 obtain⟨z,its,n,r,e⟩:=I.hok l _ hH
 exact⟨z,its,n,r,r.length,e⟩
theorem ZmG {n:Nat} (h:n<=sizeLine):Builtin.List.listTooLong n=false:=by
 unfold Builtin.List.listTooLong
 exact Yz ⋯
end
section
variable {X:Cx}
noncomputable def ZlD:V->List V->Hp->VK->Prop:=λx vs H Q=>∃l xs y,x=.ref l/\vs=[y]/\H l=some (.lst xs)/\xs.length<sizeLine/\Q .non (upd H l (.lst (xs++[y])))
theorem Zav:MtM X "list.append" ZlD:=by
 intro pins s σ H x vs v us Q I rx rv h
 obtain⟨l,xs,y,rfl,rfl,hH,hz,q⟩:=h
 cases rx
 obtain⟨u,rfl,ru⟩:=rv.one
 obtain⟨z,its,n,r,hl,e⟩:=I.ZmF hH
 refine call_meets F.slot_list_append ⟨_,e,rfl⟩ F.entry_list_append (F.args_list_append_2 _ _) (PySem.list_append l its.toArray n u (by rw[Ys];omega)) ⟨e,?_⟩
 refine⟨.non,_,I.lset (its':=its++[u]) hH e (by simp) (r.append (.cons ru .nil)) ?_,rfl,q⟩
 rw[YS,List.length_singleton]
 omega
noncomputable def ZlE:V->List V->Hp->VK->Prop:=λx vs H Q=>∃l b xs zs,x=.ref l/\vs=[.ref b]/\H l=some (.lst xs)/\H b=some (.lst zs)/\xs.length+zs.length<=sizeLine/\Q .non (upd H l (.lst (xs++zs)))
theorem Zqo:MtM X "list.extend" ZlE:=by
 intro pins s σ H x vs v us Q I rx rv h
 obtain⟨l,b,xs,zs,rfl,rfl,hH,hB,hz,q⟩:=h
 cases rx
 obtain⟨u,rfl,ru⟩:=rv.one
 cases ru
 obtain⟨z,its,n,r,hl,e⟩:=I.ZmF hH
 obtain⟨z2,its2,n2,r2,hl2,e2⟩:=I.ZmF hB
 have hsz:its.toArray.size+its2.toArray.size<=sizeLine:=by rw[Ys,Ys];omega
 have hlong:¬ (!its.toArray.isEmpty&&Builtin.List.listTooLong (its.toArray.size+its2.toArray.size))=true:=by
  rw[ZmG hsz,Bool.and_false]
  exact YW
 refine call_meets F.slot_list_extend ⟨_,e,rfl⟩ F.entry_list_extend (F.args_list_extend_2 _ _)
  (AutoSeq1.list_extend_list_list_0 l its.toArray n b its2.toArray n2 hlong (by rw[Ys];omega) ⋯) ⟨e,e2,?_⟩
 refine⟨.non,_,I.lset (its':=its++its2) hH e (by simp) (r.append r2) ?_,rfl,q⟩
 rw[YS]
 omega
noncomputable def rCat:R2:=λx y H Q=>∃l b xs zs,x=.ref l/\y=.ref b/\H l=some (.lst xs)/\H b=some (.lst zs)/\xs.length+zs.length<=sizeLine/\∀p,H p=none->Q (.ref p) (upd H p (.lst (xs++zs)))
theorem ZnS:OpR X (binaryOp .Add) rCat:=by
 intro pins s σ H x y v u Q I rx ry h
 obtain⟨l,b,xs,zs,rfl,rfl,hH,hB,hz,q⟩:=h
 cases rx
 cases ry
 obtain⟨z,its,n,r,hl,e⟩:=I.ZmF hH
 obtain⟨z2,its2,n2,r2,hl2,e2⟩:=I.ZmF hB
 refine PySem.P.add_list e e2 ?_ (by rw[Ys,Ys];omega)
 have ea:its.toArray++its2.toArray=(its++its2).toArray:=by simp
 rw[ea]
 exact⟨.ref _,_,I.lnew (t':=s.toks) (r.append r2) (by rw[YS];omega),rfl,q _ I.fresh⟩
noncomputable def rRep:R2:=λx y H Q=>∃l k xs,x=.ref l/\y=.int k/\H l=some (.lst xs)/\-(2 ^ 63)<=k/\k<2 ^ 63/\xs.length*k.toNat<=sizeLine /\
 ∀p,H p=none->Q (.ref p) (upd H p (.lst (List.replicate k.toNat xs).flatten))
theorem len_rep {α:Type} (xs:List α) (k:Nat):(List.replicate k xs).flatten.length=k*xs.length:=by
 induction k with
 |zero=>simp
 |succ k ih=>rw[List.replicate_succ,List.flatten_cons,YS,ih,Nat.succ_mul,Nat.add_comm]
theorem op_rep:OpR X (binaryOp .Mult) rRep:=by
 intro pins s σ H x y v u Q I rx ry h
 obtain⟨l,k,xs,rfl,rfl,hH,h1,h2,hz,q⟩:=h
 cases rx
 obtain⟨t,rfl⟩:=ry
 obtain⟨z,its,n,r,hl,e⟩:=I.ZmF hH
 have hlen:its.toArray.size*k.toNat<=sizeLine:=by rw[Ys,<-hl];exact hz
 have hcap:¬ its.toArray.size*k.toNat>(2 ^ 63-1) / 8:=by
  have:(sizeLine:Nat)<=(2 ^ 63-1) / 8:=by decide
  omega
 have hfit:¬ (!Builtin.List.listFitsIndex k)=true:=by
  rw[fitsIndex_both h1 h2]
  exact YW
 have hlong:¬ Builtin.List.listTooLong (its.toArray.size*k.toNat)=true:=by
  rw[ZmG hlen]
  exact YW
 have hnew:List.foldl (λx1 x2=>x1++x2) #[] (List.replicate (if its.toArray.isEmpty=true then 0 else k.toNat) its.toArray)=(List.replicate k.toNat its).flatten.toArray:=by
  have f0:∀m:Nat,List.foldl (λx1 x2=>x1++x2) #[] (List.replicate m its.toArray)=(List.replicate m its).flatten.toArray:=λm=>by
   have:=foldl_rep its m []
   rw[List.nil_append]at this
   exact this
  rw[f0]
  cases its with
  |nil=>simp
  |cons a r'=>rw[Yb (by simp)]
 refine wpAny_binaryOp_repeat_ref (T:="list") (U:="int") nofun ⟨_,e,rfl⟩ (λs'=>typeIs_int s' k t) noFill_list_mul F.fills_int_mul F.slot_int_rmul repeat_list F.slot_int_index.lookup
  (call_meets F.slot_int_rmul (typeIs_int s k t) F.entry_int_rmul (F.args_int_rmul_2 _ _) (int___rmul___int_list k t l its.toArray n)
   ⟨e,rfl,⟨_,e,rfl⟩,call_meets F.slot_list_mul ⟨_,e,rfl⟩ F.entry_list_mul (F.args_list_mul_2 _ _) (AutoListH.list___mul___list_int_3 l its.toArray n k t hfit hcap hlong) ⟨e,?_⟩⟩)
 rw[hnew]
 exact⟨.ref _,_,I.lnew (t':=s.toks) (r.rep k.toNat) (by rw[len_rep,Nat.mul_comm];exact hz),rfl,q _ I.fresh⟩
end
end Lake
namespace Att
open PySem PySem.W PySem.Calls PyProof.Rows
theorem ZiF {P:Params}{h:Heap}:∀(ns:List Int) (vs:List Value),WellAll P h vs (ns.map WData.int)->IntsAre vs ns:=by
 intro ns
 induction ns with
 |nil =>
  intro vs w
  rw[List.map_nil]at w
  cases w
  exact .nil
 |cons n ns ih =>
  intro vs w
  rw[YR]at w
  cases w with
  |cons a b =>
   cases a
   exact .cons _ _ (ih _ b)
theorem Zqp {l:OpenLaw}{n:Nat} (hn:l.most=some n) {P:Params}{h:Heap}{args:List WData}{vals:List Value}
  (hpre:l.row.toRowW.claim.pre args=true) (hwl:WellAll P h vals args) :
  ∃a vs ns,vals=[Value.ref a]/\args=[WData.list (ns.map WData.int)]/\h.get? a=some {cls:=.type "list",data:=.seq vs.toArray}/\IntsAre vs ns/\ns.length<=n:=by
 have hsh:WShape.hasAll [] args [.list .int]=true:=(pre_splitW hpre).1
 have hc:l.pre.holds [] {args:=args}=true:=(pre_splitW hpre).2
 obtain⟨d,r,rfl,h1,h2⟩:=hasAllW_cons hsh
 obtain rfl:=hasAllW_nil h2
 obtain⟨xs,rfl,h3⟩:=hasW_list h1
 obtain⟨ns,rfl⟩:=items_int h3
 have hlen:ns.length<=n:=by
  unfold OpenLaw.pre at hc
  have h4:(WTm.not (.lt (.lit (.int (n:Int))) (.len (.arg 0)))).holds [] {args:=[.list (ns.map .int)]}=true:=by
   have h4:=(holds_andW hc).1
   rw[hn]at h4
   exact h4
  have h5:=condW_of h4 (w_not (w_lt w_lit (w_len_list (w_arg rfl))))
  rw[Yi]at h5
  refine Nat.le_of_not_lt λq=>?_
  have q':(n:Int)<((ns.length:Nat):Int):= ⋯
  first
   |(rw[Yt q']at h5;exact absurd h5 nofun)
   |(simp at h5;omega)
 cases hwl with
 |cons w1 w2 =>
  cases w2
  cases w1 with
  |list ho hall=>exact⟨_,_,ns,rfl,rfl,ho,ZiF ns _ hall,hlen⟩
theorem Zqq (l:OpenLaw) (args:List WData):l.row.toRowW.claim.post args (.bool true) args=true :=
 postW_of (r:=l.row.toRowW) (X:=(true==true))
  (show WShape.has [] (.bool true) .bool=true by first|rfl|decide|simp[WShape.has,WShape.arms,WShape.armsAll])
  (show(WTm.eq .res (.lit (.bool true))).value [] {args:=args,res:=some (.bool true),after:=args}=some (.bool (true==true))from w_eq_bool (w_res rfl) w_lit) rfl
theorem ZmH {l:OpenLaw}{n:Nat}{q:Program}{loose:List Str}{XP:(Str->Option Value)->Heap->Prop}{YP:World->Heap->Prop}{d:DefRec}
  (hn:l.most=some n) (hdf:d.params.defaults=[])
  (call:∀(w:World) (s₀ s₁:Shared) (mg mb:Str->Option Value) (fa:Addr) (o:Obj) (pm cd doc:Value) (a:Addr) (vs:List Value) (ns:List Int),
   Ground q loose [] XP w s₀ mg mb s₁.heap->YP w s₁.heap ->
   s₁.heap.get? fa=some o->o.data=.func (docDef d.name d.params d.body d.scope pm cd doc)->s₁.heap.CodeRec cd d.name->mg d.name=some (.ref fa) ->
   s₁.heap.get? a=some {cls:=.type "list",data:=.seq vs.toArray}->IntsAre vs ns->ns.length<=n->s₁.gens=#[] ->
   codeAny (model l.prog w) callerA (.call (.ref fa) ⟨[.ref a],[]⟩) (λr s'=>r=.ok (.ret (.bool true))/\OldK s₁.heap s'.heap/\s'.os=s₁.os/\AllBare s'.gens) s₁) :
  WalkO q loose XP YP l.row.toRowW d [] (λf vs=>PySem.call f vs):=by
 intro w s₀ s₁ mg mb G Y fa o pm cd doc dV kV ho hd hcd hD hmg hg args vals as hpre hlay hrd hwl hlo
 obtain rfl:dV=.none:=Dflts.none hD hdf
 obtain rfl:kV=.none:=Dflts.noKw hD
 obtain⟨a,vs,ns,rfl,rfl,hobj,hints,hlen⟩:=Zqp hn hpre hwl
 refine enter_call (codeAny_mono (call w s₀ s₁ mg mb fa o pm cd doc a vs ns G Y ho (fd_plain hd) hcd hmg hobj hints hlen hg) λr s' hq=>?_)
 obtain⟨rfl,h2,h3,h4⟩:=hq
 exact⟨.inl ⟨.bool true,.bool true,[],rfl,λ_=>rfl,.bool true,Zqq l _,λ_=>⟨List.Pairwise.nil,λ_ hm=>(nomatch hm)⟩⟩,h2,h3,h4⟩
end Att
namespace Lake
open PySem PySem.Spec PyProof.Rows
theorem ZhM:∀{vs:List Value}{ns:List Int},IntsAre vs ns->Vals (ns.map V.int) vs
 |_,_,.nil=>.nil
 |_,_,.cons n t h=>.cons ⟨t,rfl⟩ (ZhM h)
noncomputable def defArgs (s:Stmt):Arguments:=match s with
 |.FunctionDef _ a _ _ _ _ _ _ _ _=>a
 |_=>{posonlyargs:=[],args:=[],vararg:=none,kwonlyargs:=[],kw_defaults:=[],kwarg:=none,defaults:=[]}
noncomputable def defBody (s:Stmt):List Stmt:=match s with
 |.FunctionDef _ _ b _ _ _ _ _ _ _=>b
 |_=>[]
noncomputable def defScope (s:Stmt):Scope:=match s with
 |.FunctionDef _ _ _ _ _ _ sc _ _ _=>sc
 |_=>{kind:=.function,names:=[],isGenerator:=false,isCoroutine:=false}
noncomputable abbrev E0:XK:=λ_ _ _=>False
structure Fun (K:PySem.W.Frag) (x qual:Str) (st:Stmt) (f:Addr) (fd:FuncData):Prop where
 ex:∃(oc:Value) (od:Option Addr) (kV doc pm:Value) (an:Option Addr) (cdv ct:Value) (osl:Array (Option Value)),
  fd=PySem.W.fnOf x qual (defArgs st) (defBody st) (defScope st) .none kV doc pm an cdv ct/\K.lookup f=some ⟨oc,od,.func fd,osl⟩/\PySem.W.codeIn K cdv qual=true
 kp:PySem.W.keepIn K (.ref f)=true
section
variable {P:Program}{w:World}{K:PySem.W.Frag}{mg:Str->Option Value}{base:Heap}
theorem Fun.binds {x qual:Str}{st:Stmt}{f:Addr}{fd:FuncData}{ps:List Str} (F:Fun K x qual st f fd)
  (h:∀(kV doc pm:Value) (an:Option Addr) (cdv ct:Value) (us:List Value),us.length=ps.length->bindArgs (PySem.W.fnOf x qual (defArgs st) (defBody st) (defScope st) .none kV doc pm an cdv ct) ⟨us,[]⟩=pure (ps.zip us)):Binds K fd ps []:=by
 obtain⟨oc,od,kV,doc,pm,an,cdv,ct,osl,rfl,lk,hcd⟩:=F.ex
 exact .all (h kV doc pm an cdv ct)
theorem ZH {x qual:Str}{st:Stmt}{f:Addr}{oc:Value}{od an:Option Addr}{osl:Array (Option Value)}{kV doc pm cdv ct:Value} (l:K.lookup f=some ⟨oc,od,.func (PySem.W.fnOf x qual (defArgs st) (defBody st) (defScope st) .none kV doc pm an cdv ct),osl⟩)
  (c:PySem.W.codeIn K cdv qual=true) (k:PySem.W.keepIn K (.ref f)=true):Fun K x qual st f (PySem.W.fnOf x qual (defArgs st) (defBody st) (defScope st) .none kV doc pm an cdv ct):=⟨⟨oc,od,kV,doc,pm,an,cdv,ct,osl,rfl,l,c⟩,k⟩
end
section
variable {X:Cx}
theorem pv (i:Nat) {x:Str}{pos:Pos} (hN:X.N[i]?=some x:=by rfl) (hv:Vis X.env.scope x:=by ac_rfl) (hd:(x==("__debug__":Str))=false:=by decide)
  (hcd:(x==("__classdict__":Str))=false:=by decide):PE X (.Name x pos) (Zlp i):=pe_var hN hv hd hcd
end
theorem ZA {c A B:Prop} [Decidable c] (h1:c->A) (h2:¬ c->B):if c then A else B:=by
 by_cases h:c
 .rw[Yd h]
  exact h1 h
 .rw[Yb h]
  exact h2 h
noncomputable def Zd (H H':Hp):Prop:=∀b o,H b=some o->H' b=some o
theorem Zd.refl (H:Hp):Zd H H:=λ_ _ h=>h
theorem Zd.trans {H H1 H2:Hp} (a:Zd H H1) (b:Zd H1 H2):Zd H H2:=λc o h=>b c o (a c o h)
theorem Zd.free {H H':Hp} (e:Zd H H') {l:Addr} (h:H' l=Option.none):H l=Option.none:=by
 cases q:H l with
 |none=>rfl
 |some o =>
  rw[e l o q]at h
  cases h
theorem Zd.seq {K:PySem.W.Frag}{H H':Hp}{a:Addr}{xs:List V} (e:Zd H H') (h:SqL K H a xs):SqL K H' a xs:=by
 rcases h with(h|⟨o,h⟩)|h
 .exact .inl (.inl (e _ _ h))
 .exact .inl (.inr ⟨o,e _ _ h⟩)
 .exact .inr h
theorem Zew {env:Env}:∀(names:List (Str×NameKind)) (cs0:List (Str×Addr)),(∀y∈names,y.2=.free->∃c,env.cells.lookup y.1=some c) ->
  ∃cl,(forIn names cs0 (λ(x:Str×NameKind) r=>(do
   match x with
   |(name,kind)=>if (kind==NameKind.free)=true then do let a <-cellOf env name;pure (ForInStep.yield ((name,a)::r))else pure (ForInStep.yield r)):_->_->Sem (ForInStep (List (Str×Addr)))))=pure cl /\
   (∀p∈cl,p∈cs0\/env.cells.lookup p.1=some p.2)/\(∀p∈cs0,p∈cl)/\(∀y∈names,y.2=.free->∃c,(y.1,c)∈cl)
 |[],cs0,_=>⟨cs0,rfl,λp h=>.inl h,λp h=>h,λy h=>by cases h⟩
 |(n,k)::r,cs0,h=>by
  by_cases hk:k=.free
  .subst hk
   obtain⟨c,hc⟩:=h (n,.free) (.head _) rfl
   obtain⟨cl,e,h1,h2,h3⟩:=Zew r ((n,c)::cs0) λy hy=>h y (.tail _ hy)
   refine⟨cl,?_,λp hp=>?_,λp hp=>h2 p (.tail _ hp),λy hy hf=>?_⟩
   .rw[List.forIn_cons]
    have e1:cellOf env n=pure c:=by unfold cellOf;rw[hc]
    simp only[beq_self_eq_true,if_true,e1,pure_bind]
    exact e
   .rcases h1 p hp with q|q
    .rcases Yk.mp q with q|q
     .subst q;exact .inr hc
     .exact .inl q
    .exact .inr q
   .rcases Yk.mp hy with q|q
    .subst q;exact⟨c,h2 _ (.head _)⟩
    .exact h3 y q hf
  .obtain⟨cl,e,h1,h2,h3⟩:=Zew r cs0 λy hy=>h y (.tail _ hy)
   refine⟨cl,?_,h1,h2,λy hy hf=>?_⟩
   .rw[List.forIn_cons]
    have e1:(k==NameKind.free)=false:=by cases k<;>first|rfl|exact absurd rfl hk
    simp only[e1,Bool.false_eq_true,if_false,pure_bind]
    exact e
   .rcases Yk.mp hy with q|q
    .subst q;exact absurd hf hk
    .exact h3 y q hf
theorem Zjd {env:Env}{scope:Scope} (h:∀y∈scope.names,y.2=.free->∃c,env.cells.lookup y.1=some c) :
  ∃cl,closureFor scope env=pure cl/\(∀x c,cl.lookup x=some c->env.cells.lookup x=some c)/\(∀y∈scope.names,y.2=.free->∃c,cl.lookup y.1=some c/\env.cells.lookup y.1=some c):=by
 obtain⟨cl,e,h1,h2,h3⟩:=Zew (env:=env) scope.names [] h
 have up:∀x c,cl.lookup x=some c->env.cells.lookup x=some c:=λx c q=>by
  rcases h1 _ (PySem.mem_of_lookup q)with z|z
  .cases z
  .exact z
 refine⟨cl,?_,up,λy hy hf=>?_⟩
 .unfold closureFor
  simp only[bind_pure_comp]at e⊢
  rw[e]
  exact pure_bind _ _
 .obtain⟨c,hc⟩:=h3 y hy hf
  cases q:cl.lookup y.1 with
  |none=>exact absurd (List.lookup_eq_none_iff.mp q _ hc) (by simp)
  |some c'=>exact⟨c',rfl,up _ _ q⟩
noncomputable def compOk (around scope:Scope):Bool :=
 scope.kind==.function&&around.kind==.function&&scope.names.all λy=>match y.2 with
  |.local=>scope.names.lookup y.1==some .local
  |.cell=>false
  |.free=>(scope.names.lookup y.1==some .free)&&(around.names.lookup y.1==some .cell||around.names.lookup y.1==some .free)
  |_=>true
theorem Zdc {a s:Scope} (h:compOk a s=true):s.kind=.function:=by
 simp only[compOk,Bool.and_eq_true,beq_iff_eq]at h;exact h.1.1
theorem ZhN {a s:Scope} (h:compOk a s=true) {y:Str×NameKind} (hy:y∈s.names):(match y.2 with
  |.local=>s.names.lookup y.1==some .local
  |.cell=>false
  |.free=>(s.names.lookup y.1==some .free)&&(a.names.lookup y.1==some .cell||a.names.lookup y.1==some .free)
  |_=>true)=true:=by
 simp only[compOk,Bool.and_eq_true]at h
 exact List.all_eq_true.mp h.2 y hy
theorem ZlF {a s:Scope} (h:compOk a s=true):∀y∈s.names,y.2=.local->s.names.lookup y.1=some .local:=λy hy e=>by
 have q:=ZhN h hy
 rw[e]at q
 exact beq_iff_eq.mp q
theorem Zdd {a s:Scope} (h:compOk a s=true):∀y∈s.names,y.2≠.cell:=λy hy e=>by
 have q:=ZhN h hy
 rw[e]at q
 cases q
theorem Zde {a s:Scope} (h:compOk a s=true):∀y∈s.names,y.2=.free->a.names.lookup y.1=some .cell\/a.names.lookup y.1=some .free:=λy hy e=>by
 have q:=ZhN h hy
 rw[e]at q
 simp only[Bool.and_eq_true,Bool.or_eq_true,beq_iff_eq]at q
 exact q.2
theorem Z0 {env:Env}:∀{names:List (Str×NameKind)}{x:Str}{k:NameKind},(names.map λ(n,k)=>if (k==NameKind.free&&env.scope.kind==.function&&env.kindOf n==some .cell)then (n,NameKind.cell)else (n,k)).lookup x=some k ->
  ∃k',names.lookup x=some k'/\(k=k'\/(k'=.free/\k=.cell))
 |[],_,_,h=>by simp at h
 |(n,k0)::r,x,k,h=>by
  by_cases hx:x=n
  .subst hx
   refine⟨k0,by simp,?_⟩
   simp only[YR]at h
   split at h
   .rename_i hc
    simp only[Bool.and_eq_true,beq_iff_eq]at hc
    simp only[List.lookup_cons_self,Option.some.injEq]at h
    exact .inr ⟨hc.1.1,h.symm⟩
   .simp only[List.lookup_cons_self,Option.some.injEq]at h
    exact .inl h.symm
  .have hb:(x==n)=false:=by simpa using hx
   simp only[YR]at h
   have e2:∀k1,((n,k1)::r).lookup x=r.lookup x:=λk1=>by simp[List.lookup_cons,hb]
   split at h<;>(simp only[List.lookup_cons,hb]at h;obtain⟨k',h1,h2⟩:=Z0 h;exact⟨k',by rw[e2];exact h1,h2⟩)
noncomputable def Zce (X:Cx) (Nc:List Str) (scope:Scope) (cl:List (Str×Addr)) (C:Addr) (s2:Shared) (H2:Hp) (fp:List Addr):Cx where
 prog:=X.prog
 w:=X.w
 K:=X.K
 mg:=X.mg
 base:=X.base
 A:=X.A
 N:=Nc
 s₀:=s2
 H₀:=H2
 env:=compEnvC scope cl C X.env
 outer:=X.stack
 stack:=X.stack
 ex:=fp
 fn:=λ_=>false
 calm:=X.calm
 pn:=[]
 xe:=λ_ _=>False
noncomputable def ZO (js:List (Option Nat)) (σ:St):St:=js.map λj=>match j with
 |none=>none
 |some i=>(σ[i]?).join
noncomputable def takesC (N Nc:List Str) (scope:Scope):List (Option Nat)->Nat->Bool
 |[],i=>i==Nc.length
 |none::r,i=>takesC N Nc scope r (i+1)
 |some j::r,i=>(match Nc[i]?,N[j]? with
  |some x,some y=>x==y&&scope.names.lookup x==some .free
  |_,_=>false)&&takesC N Nc scope r (i+1)
theorem ZcM {N Nc:List Str}{scope:Scope}:∀{js:List (Option Nat)}{i:Nat},takesC N Nc scope js i=true->i+js.length=Nc.length
 |[],i,h=>by simpa[takesC]using h
 |none::r,i,h=>by
  have:=ZcM (js:=r) (i:=i+1) (by simpa[takesC]using h)
  simp only[YN];omega
 |some j::r,i,h=>by
  simp only[takesC,Bool.and_eq_true]at h
  have:=ZcM (js:=r) (i:=i+1) h.2
  simp only[YN];omega
theorem Zeh {N Nc:List Str}{scope:Scope}:∀{js:List (Option Nat)}{i k j:Nat},takesC N Nc scope js i=true->js[k]?=some (some j)->∃x,Nc[i+k]?=some x/\N[j]?=some x/\scope.names.lookup x=some .free
 |[],i,k,j,h,e=>by simp at e
 |none::r,i,0,j,h,e=>by simp at e
 |none::r,i,k+1,j,h,e=>by
  obtain⟨x,h1,h2,h3⟩:=Zeh (js:=r) (i:=i+1) (k:=k) (j:=j) (by simpa[takesC]using h) (by simpa using e)
  exact⟨x,by rw[<-h1];congr 1;omega,h2,h3⟩
 |some j0::r,i,0,j,h,e=>by
  simp only[takesC,Bool.and_eq_true]at h
  simp only[List.getElem?_cons_zero,Option.some.injEq]at e
  subst e
  cases e1:Nc[i]? with
  |none=>rw[e1]at h;simp at h
  |some x =>
   cases e2:N[j0]? with
   |none=>rw[e1,e2]at h;simp at h
   |some y =>
    rw[e1,e2]at h
    simp only[Bool.and_eq_true,beq_iff_eq]at h
    exact⟨x,by simpa using e1,by rw[h.1.1],h.1.2⟩
 |some j0::r,i,k+1,j,h,e=>by
  simp only[takesC,Bool.and_eq_true]at h
  obtain⟨x,h1,h2,h3⟩:=Zeh (js:=r) (i:=i+1) (k:=k) (j:=j) h.2 (by simpa using e)
  exact⟨x,by rw[<-h1];congr 1;omega,h2,h3⟩
section
variable {X:Cx}
theorem lookup_mem {names:List (Str×NameKind)}{x:Str}{k:NameKind} (h:names.lookup x=some k):(x,k)∈names:=PySem.mem_of_lookup h
theorem ZnT {pins:List (Addr×Obj)}{σ:St}{H2:Hp}{s2:Shared}{Nc:List Str}{js:List (Option Nat)}{scope:Scope}{cl:List (Str×Addr)}{fp:List Addr}{h1:Heap}{tk:Nat}{D C:Addr}{oD:Obj}{m:Str->Option Value}
  (I:Inv X pins σ H2 s2) (hok:compOk X.env.scope scope=true) (htk:takesC X.N Nc scope js 0=true) (up:∀x c,cl.lookup x=some c->X.env.cells.lookup x=some c) (hfr:∀y∈scope.names,y.2=.free->∃c,cl.lookup y.1=some c/\X.env.cells.lookup y.1=some c)
  (hfp:∀b∈fp,FpOk X pins H2 b) (hfl:∀b∈fp,b<s2.heap.objs.size) (hD:D=s2.heap.objs.size) (hC:C=s2.heap.objs.size+1) (old:∀b o,s2.heap.get? b=some o->h1.get? b=some o) (hns:h1.Ns C m) (hoD:h1.get? D=some oD) (hdD:∀v,oD.data≠.cell v) :
  Inv (Zce X Nc scope cl C s2 H2 fp) [(D,oD)] (ZO js σ) H2 {s2 with heap:=h1,toks:=tk}:=by
 have leC:s2.heap.objs.size<=C:=by rw[hC];exact Y5 _
 have leD:s2.heap.objs.size<=D:=Ji hD.symm
 have kf:∀x,((compEnvC scope cl C X.env).kindOf x=some .cell\/(compEnvC scope cl C X.env).kindOf x=some .free)->∃c,cl.lookup x=some c/\X.env.cells.lookup x=some c:=λx hx=>by
  have:∃k,(compEnvC scope cl C X.env).kindOf x=some k/\(k=.cell\/k=.free):=hx.elim (λq=>⟨_,q,.inl rfl⟩) λq=>⟨_,q,.inr rfl⟩
  obtain⟨k,e,hk⟩:=this
  obtain⟨k',h1,h2⟩:=Z0 (show(scope.names.map _).lookup x=some k from e)
  have hm:=lookup_mem h1
  have:k'=.free:=by
   rcases h2 with q|q
   .subst q
    rcases hk with q|q
    .subst q;exact absurd rfl (Zdd hok _ hm)
    .exact q
   .exact q.1
  subst this
  exact hfr _ hm rfl
 have nC:∀c x,X.env.cells.lookup x=some c->c<s2.heap.objs.size:=λc x e=>by
  obtain⟨v,q⟩:=I.cell x c e
  exact q.lt
 have noB:∀b,b∈fp->b∉frs X.stack:=λb hb q=>by
  rcases Yk.mp (I.Zfp b q)with z|z
  .exact(hfp b hb).2.1 z
  .exact(hfp b hb).2.2.1 z
 have okX:(Zce X Nc scope cl C s2 H2 fp).Ok:=by
  refine⟨I.ok.mod,(show scope.kind=.function from Zdc hok),I.ok.glob,I.ok.blt,?_,λx y c e1 e2=>I.ok.inj x y c (up _ _ e1) (up _ _ e2),λx hx=>?_,(λx c e=>nomatch e),I.ok.hd,I.ok.frames,.inl rfl,λb hb=>⟨?_,λx c e=>(hfp b hb).2.2.2.2.1 x c (up _ _ e)⟩,I.bs,Yr I.ok.bsz I.sz,λb o e hb=>?_,λb hb=>noB b hb,I.stack,I.Zg4⟩
  .show s2.heap.objs.size<=C;exact leC
  .obtain⟨c,q,_⟩:=kf x hx;exact⟨c,q⟩
  .exact Yo (YD (hfl b hb) leC)
  .rcases(hfp b hb).2.2.2.1 with q|q
   .exact I.ok.noex b o e q
   .exact absurd (YD (Yl e) (Yr I.ok.bsz q)) (YA _)
 refine⟨okX,rfl,I.bare,Un.kept old,⟨m,hns,λi x v e1 e2 e3=>?_⟩,λx c e=>?_,I.hok.fresh leC,λx c e=>I.freeC x c (up _ _ e),λp hp=>?_,I.hok.kept old,?_⟩
 .have e2':(ZO js σ)[i]?=some (some v):=e2
  unfold ZO at e2'
  rw[YE]at e2'
  cases q:js[i]? with
  |none=>rw[q]at e2';cases e2'
  |some j0 =>
   cases j0 with
   |none=>rw[q]at e2';cases e2'
   |some j =>
    rw[q]at e2'
    simp only[Option.map_some,Option.some.injEq]at e2'
    have e4:σ[j]?=some (some v):=by
     cases z:σ[j]? with
     |none=>rw[z]at e2';cases e2'
     |some o=>rw[z]at e2';simp only[Option.join_some]at e2';rw[e2']
    obtain⟨y,y1,y2,y3⟩:=Zeh htk q
    rw[Nat.zero_add]at y1
    have:x=y:=YM ((show Nc[i]?=some x from e1).symm.trans y1)
    subst this
    have hm:=lookup_mem y3
    obtain⟨c,c1,c2⟩:=hfr _ hm rfl
    have hk:=Zde hok _ hm rfl
    obtain⟨m0,hn0,hl0⟩:=I.loc
    obtain⟨u,r,l⟩:=hl0 j x v y2 e4 (hk.elim (λz=>.inr (.inl z)) λz=>.inr (.inr z))
    refine⟨u,r,.inr ⟨?_,c,c1,?_⟩⟩
    .rcases e3 with z|z|z
     .obtain⟨k',w1,w2⟩:=Z0 (show(scope.names.map _).lookup x=some NameKind.local from z)
      rw[y3]at w1;cases w1
      rcases w2 with w|w
      .cases w
      .cases w.2
     .exact .inl z
     .exact .inr z
    .rcases l with⟨lk,_⟩|⟨_,c',c3,c4⟩
     .rcases hk with z|z
      .rw[show X.env.kindOf x=some .cell from z]at lk;cases lk
      .rw[show X.env.kindOf x=some .free from z]at lk;cases lk
     .rw[c2]at c3;cases c3
      obtain⟨oc,w1,w2⟩:=c4
      exact⟨oc,old _ _ w1,w2⟩
 .obtain⟨v,oc,w1,w2⟩:=I.cell x c (up _ _ e)
  exact⟨v,oc,old _ _ w1,w2⟩
 .have:p=(D,oD):=by
   have hp':p∈([]++[(D,oD)]:List (Addr×Obj)):=hp
   simpa using hp'
  subst this
  refine⟨hoD,I.hok.fresh leD,(by show D≠C;rw[hD,hC];exact Yo (Nat.lt_succ_self _)),λhb=>?_,hdD⟩
  have hb':D∈frs X.stack:=hb
  obtain⟨_,o,ho,_⟩:=I.stack.mem hb'
  exact absurd (YD (Yl ho) leD) (YA _)
 .have:=ZcM htk
  show(ZO js σ).length=Nc.length
  unfold ZO;rw[Yi];omega
theorem Zft {prog:Program}{w:World}{A:Around}{R:Result->Shared->Prop}{s:Shared}{elt target iter:Expr}{ifs:List Expr}{scope:Scope}{pos:Pos}{it acc:Value}{env:Env} (I:Nat->Shared->Prop)
  (turn:∀n s,I n s->wpAny (model prog w) A (pyNext it) (λr s₁=>match r with
   |none=>R (.ok .next) s₁
   |some v=>wpAny (model prog w) A (letOwnedTupleGo target it v) (λ_ s₁=>wpAny (model prog w) A (assign target env v) (λ_ s₂ =>
     wpAny (model prog w) A (forIn ifs true λc r=>if r=true then do let ok <-isTrue c env (eval c env);pure (ForInStep.yield ok)else pure (ForInStep.yield r)) (λok s₃ =>
      if ok=true then wpAny (model prog w) A (eval elt env) (λx s₄ =>
       wpAny (model prog w) A (call (.builtin "list.append") [acc,x]) (λ_ s₅=>∃m,m<n/\I m s₅) (λ_ _=>False) s₄) (λ_ _=>False) s₃
      else ∃m,m<n/\I m s₃) (λ_ _=>False) s₂) (λ_ _=>False) s₁) (λ_ _=>False) s₁) (λ_ _=>False) s)
  (n:Nat) (h:I n s) :
  codeAny (model prog w) A (.compLoop (.ListComp elt [⟨target,iter,ifs,0⟩] scope pos) 0 it acc env) R s:=by
 refine codeAny_loop rfl I (λn s hI=>?_) n h
 show wpAny _ A ((compTurn (.ListComp elt [⟨target,iter,ifs,0⟩] scope pos) 0 it acc env).onRaise (λx=>do noteFrame x env;theTreesLotGoes x)) _ _ s
 refine wpAny_noted ?_
 rw[compTurn_list]
 refine Ya (wpAny_standAt (Ya (YJ (turn n s hI) (λr s₁ h₁=>?_) λ_ _ h'=>h'.elim)))
 cases r with
 |none=>exact Ye h₁
 |some v =>
  refine Ya (YJ h₁ (λ_ s₁' h₁=>?_) λ_ _ h'=>h'.elim)
  refine Ya (YJ h₁ (λ_ s₂ h₂=>Ya (YJ h₂ (λok s₃ h₃=>?_) λ_ _ h'=>h'.elim)) λ_ _ h'=>h'.elim)
  cases ok with
  |false=>exact Ye ⟨rfl,h₃⟩
  |true =>
   exact Ya (Ya (YJ h₃ (λx s₄ h₄=>Ya (YJ h₄ (λ_ s₅ h₅=>Ye (Ye ⟨rfl,h₅⟩)) λ_ _ h'=>h'.elim)) λ_ _ h'=>h'.elim))
noncomputable def ZlG (X:Cx) (ifs:List Expr) (t:TT):Prop :=
 ∀(pins:List (Addr×Obj)) (s:Shared) (σ:St) (H:Hp) (Q:Bool->Hp->Prop),Inv X pins σ H s->t σ H Q ->
  wpAny (model X.prog X.w) X.A (forIn ifs true λc r=>if r=true then do let ok <-isTrue c X.env (eval c X.env);pure (ForInStep.yield ok)else pure (ForInStep.yield r)) (TP X pins σ Q) X.xe s
noncomputable def tYes:TT:=λ_ H Q=>Q true H
theorem Zad:ZlG X [] tYes:=λpins s σ H Q I h=>wpAny_tests_nil ⟨H,I,h⟩
theorem Z1 {c:Expr}{t:TT} (h:PT X c t):ZlG X [c] t:=λpins s σ H Q I hq=>wpAny_tests_one (h pins s σ H Q I hq)
noncomputable def ZnU (L:List Nat) (σ σ':St):Prop:=σ'.length=σ.length/\∀k,k∉L->σ'[k]?=σ[k]?
noncomputable def ZkO (g:TG) (L:List Nat):Prop:=∀v σ H (Q Q':St->Hp->Prop),(∀σ' H',ZnU L σ σ'->Q σ' H'->Q' σ' H')->g v σ H Q->g v σ H Q'
theorem Zs {i:Nat}:ZkO (Zgl i) [i]:=λv σ H Q Q' hq h=>hq _ _ ⟨by simp,λk hk=>by
 rw[List.getElem?_set_ne]
 intro z;subst z;exact hk (by simp)⟩ h
noncomputable def Zpq (wi:TI) (g:TG) (tt:TT) (te:TE) (js:List (Option Nat)):TE:=fun σ H Q=>wi σ H λJ H1=>∃W:Nat->Nat->List V->Hp->Prop,(∃m,W 0 m [] H1)/\∀i m acc H,W i m acc H ->
 (J.stop i H/\acc.length<=sizeLine/\∀p,H p=none->Q (.ref p) (upd H p (.lst acc))) \/
 (J.go i H/\acc.length<sizeLine/\∀x H',J.yld i H x H'->g x (ZO js σ) H' fun σ2 H2=>tt σ2 H2 λb H3=>if b=true then te σ2 H3 λv H4=>∃m',m'<m/\W (i+1) m' (acc++[v]) H4 else ∃m',m'<m/\W (i+1) m' acc H3)
theorem ZlH {C:Addr}{h:Heap}:Heap.SameBut C h h:=by
 first|exact Heap.SameBut.refl|exact⟨rfl,λ_ _=>rfl⟩
end
end Lake
namespace Lake
open PySem PySem.Spec PyProof.Rows PySem.W PySem.Builtin.ObjectAttr PySem.Builtin.Getset_descriptor
noncomputable def ZmI (x C:Addr) (h:Heap):Prop:=∃o,h.get? x=some o/\o.cls=.ref C
structure ExK (K:Frag) (C:Addr):Prop where
 dk:hasDictIn K C=true
 ga:findIn K (.ref C) "__getattribute__"=some (some (.builtin "BaseException.__getattribute__"))
 gt:findIn K (.ref C) "__getattr__"=some none
 cl:findIn K (.ref C) "__class__"=some (some (.builtin "object.__class__"))
 gg:specialIn K (.builtin "object.__class__") "__get__"=some (some (.builtin "getset_descriptor.__get__"))
 tk:takesIn K (.builtin "object.__class__")=some true
 mo:mroIn K C (.type "object")=some true
 mb:mroIn K C (.type "BaseException")=some true
section
variable {K:Frag}{x C:Addr}
theorem ZmI.type {M:Model}{h:Heap} (I:ZmI x C h):Looks M h (typeOf (.ref x)) (.ref C):=by
 obtain⟨o,e,c⟩:=I
 exact c▸(Looks.ld e).andThen .now
theorem ZrO {M:Model}{h:Heap} (X:K.In h) (Z:ExK K C):Looks M h (find (.ref x) (.ref C) "__class__") (.bind (.builtin "getset_descriptor.__get__") (.builtin "object.__class__")):=by
 have L3:=looks_takesIn (M:=M) X Z.tk
 exact(looks_findIn (M:=M) X Z.cl).andThen ((looks_specialIn X Z.gg).andThen
  ((show Looks M h (dataDescriptor? (some (.builtin "object.__class__")) (some (.builtin "getset_descriptor.__get__"))) (some (.builtin "getset_descriptor.__get__",.builtin "object.__class__"))from L3.andThen .now).andThen (Looks.tag .now)))
theorem ZuF {prog:Program}{w:World}{A:Around}{R:Result->Shared->Prop}{s:Shared}{tp:Value} (X:K.In s.heap) (I:ZmI x C s.heap) (Z:ExK K C) (hR:R (.ok (.ret (.ref C))) s) :
  codeAny (model prog w) A (.call (.builtin "getset_descriptor.__get__") ⟨[.builtin "object.__class__",.ref x,tp],[]⟩) R s:=by
 obtain⟨hp,gn,dw,tk,os⟩:=s
 have L0:=I.type (M:=model prog w)
 have L1:=looks_mroIn (M:=model prog w) X Z.mo
 refine codeAny_call_builtin KF.slot_gs.plain KF.entry_gs (KF.slot_gs.check _ _ _ _ _ _ _ _ KF.type_class (KF.args_gs _ _ _) ?_)
 unfold Builtin.«getset_descriptor.__get__» descrGet;rw[dga_obj];refine Ya (Ye ?_)
 unfold descrGetter descrCheckInstance descrNameAndClass isInstance;simp only[KF.owner_class]
 repeat lk
 refine⟨Code.quiet_builtin _ (by decide +kernel),codeAny_builtin KF.entry_class ?_⟩;unfold Builtin.«object.__class__» shownTypeOf
 repeat lk
 exact hR
theorem Zqr {prog:Program}{w:World}{A:Around}{E:Value->Shared->Prop}{s:Shared}{tk:Tok}{Q:Fin->Shared->Prop} (X:K.In s.heap) (I:ZmI x C s.heap) (Z:ExK K C) (hQ:Q (.done (.ret (.ref C))) s) :
  wpAny (model prog w) A (Builtin.«object.__getattribute__» ⟨[.ref x,.str "__class__" tk],[]⟩) Q E s:=by
 obtain⟨hp,gn,dw,t,os⟩:=s
 have L0:=I.type (M:=model prog w)
 have L2:=ZrO (M:=model prog w) (x:=x) X Z
 unfold Builtin.«object.__getattribute__»
 refine Ya (Ye (Ya (Ye (Ya (L0.at (Ya (L2.at ?_)))))))
 show wpAny _ _ (holding _ (call _ _) >>= ret) _ _ _
 exact Ya (YH (wpAny_call (ZuF (s:=⟨hp,gn,dw,t,os⟩) X I Z (Ye hQ))))
theorem Zqs {M:Model}{A:Around}{E:Value->Shared->Prop}{s:Shared}{nameV:Value}{Q:Unit->Shared->Prop} (X:K.In s.heap) (I:ZmI x C s.heap) (Z:ExK K C) (hq:Q () s) :
  wpAny M A (checkBuiltinCall "BaseException.__getattribute__" ⟨[.ref x,nameV],[]⟩) Q E s:=by
 obtain⟨hp,gn,dw,t,os⟩:=s
 have hk:builtinKind "BaseException.__getattribute__"=some .slot:=by decide +kernel
 have hsplit:splitId "BaseException.__getattribute__"=some ("BaseException","__getattribute__"):=by decide +kernel
 have L0:=I.type (M:=M)
 have L1:=looks_mroIn (M:=M) X Z.mb
 have ha:=F.args_bexc_ga (.ref x) nameV
 simp only[checkBuiltinCall,hk,hsplit]
 refine Ya ?_
 unfold isInstance
 refine Ya (L0.at (L1.at ?_))
 repeat (first|assumption|wp_step)
theorem Zqt {prog:Program}{w:World}{A:Around}{E:Value->Shared->Prop}{s:Shared}{Q:Option Value->Shared->Prop} (X:K.In s.heap) (I:ZmI x C s.heap) (Z:ExK K C) (hQ:Q (some (.ref C)) {s with toks:=s.toks+1}) :
  wpAny (model prog w) A (getAttr? (.ref x) "__class__") Q E s:=by
 obtain⟨hp,gn,dw,tk,os⟩:=s
 have L0:=I.type (M:=model prog w)
 have L1:=looks_findIn (M:=model prog w) X Z.ga
 have L3:=looks_findIn (M:=model prog w) X Z.gt
 have hb:=(F.attrBase_ValueError.ga).bind (.ref x)
 unfold getAttr? getAttrBy? getAttrBy;refine Ya (wpAny_mkText (Ya (wpAny_attempt (YH (Ya (L0.at (Ya (L1.at ?_))))))))
 show wpAny _ _ (getAttrByItsOwn _ _ _ _ _ _) _ _ _
 unfold getAttrByItsOwn hookBefore
 refine Ya (L3.at ?_)
 refine Ya (wpAny_attempt (YH ?_))
 unfold callGetattribute
 show wpAny _ _ (boundAndCalled _ _ _) _ _ _
 unfold boundAndCalled
 rw[hb]
 refine Ya (Ye ?_)
 refine wpAny_call ?_
 refine codeAny_call_builtin F.attrBase_ValueError.ga.plain F.entry_bexc_ga (Zqs (s:=⟨hp,gn,dw,tk+1,os⟩) X I Z (Zqr (s:=⟨hp,gn,dw,tk+1,os⟩) X I Z ?_))
 exact handed_on rfl (Ye hQ)
theorem ZuG (Z:ExK K C):KitX K (.ref x) (.ref C) (ZmI x C) where
 ty:=λ_ _ _ I=>I.type
 it:=λ_ _ X _=>by
  obtain⟨cdD,hcD,_⟩:=any_some Z.dk
  unfold clsIn at hcD
  split at hcD
  .rename_i c' d' cd' sl' ho
   intro A' Q' E' s' k q
   unfold isType loadHead;exact Ya (wpAny_loadPart (k _ _ (X _ _ ho)) (Ye q))
  .cases hcD
 ne:=λh tp dd its n sl X htp=>by
  obtain⟨cdD,hcD,_⟩:=any_some Z.dk
  refine Bool.eq_false_iff.mpr λq=>?_
  have e:C=tp:=Value.ref.inj (beq_iff_eq.mp q);subst e
  unfold clsIn at hcD
  split at hcD
  .rename_i c' d' cd' sl' ho
   have z:=(X _ _ ho).symm.trans htp;cases z
  .cases hcD
 ca:=λX I k=>Zqt X I Z k
end
noncomputable def ExcO (e C:Addr):HO:=.ext (ZmI e C)
noncomputable def tyIs (K:Frag) (H:Hp) (x:V) (c:Value) (b:Bool):Prop :=
 (∃t,TyOf K H x t/\kitOne K t c=some b)\/∃e C,x=.ref e/\H e=some (ExcO e C)/\ExK K C/\kitOne K (.ref C) c=some b
noncomputable def cOf:V->Option Value
 |.ref a=>some (.ref a)
 |.ty n=>some (.type n)
 |_=>none
section
variable {X:Cx}
noncomputable def rIsi (K:Frag):List V->Hp->VK->Prop:=λxs H Q=>∃x v c b,xs=[x,v]/\cOf v=some c/\tyIs K H x c b/\Q (.bl b) H
theorem ZrP:Za1 X (.builtin "isinstance") (rIsi X.K):=by
 intro pins s σ H xs us Q I r h
 obtain⟨x,v,c,b,rfl,hc,ht,q⟩:=h
 obtain⟨u,u2,rfl,ru,ru2⟩:=r.two
 have e2:u2=c:=by
  cases v with
  |ref a=>have:=(show u2=Value.ref a from ru2);cases hc;exact this
  |ty n=>have:=(show u2=Value.type n from ru2);cases hc;exact this
  |_=>cases hc
 subst e2
 have fin:∀tk,EP X pins σ Q (.bool b) {s with toks:=tk}:=λtk=>⟨.bl b,H,I.tok tk,rfl,q⟩
 rcases ht with⟨t,ty,e⟩|⟨e,C,rfl,hH,Z,e1⟩
 .exact Zqk I ru ty e fin
 .cases(show u=Value.ref e from ru)
  obtain⟨p,_,_⟩:=(show Zak X.prog X.w H s.heap e (ExcO e C)from I.hok e _ hH)
  exact kia_one (ZuG Z) I.kIn p e1 (λz=>nomatch z) fin
end
end Lake
namespace Lake
open PySem PySem.Spec PyProof.Rows
structure Fly (P:Program) (w:World) (outer:List Env) (H:Hp) (s:Shared) (H':Hp) (B:Heap) (e:Addr) (C a0:Value) (s':Shared):Prop where
 os:s'.os=s.os
 bare:AllBare s'.gens
 fly:Heap.FlyingW B outer e C a0 s'.heap
 hok:HOk P w H' B
 keep:∀b o,s.heap.get? b=some o->H b=none->b∉frs outer->B.get? b=some o
 slot:∀b o,s.heap.get? b=some o->b∈frs outer->(∀vs,o.data≠.fields vs)->∃sl,s'.heap.get? b=some {o with slots:=sl}
 free:∀b o,s.heap.get? b=some o->H b=none->H' b=none
 there:∀b o,s.heap.get? b=some o->b∉frs outer->∃o',B.get? b=some o'
 tups:∀b xs,H b=some (.tup xs)->H' b=some (.tup xs)
 frzs:∀b o u,H b=some (.frz o u)->H' b=some (.frz o u)
 tbls:∀b ps,H b=some (.tbl ps)->∃more,H' b=some (.tbl (ps++more))
noncomputable def CXE (P:Program) (w:World):CXT:=λouter H s E ev s'=>∃e C a0 H' B,ev=.ref e/\Fly P w outer H s H' B e C a0 s'/\E C none H'
theorem ZC {P:Program}{w:World}{X:Cx}:Passes (CXE P w) X E0:=λ_ _ _ _ _ _ _ ⟨_,_,_,_,_,_,_,z⟩=>z.elim
section
variable {P:Program}{w:World}{K:PySem.W.Frag}{mg:Str->Option Value}{base:Heap}{N:List Str}{qual:Str}{scope:Scope}{f:Addr}{cd:Value}{A:Around}{outer:List Env}{s:Shared}{H:Hp}{E:XK}
theorem ZlI {pins:List (Addr×Obj)}{σ:St}{H1:Hp}{s1:Shared}{h':Heap}{e:Addr}{C:Value}{vs:List Value} (I:Inv (ZgB (CXE P w) P w K mg base N qual scope f cd A outer s H E) pins σ H1 s1)
  (hx:Heap.MadeExcOf s1.heap h' e C vs) (hE:E C none H1):(ZgB (CXE P w) P w K mg base N qual scope f cd A outer s H E).xe (.ref e) {s1 with heap:=h'}:=by
 let env:=envOfC qual scope s.heap.objs.size f cd
 let B:=PySem.W.hideAll s1.heap (frs (env::outer))
 have hin:∀en∈(env::outer),∀b,en.frame=some b->b∈frs (env::outer):=λen he b hb=>List.mem_filterMap.mpr ⟨en,he,hb⟩
 have st:s1.heap.FunFrames base (env::outer):=I.stack
 have loc:∀b,b∈frs (env::outer)->b=s.heap.objs.size\/b∈frs outer:=λb hb=>Yk.mp (I.Zfp b hb)
 have old:∀b o,s.heap.get? b=some o->b∉frs outer->b∉frs (env::outer):=λb o q nb hb=>by
  rcases loc b hb with z|z
  .exact absurd (Yl q) (by rw[z];exact YA _)
  .exact nb z
 have un:Un (frs outer) [] H H1 s.heap s1.heap:=I.base
 have hokB:HOk P w H1 B:=λa o q=>by
  have nf:∀b o,H1 b=some o->b∉frs (env::outer):=λb o z hb=>by
   have:=I.Zg4 b hb
   rw[this]at z;cases z
  refine(I.hok a o q).ZiE (λb u hb z=>?_) (λ_ z=>z) (λ_ _ z=>z) λ_ _ _ z=>z
  rcases hb with hb|hb
  .rw[hb]at z⊢;exact PySem.W.hideAll_get _ z (nf a o q)
  .exact PySem.W.hideAll_get _ z (nf b _ hb)
 refine wpAny_leaves_madeW (base:=B) (h:=s1.heap) (env:=env) (outer:=outer) (L:=s.heap.objs.size) I.ok.frames rfl (λb o q=>PySem.W.of_hideAll _ q) (PySem.W.funFrames_hide st hin) hx λh2 t x1 x2 x3 x4=>?_
 refine⟨e,C,.ref t,H1,B,rfl,⟨I.os,I.bare,x1,hokB,λb o q n nb=>?_,λb o q hb hd=>?_,λb o q n=>un.free b o q n (by simp),λb o q nb=>?_,un.tups,un.frzs,un.tbls⟩,hE⟩
 .exact PySem.W.hideAll_get _ (un.keep b o q n nb (by simp)) (old b o q nb)
 .obtain⟨sl,z⟩:=un.slot b o q (I.ok.frf b hb) hb (by simp)
  obtain⟨sl2,z2⟩:=x4 b _ (hx.keeps _ _ z) hd
  exact⟨sl2,z2⟩
 .obtain⟨o',z⟩:=un.there b o q (by simp)
  exact⟨o',PySem.W.hideAll_get _ z (old b o q nb)⟩
theorem ZiS:Passes (CXE P w) (ZgB (CXE P w) P w K mg base N qual scope f cd A outer s H E) E:=by
 intro pins σ H1 s1 ev s2 I h
 obtain⟨e,C,a0,H',B,rfl,F,hE⟩:=h
 let env:=envOfC qual scope s.heap.objs.size f cd
 have un:Un (frs outer) [] H H1 s.heap s1.heap:=I.base
 have loc:∀b,b∈frs (env::outer)->b=s.heap.objs.size\/b∈frs outer:=λb hb=>Yk.mp (I.Zfp b hb)
 have old:∀b o,s.heap.get? b=some o->b∉frs outer->b∉frs (env::outer):=λb o q nb hb=>by
  rcases loc b hb with z|z
  .exact absurd (Yl q) (by rw[z];exact YA _)
  .exact nb z
 refine wpAny_leaves_onW (env:=env) (outer:=outer) (L:=s.heap.objs.size) I.ok.frames rfl F.fly λh2 x1 x2=>?_
 refine⟨e,C,a0,H',B,rfl,⟨F.os.trans I.os,F.bare,x1,F.hok,λb o q n nb=>F.keep b o (un.keep b o q n nb (by simp)) (un.free b o q n (by simp)) (old b o q nb),λb o q hb hd=>?_,λb o q n=>?_,λb o q nb=>?_,λb xs z=>F.tups b xs (un.tups b xs z),λb o u z=>F.frzs b o u (un.frzs b o u z),λb ps z=>?_⟩,hE⟩
 .obtain⟨sl,z⟩:=un.slot b o q (I.ok.frf b hb) hb (by simp)
  obtain⟨en,he,hf⟩:=List.mem_filterMap.mp hb
  obtain⟨sl2,z2⟩:=F.slot b _ z (List.mem_filterMap.mpr ⟨en,.tail _ he,hf⟩) hd
  obtain⟨sl3,z3⟩:=x2 b _ z2 hd
  exact⟨sl3,z3⟩
 .by_cases hb:b∈frs outer
  .have h1:H1 b=none:=un.free b o q n (by simp)
   obtain⟨sl,z⟩:=un.slot b o q n hb (by simp)
   exact F.free b _ z h1
  .exact F.free b o (un.keep b o q n hb (by simp)) (un.free b o q n (by simp))
 .obtain⟨o',z⟩:=un.there b o q (by simp)
  exact F.there b o' z (old b o q nb)
 .obtain⟨m1,z1⟩:=un.tbls b ps z
  obtain⟨m2,z2⟩:=F.tbls b _ z1
  exact⟨m1++m2,by rw[<-Array.append_assoc];exact z2⟩
end
abbrev bmV:List Value:=[.type "ValueError",.type "Exception",.type "BaseException",.type "object"]
abbrev newV:String:="ValueError.__new__"
theorem own_mk {K:PySem.W.Frag}{h:Heap}{mg:Str->Option Value}{x:Str}{C:Addr} (X:K.In h) (hm:mg x=some (.ref C)) (q:PySem.W.excIn K C bmV newV=true):OwnCls x C bmV newV mg h:=by
 refine⟨hm,?_⟩
 unfold PySem.W.excIn at q;split at q
 .rename_i dd cd sl ho
  split at q
  .rename_i C' bm k0 k1 k2 k3 n k5 hmm hs
   simp only[Bool.and_eq_true,beq_iff_eq,Bool.not_eq_true']at q;obtain⟨⟨⟨⟨⟨rfl,rfl⟩,hdel⟩,ht⟩,hok⟩,hni⟩:=q
   obtain⟨nm,bs,mro,ns,qn,hd,sn,sub,ab,col,del⟩:=cd;dsimp only at hmm hdel hok hni;subst hmm hdel
   have hsl:sl=#[k0,k1,k2,k3,some (.builtin newV),k5]:=by obtain⟨l⟩:=sl;simp only at hs;rw[hs]
   subst hsl;exact⟨bm,ns,nm,qn,bs,hd,sn,sub,ab,col,dd,k0,k1,k2,k3,k5,_,X _ _ ho,.of_isNs (PySem.W.isNs_of_in X hok),PySem.W.nsMap_none_of_in X hok hni,PySem.W.tail_of_in X ht⟩
  .cases q
 .cases q
section
variable {X:Cx}
noncomputable def ZnV (C:Addr) (E:XK) (t:TA):TS:=λ_ σ H=>t σ H λvs H1=>vs.length<=sizeLine/\E (.ref C) none H1
theorem Zje {x:Str}{C:Addr}{np cpos pos:Pos}{e0:Expr}{es:List Expr}{t:TA}{E:XK} (hc:X.calm=true) (hg:Gl X x) (hm:X.mg x=some (.ref C)) (q:PySem.W.excIn X.K C bmV newV=true) (ha:PA X (e0::es) t)
  (hx:∀pins σ H s h' e vs,Inv X pins σ H s->Heap.MadeExcOf s.heap h' e (.ref C) vs->E (.ref C) none H->X.xe (.ref e) {s with heap:=h'})
  (he:starEach (e0::es) X.env=(false,eval e0 X.env)::starEach es X.env:=by rfl) (hpl:(backTo cpos (starEach es X.env)).any (·.1)=false:=by rfl) (hd:(x==("__debug__":Str))=false:=by decide) :
  PS X (.Raise (some (.Call (.Name x np) (e0::es) [] cpos)) none pos) (ZnV C E t):=by
 intro pins s σ H D I h
 obtain⟨tl,Nn,nm,qn,bs,hdct,sn,sub,ab,col,dd,k0,k1,k2,k3,k5,mN,hC,hN,hni,T⟩:=(own_mk (x:=x) I.mod.kin hm q).obj
 refine wpAny_Raise_call_subT (C:=C) (nm:=nm) (q:=qn) (N:=Nn) (bs:=bs) (bm:=tl) (hdct:=hdct) (sn:=sn) (sub:=sub) (ab:=ab) (col:=col) (dd:=dd) (k0:=k0) (k1:=k1) (k2:=k2) (k3:=k3) (k5:=k5)
  PySem.F.excBase_ValueError (mN:=mN) (T.hasType PySem.F.excBase_ValueError.hasBase) (I.ok.hd hc) (by rw[he];show(false||(backTo cpos (starEach es X.env)).any (·.1))=false;rw[hpl];rfl) hni (Zlq I hg hm ⟨rfl,?_⟩ hd)
 have h2:=ha cpos pins s σ H _ I h
 rw[he]at h2⊢
 exact Calls.evalArgs_plain (thn h2 λus s2 ⟨vs,H2,I2,r,z,q2⟩=>⟨rfl,by rw[<-r.length];exact z,I2.bk _ _ hC,hN.keeps I2.bk,T.keeps I2.bk,λh' e hm'=>hx pins σ H2 s2 h' e us I2 hm' q2⟩)
end
section
variable {P:Program}{w:World}{K:PySem.W.Frag}{mg:Str->Option Value}{base:Heap}
theorem Fun.okX {x qual:Str}{st:Stmt}{f:Addr}{fd:FuncData}{N ps:List Str}{k:Nat}{sp:Sp} (F:Fun K x qual st f fd) (S:FnScope N ps (defScope st)) (len:∀vs H Q E,sp vs H Q E->vs.length=ps.length)
  (hbody:∀(cdv:Value) (A:Around) (outer:List Env) (s:Shared) (H:Hp) (vs:List V) (Q:VK) (E:XK),Room k (A.deeper (envOfC qual (defScope st) s.heap.objs.size f cdv))->sp vs H Q E ->
   ∃t,PSs (ZgB (CXE P w) P w K mg base N qual (defScope st) f cdv A outer s H E) (defBody st) t/\t {nx:=λ_ H'=>Q .non H',rt:=Q} (start N vs) H):FnOk P w K mg base (CXE P w) (k+1) f fd ps sp:=by
 obtain⟨oc,od,kV,doc,pm,an,cdv,ct,osl,rfl,lk,hcd⟩:=F.ex
 exact ZrI lk hcd S len λA outer s H vs Q E hr hsp=>hbody cdv A outer s H vs Q E hr hsp
end
end Lake
namespace Lake
open PySem PySem.Spec PyProof.Rows PySem.W
theorem ZlJ:∀{ns:List Int}{us:List Value},Vals (ns.map V.int) us->∃xs:Array (Int×Tok),us.toArray=intItems xs/\xs.toList.map (·.1)=ns
 |[],_,.nil=>⟨#[],by simp[intItems],rfl⟩
 |n::ns,_,.cons (b:=u) r t=>by
  obtain⟨tk,rfl⟩:=(show ∃t,u=Value.int n t from r)
  obtain⟨xs,e1,e2⟩:=ZlJ t
  refine⟨#[(n,tk)]++xs,?_,by simp[e2]⟩
  have:∀(l:List Value),(Value.int n tk::l).toArray=#[Value.int n tk]++l.toArray:=λl=>by simp
  rw[this,e1]
  simp[intItems]
section
variable {X:Cx}
theorem Zdf:OpR X (binaryOp .Mult) (rI IntMulOk λi j=>.int (i*j)):=opI λ_ _ _ _ _ _ _ hc q=>mul_int q hc
theorem Zqu (hc:X.calm=true):Za1 X (.builtin "min") (λxs H Q=>∃(p:Addr) (ns:List Int),xs=[.ref p]/\SqL X.K H p (ns.map V.int)/\ns≠[]/\∀m,m∈ns->(∀a∈ns,m<=a)->Q (.int m) H):=by
 intro pins s σ H xs us Q I r h
 obtain⟨p,ns,rfl,hp,hne,q⟩:=h
 obtain⟨u,rfl,ru⟩:=r.one
 cases(show u=Value.ref p from ru)
 obtain⟨its,rv,pl,hz⟩:=I.list hp
 obtain⟨ys,e1,e2⟩:=ZlJ rv
 have hsz:0<ys.size:=by
  have:=congrArg List.length e2
  rw[Yi,Yp]at this
  cases ns with
  |nil=>exact absurd rfl hne
  |cons=>simp at this;omega
 refine min_intList (xs:=ys) (I.ok.hd hc) (e1▸pl.isList) hsz λv h' tk hv k=>?_
 obtain⟨t,rfl⟩:=intItems_at hv
 obtain⟨h1,h2⟩:=argBest_lt (numAt ys) (ys.size-1)
 refine⟨.int _,H,I.kept k,⟨t,rfl⟩,q _ ?_ λa ha=>?_⟩
 .rw[numAt_eq,e2];exact getD_mem (by rw[<-e2,Yi,Yp];omega)
 .obtain⟨j,hj,rfl⟩:=mem_getD ha
  rw[<-e2,Yi,Yp]at hj
  rw[<-e2,<-numAt_eq];exact h2 j ⋯
noncomputable def PJ (X:Cx) (es:List (Sem Value)) (t:St->Hp->(Hp->Prop)->Prop):Prop :=
 ∀(out:Str) (pins:List (Addr×Obj)) (s:Shared) (σ:St) (H:Hp) (Q:Hp->Prop),out.length+2000*es.length<=100000->Inv X pins σ H s->t σ H Q ->
  wpAny (model X.prog X.w) X.A (joinParts out es) (λu s'=>∃y tk H',u=.str y tk/\Inv X pins σ H' s'/\Q H') X.xe s
theorem ZnW:PJ X [] (λ_ H Q=>Q H):=λout pins s σ H Q hl I h =>
 joinParts_nil ⟨out,_,H,rfl,I.tok _,h⟩ (by simp at hl;exact Yr hl nofun)
theorem Zex {x:Str}{j:Nat}{pos:Pos}{es:List (Sem Value)}{t:St->Hp->(Hp->Prop)->Prop} (hx:x.length<=2000) (h:PJ X es t):PJ X (eval (.Constant (.str x) j pos) X.env::es) t:=by
 intro out pins s σ H Q hl I hq
 have hl':(out++x).length+2000*es.length<=100000:=by rw[PySem.strLen_append];simp at hl;omega
 refine joinParts_cons (Calls.Constant_str ⟨Yr (Yr (Nat.le_add_right _ _) hl') nofun,?_⟩)
 exact h _ pins _ σ H Q hl' (I.tok _) hq
theorem Zqv {i:Int} (h0:0<=i) (h1:i<10 ^ 18):i.natAbs.log2<1920:=by
 by_cases hz:i.natAbs=0
 .rw[hz];decide
 .have h3:i.natAbs<2 ^ 60:=by
   have:(2:Nat) ^ 60=1152921504606846976:=by decide
   have h2:(10:Int) ^ 18=1000000000000000000:=by decide
   omega
  exact YD ((Nat.log2_lt hz).mpr h3) nofun
theorem ZlK {e:Expr}{pos:Pos}{es:List (Sem Value)}{te:TE}{t:St->Hp->(Hp->Prop)->Prop} (he:PE X e te) (h:PJ X es t):PJ X (eval (.FormattedValue e (-1) none pos) X.env::es) (fun σ H Q=>te σ H λx H1=>∃i:Int,x=.int i/\(0<=i/\i<10 ^ 18)/\t σ H1 Q):=by
 intro out pins s σ H Q hl I hq
 refine joinParts_cons (FormattedValue_plain (thn (he pins s σ H _ I hq) λu s1 hz=>?_))
 obtain⟨x,H1,I1,r1,i,ex,⟨h0,h1⟩,q⟩:=hz
 subst ex
 obtain⟨tk,rfl⟩:=(show ∃t,u=Value.int i t from r1)
 refine wpAny_formatField_int (Zqv h0 h1) ?_
 have hx:(Str.ofString (toString i)).length<=18:=toString_length_le h0 nofun h1
 have hl':(out++Str.ofString (toString i)).length+2000*es.length<=100000:=by rw[PySem.strLen_append];simp at hl;omega
 refine⟨Yr (Yr (Nat.le_add_right _ _) hl') nofun,?_⟩
 exact h _ pins _ σ H1 Q hl' (I1.tok _) q
theorem ZmJ (env:Env):∀l:List Expr,(evalEach l env).length=l.length
 |[]=>rfl
 |e::r=>by
  have:evalEach (e::r) env=eval e env::evalEach r env:=rfl
  rw[this,YN,YN,ZmJ env r]
theorem ZhO {e1 e2:Expr}{rest:List Expr}{pos:Pos}{t:St->Hp->(Hp->Prop)->Prop} (h:PJ X (eval e1 X.env::eval e2 X.env::evalEach rest X.env) t) (hn:rest.length<=20:=by decide) :
  PE X (.JoinedStr (e1::e2::rest) pos) (fun σ H Q=>t σ H λH1=>∀y,Q (.str y) H1):=by
 intro pins s σ H Q I hq
 have hle:=ZmJ X.env rest
 refine JoinedStr_many (thn (h Str.empty pins s σ H _ (by simp only[YN,hle];show 0+_<=_;omega) I hq) λu s' ⟨y,tk,H',e,I',q⟩=>?_)
 subst e
 exact⟨.str y,H',I',⟨tk,rfl⟩,q y⟩
end
noncomputable def clsAt (mg:Str->Option Value) (x:Str):Addr:=match mg x with
 |some (.ref C)=>C
 |_=>0
noncomputable def tokAt (mg:Str->Option Value) (x:Str):Tok:=match mg x with
 |some (.int _ t)=>t
 |_=>default
noncomputable def Callee (P:Program) (w:World) (K:Frag) (mg:Str->Option Value) (base:Heap) (x:Str) (k:Nat) (ps:List Str) (sp:Sp):Prop :=
 ∃f fd,mg x=some (.ref f)/\keepIn K (.ref f)=true/\Binds K fd ps []/\FnOk P w K mg base (CXE P w) k f fd ps sp
section
variable {X:Cx}
theorem ZbD {st:Stmt}{t:TS} (h:PS X.nox st t):PS X st t:=λpins s σ H D I hw =>
 YJ (h pins s σ H D (I.Zkd _) hw) (λ_ _ q=>q.Zfq) λ_ _ z=>False.elim z
theorem Zi {x:Str}{k:Nat}{ps:List Str}{sp:Sp}{E:XK}{e:Expr}{es:List Expr}{t:TA}{p pos:Pos} (C:Callee X.prog X.w X.K X.mg X.base x k ps sp) (hr:Room k X.A) (hg:Gl X x) (hx:Passes (CXE X.prog X.w) X E)
  (ha:PA X (e::es) t) (hdb:(x==("__debug__":Str))=false:=by decide) (he:starEach (e::es) X.env=(false,eval e X.env)::starEach es X.env:=by rfl) (hpl:(backTo pos (starEach es X.env)).any (·.1)=false:=by rfl) :
  PE X (.Call (.Name x p) (e::es) [] pos) (ZmC sp [] E t):=by
 obtain⟨f,fd,hm,hk,hb,F⟩:=C
 exact Zpo F hr hg hm hk hb .nil hx ha hdb he hpl
theorem ZlL {P:Program}{w:World}{K:Frag}{mg:Str->Option Value}{base:Heap}{N:List Str}{qual:Str}{scope:Scope}{f:Addr}{cd:Value}{A:Around}{outer:List Env}{s0:Shared}{H0:Hp}{E:XK}{C:Addr} :
  ∀pins σ H s h' e vs,Inv (ZgB (CXE P w) P w K mg base N qual scope f cd A outer s0 H0 E) pins σ H s->Heap.MadeExcOf s.heap h' e (.ref C) vs->E (.ref C) none H->(ZgB (CXE P w) P w K mg base N qual scope f cd A outer s0 H0 E).xe (.ref e) {s with heap:=h'} :=
 λ_ _ _ _ _ _ _ I hx hE=>ZlI I hx hE
end
theorem ZnX:bootBuiltins "max"=some (.builtin "max"):=by decide +kernel
theorem ZnY:bootBuiltins "min"=some (.builtin "min"):=by decide +kernel
theorem Zgn:bootBuiltins "isinstance"=some (.builtin "isinstance"):=by decide +kernel
theorem ZiT:bootBuiltins "list"=some (.type "list"):=by decide +kernel
theorem Zg7:bootBuiltins "tuple"=some (.type "tuple"):=by decide +kernel
section
variable {X:Cx}{pins:List (Addr×Obj)}{σ:St}{H:Hp}{s:Shared}{h':Heap}
theorem Inv.ZuH {t':Nat}{fp:List Addr} (I:Inv X pins σ H s) (k:∀b o,b∉fp->s.heap.get? b=some o->h'.get? b=some o) (hf:∀b∈fp,FpOk X pins H b):Inv X pins σ H {s with heap:=h',toks:=t'}:=by
 have nit:∀b u,H b=some u->b∉fp:=λb u e z=>by rw[(hf b z).1]at e;cases e
 refine I.step (g':=s.gens) (d':=s.drawn) (ch:=fp) (λb hb=>?_) (λb o _ _ hc e _=>k b o hc e) (λb o _ _ hc e _=>⟨o.slots,k b o hc e⟩) (λ_ _ _ _ n=>n)
  (λb o hc e=>⟨o,k b o hc e⟩) (λ_ _ e=>e) (λ_ _ _ e=>e) (λb ps e=>⟨#[],by rw[e];simp⟩) (λm hm=>?_) (λb u e=>?_) I.bare
 .obtain⟨_,f1,_,f3,f4,f5⟩:=hf b hb
  exact⟨f3,f1,f4,f5⟩
 .obtain⟨o,es,ep,ho,r⟩:=hm
  exact⟨o,es,ep,k _ o (λz=>(hf _ z).2.1 rfl) ho,r⟩
 .refine(I.hok b u e).ZiE (λc v hc q=>k c v ?_ q) (λ_ q=>q) (λ_ _ q=>q) λ_ _ _ q=>q
  rcases hc with z|z
  .rw[z];exact nit b u e
  .exact nit c _ z
end
theorem cxK {CX:CXT}{P:Program}{w:World}{K:Frag}{mg:Str->Option Value}{base:Heap}{N:List Str}{qual:Str}{scope:Scope}{f:Addr}{cd:Value}{A:Around}{outer:List Env}{s:Shared}{H:Hp}{E:XK} :
  (ZgB CX P w K mg base N qual scope f cd A outer s H E).K=K:=rfl
theorem Zd.upd {H H1:Hp}{p:Addr}{o:HO} (h:H p=none) (e:Zd H H1):Zd H (upd H1 p o):=λb u z=>by
 rw[Zh (Zw z h)];exact e b u z
theorem Zd.Zaj {H H1:Hp}{p:Addr}{o:HO} (e:Zd H H1) (h:H1 p=none):Zd H (Lake.upd H1 p o):=e.upd (e.free h)
noncomputable def LoopR (J:It) (g:TG) (tb:TS) (D:Ends) (σ:St) (H1:Hp):Prop:=∃W:Nat->Nat->St->Hp->Prop,(∃m,W 0 m σ H1)/\∀i m σ H,W i m σ H ->
 (J.stop i H/\D.nx σ H)\/(J.go i H/\∃N:St->Hp->Prop,(∀σ' H',N σ' H'->∃m',m'<m/\W (i+1) m' σ' H')/\∀x H',J.yld i H x H'->g x σ H' fun σ2 H2=>tb {D with nx:=N,ct:=N,bk:=D.nx} σ2 H2)
theorem Zpr {wi:TI}{g:TG}{tb:TS}{D:Ends}{σ:St}{H:Hp}:tFor wi g tb D σ H=wi σ H λJ H1=>LoopR J g tb D σ H1:=rfl
noncomputable def ZnZ (c:TT) (tb:TS) (D:Ends) (σ:St) (H:Hp):Prop:=ZnJ c tb D σ H
theorem ZkP {c:TT}{tb:TS}{D:Ends}{σ:St}{H:Hp}:ZnJ c tb D σ H=ZnZ c tb D σ H:=rfl
noncomputable def Zjf (J:It) (g:TG) (tt:TT) (te:TE) (σ0:St) (Q:VK) (H1:Hp):Prop:=∃W:Nat->Nat->List V->Hp->Prop,(∃m,W 0 m [] H1)/\∀i m acc H,W i m acc H ->
 (J.stop i H/\acc.length<=sizeLine/\∀p,H p=none->Q (.ref p) (upd H p (.lst acc))) \/
 (J.go i H/\acc.length<sizeLine/\∀x H',J.yld i H x H'->g x σ0 H' fun σ2 H2=>tt σ2 H2 λb H3=>if b=true then te σ2 H3 λv H4=>∃m',m'<m/\W (i+1) m' (acc++[v]) H4 else ∃m',m'<m/\W (i+1) m' acc H3)
theorem ZmK {wi:TI}{g:TG}{tt:TT}{te:TE}{js:List (Option Nat)}{σ:St}{H:Hp}{Q:VK}:Zpq wi g tt te js σ H Q=wi σ H λJ H1=>Zjf J g tt te (ZO js σ) Q H1:=rfl
noncomputable def CW (n:Nat) (vals:Nat->V) (H1:Hp) (i m:Nat) (acc:List V) (H:Hp):Prop:=m=n-i/\i<=n/\acc=(List.range i).map vals/\Zd H1 H
theorem CW.next {n:Nat}{vals:Nat->V}{H1 H:Hp}{i:Nat}{v:V} (hi:i<n) (hv:v=vals i) (s:Zd H1 H):∃m',m'<n-i/\CW n vals H1 (i+1) m' ((List.range i).map vals++[v]) H :=
 ⟨n-(i+1),⋯,rfl,hi,by rw[Ja,Jf,hv];rfl,s⟩
theorem comp_map {J:It}{n:Nat}{H1:Hp}{g:TG}{tt:TT}{te:TE}{σ0:St}{Q:VK} (vals:Nat->V) (hn:n<sizeLine) (hgo:∀i H,Zd H1 H->i<n->J.go i H) (hstop:∀H,Zd H1 H->J.stop n H)
  (hb:∀i x H H',i<n->Zd H1 H->J.yld i H x H'->g x σ0 H' fun σ2 H2=>tt σ2 H2 λb H3=>if b=true then te σ2 H3 λv H4=>∃m',m'<n-i/\CW n vals H1 (i+1) m' ((List.range i).map vals++[v]) H4 else ∃m',m'<n-i/\CW n vals H1 (i+1) m' ((List.range i).map vals) H3)
  (hk:∀l H',Zd H1 H'->H' l=none->Q (.ref l) (upd H' l (.lst ((List.range n).map vals)))) :
  Zjf J g tt te σ0 Q H1:=by
 refine⟨CW n vals H1,⟨n,rfl,Yq _,rfl,Zd.refl _⟩,?_⟩
 rintro i m acc H ⟨rfl,hi,rfl,s⟩
 by_cases h:i<n
 .refine .inr ⟨hgo i H s h,by simpa using Nat.lt_trans h hn,λx H' y=>hb i x H H' h s y⟩
 .have e:i=n:= ⋯
  subst e
  exact .inl ⟨hstop H s,by simpa using Y7 hn,λp hp=>hk p H s hp⟩
theorem ZgC {α:Type}{xs:List α}{i:Int}{j:Nat} (h:i=(j:Int)) (hj:j<xs.length):atI xs i=some xs[j]:=by
 subst h
 unfold atI ixN
 rw[Yd ⋯,Yd ⋯]
 simp
theorem ZuI {α:Type}{xs:List α}{i:Int} (C:α->Prop) (h0:0<=i) (h1:i<xs.length) (h:∀x∈xs,C x):∃v,atI xs i=some v/\C v:=by
 obtain⟨j,rfl⟩:=Jg h0
 have hj:j<xs.length:= ⋯
 exact⟨xs[j],ZgC rfl hj,h _ (YF hj)⟩
theorem mul_r {a b:Int} (h1:-(2 ^ 64)<b) (h2:b<2 ^ 64):IntMulOk a b:=IntMulOk.of_right (intBits_le_64 h1 h2)
theorem Zps {a b:Int} (h1:-(2 ^ 64)<a) (h2:a<2 ^ 64):IntMulOk a b:=IntMulOk.of_left (intBits_le_64 h1 h2)
theorem ZlM {a b:Int} (ha:Builtin.Int.intBits a<=2 ^ 20) (hb:Builtin.Int.intBits b<=2 ^ 20):IntMulOk a b:=IntMulOk.of_bits ha hb
theorem cp18:ZnN 10 18:=by unfold ZnN;decide
theorem cp59:ZnN 10 59:=by unfold ZnN;decide
noncomputable def Exc (p:Addr) (H H':Hp):Prop:=∀b o,b≠p->H b=some o->H' b=some o
theorem Zd.exc {H H1 H2:Hp}{p:Addr} (s:Zd H H1) (h:H p=none) (e:Exc p H1 H2):Zd H H2:=λb o z=>e b o (Zw z h) (s b o z)
theorem Zd.Zjg {H H':Hp}{p:Addr} (s:Zd H H'):Exc p H H':=λb o _ z=>s b o z
theorem Exc.upd {H:Hp}{p:Addr}{o:HO}:Exc p H (Lake.upd H p o):=λb u n z=>by rw[Zh n];exact z
theorem Z5 {K:Frag}{H:Hp}{p:Addr}{xs:List V} (h:H p=some (.lst xs)):tyV K "list" (.ref p) H:=.inl ⟨rfl,_,SqL.of h⟩
theorem Zpt {i j:Int}:ZnO (.int i) (.int j)=true:=rfl
theorem Zpu {i j:Bool}:ZnO (.bl i) (.bl j)=true:=rfl
theorem Zpv {i j:Str}:ZnO (.str i) (.str j)=true:=rfl
theorem Zpw:ZnO .non .non=true:=rfl
theorem Zpx {i:Int}:ZnO .non (.int i)=true:=rfl
theorem Zpy {i:Int}:ZnO (.int i) .non=true:=rfl
section
variable {X:Cx}
noncomputable def rLen (K:Frag):List V->Hp->VK->Prop:=λxs H Q=>∃p ys,xs=[.ref p]/\(SqL K H p ys\/SqT K H p ys)/\Q (.int ys.length) H
theorem Zt {K:Frag} (hK:X.K=K):Za1 X (.builtin "len") (rLen K):=by subst hK;exact ZlB
noncomputable def rLof (K:Frag):List V->Hp->VK->Prop:=λxs H Q=>∃p ys,xs=[.ref p]/\(SqL K H p ys\/SqT K H p ys)/\∀l,H l=none->Q (.ref l) (upd H l (.lst ys))
theorem ZgD {K:Frag} (hK:X.K=K):Za1 X (.type "list") (rLof K):=by subst hK;exact ZlC
noncomputable def rTof (K:Frag):List V->Hp->VK->Prop:=λxs H Q=>∃p ys,xs=[.ref p]/\((SqL K H p ys/\∀l,H l=none->Q (.ref l) (upd H l (.tup ys)))\/(SqT K H p ys/\Q (.ref p) H))
theorem ZkQ {K:Frag} (hK:X.K=K):Za1 X (.type "tuple") (rTof K):=by subst hK;exact Zkf
theorem ZkR {K:Frag} (hK:X.K=K):Za1 X (.builtin "isinstance") (rIsi K):=by subst hK;exact ZrP
end
theorem Zpz {a:Addr}{x:Value}:(cOf (.ref a)=some x)=(.ref a=x):=by simp[cOf]
theorem ZrQ {n:String}{x:Value}:(cOf (.ty n)=some x)=(.type n=x):=by simp[cOf]
theorem ZuJ (xs:List V):ZhL xs none (some 1)=xs.take 1:=by
 unfold ZhL HT.sIx
 cases xs<;>simp
noncomputable def Rows (H:Hp) (l:Addr) (rs:List (List Int)):Prop:=∃as:List Addr,H l=some (.lst (as.map V.ref))/\l∉as/\as.length=rs.length/\∀i (h1:i<as.length) (h2:i<rs.length),H as[i]=some (.lst (rs[i].map V.int))
inductive EqD (K:Frag) (H:Hp):Nat->V->V->Bool->Prop
 |flat {n:Nat}{x y:V} (fx:flatV x=true) (fy:flatV y=true):EqD K H n x y (eqV x y)
 |lst {n:Nat}{a b:Addr}{xs ys:List V} (e:Nat->Bool) (hx:SqL K H a xs) (hy:SqL K H b ys) (hl:xs.length=ys.length) (h:∀j x y,xs[j]?=some x->ys[j]?=some y->EqD K H n x y (e j)):EqD K H (n+1) (.ref a) (.ref b) ((List.range xs.length).all e)
 |len {n:Nat}{a b:Addr}{xs ys:List V} (hx:SqL K H a xs) (hy:SqL K H b ys) (hl:xs.length≠ys.length):EqD K H (n+1) (.ref a) (.ref b) false
 |tup {n:Nat}{a b:Addr}{xs ys:List V} (e:Nat->Bool) (hx:SqT K H a xs) (hy:SqT K H b ys) (h:∀j x y,xs[j]?=some x->ys[j]?=some y->EqD K H n x y (e j)):EqD K H (n+1) (.ref a) (.ref b) ((List.range (min xs.length ys.length)).all e&&xs.length==ys.length)
theorem ZrR {x:V} (h:flatV x=true):eqV x x=true:=by
 cases x<;>first
  |rfl
  |(simp[eqV];done)
  |cases h
section
variable {X:Cx}{pins:List (Addr×Obj)}{σ:St}{H:Hp}{s:Shared}
theorem ZmL (I:Inv X pins σ H s) {n:Nat}{x y:V}{b:Bool} (h:EqD X.K H n x y b):x=y->b=true:=by
 induction h with
 |flat fx fy=>rintro rfl;exact ZrR fx
 |lst e hx hy hl h ih =>
  intro z
  cases z
  have:=I.Zg5 hx hy
  subst this
  refine List.all_eq_true.mpr λj hj=>?_
  have hj':=Yy.mp hj
  exact ih j _ _ (Yf hj') (Yf hj') rfl
 |len hx hy hl =>
  intro z
  cases z
  have:=I.Zg5 hx hy
  subst this
  exact absurd rfl hl
 |tup e hx hy h ih =>
  intro z
  cases z
  have:=I.ZhH hx hy
  subst this
  rw[Nat.min_self]
  have:(List.range _).all e=true:=List.all_eq_true.mpr λj hj=>by
   have hj':=Yy.mp hj
   exact ih j _ _ (Yf hj') (Yf hj') rfl
  rw[this];simp
theorem ZhP (I:Inv X pins σ H s) {n:Nat}{x y:V}{b:Bool} (h:EqD X.K H n x y b):∀(A:Around) (u v:Value),A.units+n<cLine->RelV x u->RelV y v->SeqAt.EqAt A s u v b:=by
 induction h with
 |flat fx fy=>intro A u v _ ru rv;exact ZrM ru rv fx fy
 |@lst n a b xs ys e hx hy hl h ih =>
  intro A u v hu ru rv
  have hb:=ZmL I (.lst e hx hy hl h)
  cases ru
  cases rv
  by_cases hab:a=b
  .subst hab
   rw[hb rfl];exact SeqAt.EqAt.same _
  .obtain⟨is1,r1,p1,_⟩:=I.list hx
   obtain⟨is2,r2,p2,_⟩:=I.list hy
   have e1:=r1.length
   have e2:=r2.length
   have key:=SeqAt.RcAt.lists (A:=A) (s:=s) (e:=e) p1.isList p2.isList (by simp;omega) ⋯ λj h1 h2=>by
    have h1':j<xs.length:=by simpa[e1]using h1
    have h2':j<ys.length:=by simpa[e2]using h2
    obtain⟨u,hu1,ru⟩:=r1.get (Yf h1')
    obtain⟨v,hv1,rv⟩:=r2.get (Yf h2')
    have eu:is1.toArray[j]=u:=by simpa using(Yw.mp hu1).2
    have ev:is2.toArray[j]=v:=by simpa using(Yw.mp hv1).2
    rw[eu,ev]
    exact ih j _ _ (Yf h1') (Yf h2') A.in1 u v (by show A.units+1+n<cLine;omega) ru rv
   have e3:is1.toArray.size=xs.length:=by simp[e1]
   rw[e3]at key
   exact SeqAt.EqAt.of_refs hab key
 |@len n a b xs ys hx hy hl =>
  intro A u v hu ru rv
  cases ru
  cases rv
  have hab:a≠b:=λz=>by subst z;exact hl (congrArg List.length (I.Zg5 hx hy))
  obtain⟨is1,r1,p1,_⟩:=I.list hx
  obtain⟨is2,r2,p2,_⟩:=I.list hy
  have e1:=r1.length
  have e2:=r2.length
  exact SeqAt.EqAt.of_refs hab (SeqAt.RcAt.lists_lengths p1.isList p2.isList (by simp;omega) ⋯)
 |@tup n a b xs ys e hx hy h ih =>
  intro A u v hu ru rv
  have hb:=ZmL I (.tup e hx hy h)
  cases ru
  cases rv
  by_cases hab:a=b
  .subst hab
   rw[hb rfl];exact SeqAt.EqAt.same _
  .obtain⟨is1,r1,p1,_⟩:=I.tuple hx
   obtain⟨is2,r2,p2,_⟩:=I.tuple hy
   have e1:=r1.length
   have e2:=r2.length
   have key:=SeqAt.RcAt.tuples (A:=A) (s:=s) (e:=e) p1 p2 ⋯ λj h1 h2=>by
    have h1':j<xs.length:=by simpa[e1]using h1
    have h2':j<ys.length:=by simpa[e2]using h2
    obtain⟨u,hu1,ru⟩:=r1.get (Yf h1')
    obtain⟨v,hv1,rv⟩:=r2.get (Yf h2')
    have eu:is1.toArray[j]=u:=by simpa using(Yw.mp hu1).2
    have ev:is2.toArray[j]=v:=by simpa using(Yw.mp hv1).2
    rw[eu,ev]
    exact ih j _ _ (Yf h1') (Yf h2') A.in1 u v (by show A.units+1+n<cLine;omega) ru rv
   have e3:is1.toArray.size=xs.length:=by simp[e1]
   have e4:is2.toArray.size=ys.length:=by simp[e2]
   rw[e3,e4]at key
   exact SeqAt.EqAt.of_refs hab key
end
noncomputable def rEqD (K:Frag) (neg:Bool):R2:=λx y H Q=>∃a b k,x=.ref a/\y=.ref b/\EqD K H 3 x y k/\Q (.bl (if neg then !k else k)) H
section
variable {X:Cx}
theorem Zfu {K:Frag} (hK:X.K=K) {k:Nat} (hr:Room k X.A):OpR X (compareOp .Eq) (rEqD K false):=by
 subst hK
 have hu0:=hr.un
 intro pins s σ H x y v u Q I rx ry h
 obtain⟨a,b,k,rfl,rfl,h,q⟩:=h
 cases rx
 cases ry
 cases h with
 |flat fx fy=>cases fx
 |@lst n _ _ xs ys e hx hy hl h =>
  obtain⟨is1,r1,p1,_⟩:=I.list hx
  obtain⟨is2,r2,p2,_⟩:=I.list hy
  have e1:=r1.length
  have e2:=r2.length
  have e3:is1.toArray.size=xs.length:=by simp[e1]
  refine SeqAt.eq_listAt (e:=e) p1.isList p2.isList (by simp;omega) ⋯ (λj h1 h2=>?_) ⟨.bl _,H,I,rfl,by rw[e3];exact q⟩
  have h1':j<xs.length:=by simpa[e1]using h1
  have h2':j<ys.length:=by simpa[e2]using h2
  obtain⟨u,hu1,ru⟩:=r1.get (Yf h1')
  obtain⟨v,hv1,rv⟩:=r2.get (Yf h2')
  have eu:is1.toArray[j]=u:=by simpa using(Yw.mp hu1).2
  have ev:is2.toArray[j]=v:=by simpa using(Yw.mp hv1).2
  rw[eu,ev]
  exact ZhP I (h j _ _ (Yf h1') (Yf h2')) X.A.in1 u v (by show X.A.units+1+2<cLine;omega) ru rv
 |@len n _ _ xs ys hx hy hl =>
  obtain⟨is1,r1,p1,_⟩:=I.list hx
  obtain⟨is2,r2,p2,_⟩:=I.list hy
  have e1:=r1.length
  have e2:=r2.length
  exact SeqAt.eq_list_lengthsAt p1.isList p2.isList (by simp;omega) ⋯ ⟨.bl _,H,I,rfl,q⟩
 |@tup n _ _ xs ys e hx hy h =>
  obtain⟨is1,r1,p1,_⟩:=I.tuple hx
  obtain⟨is2,r2,p2,_⟩:=I.tuple hy
  have e1:=r1.length
  have e2:=r2.length
  have e3:is1.toArray.size=xs.length:=by simp[e1]
  have e4:is2.toArray.size=ys.length:=by simp[e2]
  refine SeqAt.eq_tupleAt (e:=e) p1 p2 ⋯ (λj h1 h2=>?_) ⟨.bl _,H,I,rfl,by rw[e3,e4];exact q⟩
  have h1':j<xs.length:=by simpa[e1]using h1
  have h2':j<ys.length:=by simpa[e2]using h2
  obtain⟨u,hu1,ru⟩:=r1.get (Yf h1')
  obtain⟨v,hv1,rv⟩:=r2.get (Yf h2')
  have eu:is1.toArray[j]=u:=by simpa using(Yw.mp hu1).2
  have ev:is2.toArray[j]=v:=by simpa using(Yw.mp hv1).2
  rw[eu,ev]
  exact ZhP I (h j _ _ (Yf h1') (Yf h2')) X.A.in1 u v (by show X.A.units+1+2<cLine;omega) ru rv
theorem Zn0 {K:Frag} (hK:X.K=K) {k:Nat} (hr:Room k X.A):OpR X (compareOp .NotEq) (rEqD K true):=by
 subst hK
 have hu0:=hr.un
 intro pins s σ H x y v u Q I rx ry h
 obtain⟨a,b,k,rfl,rfl,h,q⟩:=h
 cases rx
 cases ry
 cases h with
 |flat fx fy=>cases fx
 |@lst n _ _ xs ys e hx hy hl h =>
  obtain⟨is1,r1,p1,_⟩:=I.list hx
  obtain⟨is2,r2,p2,_⟩:=I.list hy
  have e1:=r1.length
  have e2:=r2.length
  have e3:is1.toArray.size=xs.length:=by simp[e1]
  refine SeqAt.RcNeAt.lists (e:=e) p1.isList p2.isList (by simp;omega) ⋯ (λj h1 h2=>?_) _ _ _ _ ⟨.bl _,H,I,rfl,by rw[e3];exact q⟩
  have h1':j<xs.length:=by simpa[e1]using h1
  have h2':j<ys.length:=by simpa[e2]using h2
  obtain⟨u,hu1,ru⟩:=r1.get (Yf h1')
  obtain⟨v,hv1,rv⟩:=r2.get (Yf h2')
  have eu:is1.toArray[j]=u:=by simpa using(Yw.mp hu1).2
  have ev:is2.toArray[j]=v:=by simpa using(Yw.mp hv1).2
  rw[eu,ev]
  exact ZhP I (h j _ _ (Yf h1') (Yf h2')) X.A.in1 u v (by show X.A.units+1+2<cLine;omega) ru rv
 |@len n _ _ xs ys hx hy hl =>
  obtain⟨is1,r1,p1,_⟩:=I.list hx
  obtain⟨is2,r2,p2,_⟩:=I.list hy
  have e1:=r1.length
  have e2:=r2.length
  exact SeqAt.RcNeAt.lists_lengths p1.isList p2.isList (by simp;omega) ⋯ _ _ _ _ ⟨.bl _,H,I,rfl,q⟩
 |@tup n _ _ xs ys e hx hy h =>
  obtain⟨is1,r1,p1,_⟩:=I.tuple hx
  obtain⟨is2,r2,p2,_⟩:=I.tuple hy
  have e1:=r1.length
  have e2:=r2.length
  have e3:is1.toArray.size=xs.length:=by simp[e1]
  have e4:is2.toArray.size=ys.length:=by simp[e2]
  refine SeqAt.RcNeAt.tuples (e:=e) p1 p2 ⋯ (λj h1 h2=>?_) _ _ _ _ ⟨.bl _,H,I,rfl,by rw[e3,e4];exact q⟩
  have h1':j<xs.length:=by simpa[e1]using h1
  have h2':j<ys.length:=by simpa[e2]using h2
  obtain⟨u,hu1,ru⟩:=r1.get (Yf h1')
  obtain⟨v,hv1,rv⟩:=r2.get (Yf h2')
  have eu:is1.toArray[j]=u:=by simpa using(Yw.mp hu1).2
  have ev:is2.toArray[j]=v:=by simpa using(Yw.mp hv1).2
  rw[eu,ev]
  exact ZhP I (h j _ _ (Yf h1') (Yf h2')) X.A.in1 u v (by show X.A.units+1+2<cLine;omega) ru rv
end
noncomputable def IsI (v:V) (i:Int):Prop:=v=.int i
noncomputable def IsL (K:Frag) (H:Hp) {α:Type} (P:V->α->Prop) (v:V) (as:List α):Prop:=∃a xs,v=.ref a/\SqL K H a xs/\xs.length=as.length/\∀(j:Nat) (x:V) (y:α),xs[j]?=some x->as[j]?=some y->P x y
noncomputable def IsT (K:Frag) (H:Hp) {α:Type} (P:V->α->Prop) (v:V) (as:List α):Prop:=∃a xs,v=.ref a/\SqT K H a xs/\xs.length=as.length/\∀(j:Nat) (x:V) (y:α),xs[j]?=some x->as[j]?=some y->P x y
noncomputable def EqP (K:Frag) (H:Hp) (n:Nat) {α:Type} [DecidableEq α] (P:V->α->Prop):Prop:=∀x y a b,P x a->P y b->EqD K H n x y (decide (a=b))
theorem Zcp {K:Frag}{H:Hp}{n:Nat}:EqP K H n IsI:=by
 rintro x y a b rfl rfl
 have:=EqD.flat (K:=K) (H:=H) (n:=n) (x:=.int a) (y:=.int b) rfl rfl
 have e:eqV (.int a) (.int b)=decide (a=b):=by simp[eqV,Bool.beq_eq_decide_eq]
 rw[<-e];exact this
theorem all_eq {α:Type} [DecidableEq α] (as bs:List α) (h:as.length=bs.length):(List.range as.length).all (λj=>decide (as[j]?=bs[j]?))=decide (as=bs):=by
 rw[Bool.eq_iff_iff,List.all_eq_true,decide_eq_true_iff]
 constructor
 .intro q
  refine List.ext_getElem? λj=>?_
  by_cases hj:j<as.length
  .simpa using q j (Yy.mpr hj)
  .rw[List.getElem?_eq_none ⋯,List.getElem?_eq_none ⋯]
 .rintro rfl j _;simp
theorem Zga {K:Frag}{H:Hp}{n:Nat}{α:Type} [DecidableEq α] {P:V->α->Prop} (h:EqP K H n P):EqP K H (n+1) (IsL K H P):=by
 rintro x y as bs ⟨a,xs,rfl,hx,lx,px⟩ ⟨b,ys,rfl,hy,ly,py⟩
 by_cases hl:as.length=bs.length
 .rw[<-all_eq as bs hl,<-lx]
  refine .lst _ hx hy ⋯ λj x y h1 h2=>?_
  have j1:=(Yw.mp h1).1
  have j2:=(Yw.mp h2).1
  have ha:as[j]?=some as[j]:=Yf ⋯
  have hb:bs[j]?=some bs[j]:=Yf ⋯
  have:=h x y _ _ (px j _ _ h1 ha) (py j _ _ h2 hb)
  rw[ha,hb]
  simpa using this
 .have e:decide (as=bs)=false:=by simp;intro z;exact hl (congrArg List.length z)
  rw[e]
  exact .len hx hy ⋯
theorem Zgb {K:Frag}{H:Hp}{n:Nat}{α:Type} [DecidableEq α] {P:V->α->Prop} (h:EqP K H n P):EqP K H (n+1) (IsT K H P):=by
 rintro x y as bs ⟨a,xs,rfl,hx,lx,px⟩ ⟨b,ys,rfl,hy,ly,py⟩
 have key:=EqD.tup (K:=K) (H:=H) (n:=n) (λj=>decide (as[j]?=bs[j]?)) hx hy λj x y h1 h2=>by
  have j1:=(Yw.mp h1).1
  have j2:=(Yw.mp h2).1
  have ha:as[j]?=some as[j]:=Yf ⋯
  have hb:bs[j]?=some bs[j]:=Yf ⋯
  have:=h x y _ _ (px j _ _ h1 ha) (py j _ _ h2 hb)
  rw[ha,hb]
  simpa using this
 have e:((List.range (min xs.length ys.length)).all (λj=>decide (as[j]?=bs[j]?))&&xs.length==ys.length)=decide (as=bs):=by
  rw[lx,ly]
  by_cases hl:as.length=bs.length
  .rw[<-hl,Nat.min_self,all_eq as bs hl];simp
  .have e:decide (as=bs)=false:=by simp;intro z;exact hl (congrArg List.length z)
   rw[e]
   simp[hl]
 rw[e]at key
 exact key
theorem Zei {K:Frag}{H:Hp}{a:Addr}{ns:List Int} (h:SqL K H a (ns.map V.int)):IsL K H IsI (.ref a) ns:=⟨a,_,rfl,h,by simp,λj x y h1 h2=>by
 rw[YE,h2]at h1
 exact(YM h1).symm⟩
theorem ZcN {K:Frag}{H:Hp}{a:Addr}{ns:List Int} (h:SqT K H a (ns.map V.int)):IsT K H IsI (.ref a) ns:=⟨a,_,rfl,h,by simp,λj x y h1 h2=>by
 rw[YE,h2]at h1
 exact(YM h1).symm⟩
section
variable {X:Cx}
noncomputable def ZrS (ta:TA):TE:=fun σ H Q=>ta σ H λvs H1=>∃j:Int,vs=[.int j]/\-(2 ^ 62)<=j/\j<2 ^ 62/\∀p,H1 p=none->Q (.ref p) (upd H1 p (.rng 0 j))
theorem ZkS {a:Expr}{ta:TA}{p pos:Pos} (hg:Gl X "range") (hm:X.mg "range"=none) (ha:PA X [a] ta) (hs:starEach [a] X.env=[(false,eval a X.env)]:=by rfl):PE X (.Call (.Name "range" p) [a] [] pos) (ZrS ta):=by
 intro pins s σ H Q I h
 refine wpAny_Call_Name_kw (Zcb I hg hm boot_range (PyProof.Rows.callWith_type1 (thn (ha pos pins s σ H _ I h) λus s1 ⟨vs,H1,I1,r1,q1⟩=>?_) hs rfl))
 obtain⟨j,e,q1,q2,q⟩:=q1
 subst e
 obtain⟨u,rfl,ru⟩:=r1.one
 obtain⟨t,rfl⟩:=ru
 refine call_range_1 ⟨.ref s1.heap.objs.size,_,I1.laid (λb o e=>Ym _ e) (Yc _) ?_,rfl,q _ (I1.hok.fresh (Yc _))⟩
 exact⟨_,_,_,YC _ rfl⟩
theorem ZuK {g:Nat->V}{P:Nat->Value->Prop} (hP:∀i v,P i v->RelV (g i) v):∀(n:Nat) (us:List Value),us.length=n->(∀(j:Nat) (v:Value),us[j]?=some v->P j v)->Vals ((List.range n).map g) us:=by
 intro n
 induction n with
 |zero =>
  intro us hl _
  cases us with
  |nil=>exact .nil
  |cons _ _=>cases hl
 |succ n ih =>
  intro us hl h
  have hne:us≠[]:=λz=>by rw[z]at hl;cases hl
  rw[Ja,Jf,<-List.dropLast_concat_getLast hne]
  have hl2:us.dropLast.length=n:=by rw[List.length_dropLast,hl];rfl
  refine(ih us.dropLast hl2 λj v hj=>?_).append (.cons ?_ .nil)
  .have hj2:=(Yw.mp hj).1
   refine h j v ?_
   rw[List.getElem?_dropLast]at hj
   split at hj
   .exact hj
   .cases hj
  .refine hP n _ (h n _ ?_)
   rw[List.getLast_eq_getElem]
   rw[Yw]
   refine⟨⋯,?_⟩
   congr 1
   omega
noncomputable def rAll (K:Frag):List V->Hp->VK->Prop:=λxs H Q=>∃(p:Addr) (bs:List Bool),xs=[.ref p]/\SqL K H p (bs.map V.bl)/\Q (.bl (bs.all id)) H
noncomputable def rAny (K:Frag):List V->Hp->VK->Prop:=λxs H Q=>∃(p:Addr) (bs:List Bool),xs=[.ref p]/\SqL K H p (bs.map V.bl)/\Q (.bl (bs.any id)) H
theorem all_ix (bs:List Bool):(List.range bs.length).all (λi=>bs.getD i false)=bs.all id:=by
 rw[Bool.eq_iff_iff,List.all_eq_true,List.all_eq_true]
 constructor
 .intro h x hx
  obtain⟨j,hj,rfl⟩:=YZ hx
  have:=h j (Yy.mpr hj)
  simpa[Yh,hj]using this
 .intro h j hj
  have hj':=Yy.mp hj
  have:=h _ (YF hj')
  simpa[Yh,hj']using this
theorem any_ix (bs:List Bool):(List.range bs.length).any (λi=>bs.getD i false)=bs.any id:=by
 rw[Bool.eq_iff_iff,List.any_eq_true,List.any_eq_true]
 constructor
 .rintro⟨j,hj,e⟩
  have hj':=Yy.mp hj
  exact⟨_,YF hj',by simpa[Yh,hj']using e⟩
 .rintro⟨x,hx,e⟩
  obtain⟨j,hj,rfl⟩:=YZ hx
  exact⟨j,Yy.mpr hj,by simpa[Yh,hj]using e⟩
theorem Zig {prog:Program}{w:World}{A:Around}{bs:List Bool}{its:List Value} (r:Vals (bs.map V.bl) its):TruthOf prog w A (λi v=>its.toArray[i]?=some v) (λi=>bs.getD i false):=by
 intro i v s Q E hv hq
 have hv':its[i]?=some v:=by simpa using hv
 have hl:=r.length
 have hi:i<bs.length:=by
  have:=(Yw.mp hv').1
  rw[Yi]at hl;omega
 obtain⟨u,hu,ru⟩:=r.get (i:=i) (x:=V.bl bs[i]) (by rw[YE,Yf hi];rfl)
 rw[hv']at hu
 cases hu
 cases ru
 refine wpAny_truthy_bool ?_
 simpa[Yh,hi]using hq
theorem ZrT {K:Frag} (hK:X.K=K) (hc:X.calm=true):Za1 X (.builtin "all") (rAll K):=by
 subst hK
 intro pins s σ H xs us Q I r h
 obtain⟨p,bs,rfl,hp,q⟩:=h
 obtain⟨u,rfl,ru⟩:=r.one
 cases(show u=Value.ref p from ru)
 obtain⟨its,r',pl,hz⟩:=I.list hp
 have hl:=r'.length
 refine call_all_walk (wpAny_pyIter_list pl.isList ?_)
 have hne:p≠s.heap.objs.size:=by obtain⟨o,e,_⟩:=pl.isList;exact Yo (Yl e)
 refine⟨s.heap.objs.size,_,_,_,_,_,λi=>bs.getD i false,rfl,Walks.list (A:=X.A.in1) (show X.A.in1.handled=none from I.ok.hd hc) _ p hne its.toArray,⟨⟨_,YC _ rfl,rfl,rfl⟩,pl.isList.push _⟩,Zig r',λh' tk kp=>?_⟩
 have e1:its.toArray.size=bs.length:=by rw[Ys];rw[Yi]at hl;omega
 rw[e1,all_ix]
 exact⟨.bl _,H,I.kept (t':=tk) λb o e=>kp b o (by simp;exact Yo (Yl e)) (Ym _ e),rfl,q⟩
theorem ZrU {K:Frag} (hK:X.K=K) (hc:X.calm=true):Za1 X (.builtin "any") (rAny K):=by
 subst hK
 intro pins s σ H xs us Q I r h
 obtain⟨p,bs,rfl,hp,q⟩:=h
 obtain⟨u,rfl,ru⟩:=r.one
 cases(show u=Value.ref p from ru)
 obtain⟨its,r',pl,hz⟩:=I.list hp
 have hl:=r'.length
 refine call_any_walk (wpAny_pyIter_list pl.isList ?_)
 have hne:p≠s.heap.objs.size:=by obtain⟨o,e,_⟩:=pl.isList;exact Yo (Yl e)
 refine⟨s.heap.objs.size,_,_,_,_,_,λi=>bs.getD i false,rfl,Walks.list (A:=X.A.in1) (show X.A.in1.handled=none from I.ok.hd hc) _ p hne its.toArray,⟨⟨_,YC _ rfl,rfl,rfl⟩,pl.isList.push _⟩,Zig r',λh' tk kp=>?_⟩
 have e1:its.toArray.size=bs.length:=by rw[Ys];rw[Yi]at hl;omega
 rw[e1,any_ix]
 exact⟨.bl _,H,I.kept (t':=tk) λb o e=>kp b o (by simp;exact Yo (Yl e)) (Ym _ e),rfl,q⟩
noncomputable def rIxQ (K:Frag):R2:=λx y H Q=>∃p xs i v,x=.ref p/\y=.int i/\(SqL K H p xs\/SqT K H p xs)/\atI xs i=some v/\Q v H
theorem Zg8 {K:Frag} (hK:X.K=K):IxR X (rIxQ K):=by
 subst hK
 intro value slice pins s σ H x y v u Q I rx ry h hs
 refine(Zr.or ZF) (value:=value) (slice:=slice) pins s σ H x y v u Q I rx ry ?_ hs
 obtain⟨p,xs,i,v,rfl,rfl,hq,ha,q⟩:=h
 rcases hq with hq|hq
 .exact .inl ⟨p,xs,i,v,rfl,rfl,hq,ha,q⟩
 .exact .inr ⟨p,xs,i,v,rfl,rfl,hq,ha,q⟩
theorem bt_all:bootBuiltins "all"=some (.builtin "all"):=by decide +kernel
theorem bt_any:bootBuiltins "any"=some (.builtin "any"):=by decide +kernel
end
noncomputable def ZL (f:Nat->Int) (a b p:Nat):Prop:=a<=p/\p<=b/\(∀q,a<=q->q<p->f p<f q)/\∀q,p<q->q<=b->f p<=f q
theorem ZL.unique {f:Nat->Int}{a b p q:Nat} (h:ZL f a b p) (k:ZL f a b q):p=q:=by
 obtain⟨h1,h2,h3,h4⟩:=h
 obtain⟨k1,k2,k3,k4⟩:=k
 rcases Nat.lt_trichotomy p q with z|z|z
 .have:=k3 p h1 z
  have:=h4 q z k2
  omega
 .exact z
 .have:=h3 q k1 z
  have:=k4 p z h2
  omega
theorem ZL.join {f:Nat->Int}{a m a' b p q:Nat} (h:ZL f a m p) (k:ZL f a' b q) (h1:a<=a') (h2:a'<=m+1) (h3:m<=b):ZL f a b (if f q<f p then q else p):=by
 obtain⟨p1,p2,p3,p4⟩:=h
 obtain⟨q1,q2,q3,q4⟩:=k
 have pm:∀r,a<=r->r<=m->f p<=f r:=λr r1 r2=>by
  rcases Nat.lt_trichotomy r p with z|z|z
  .exact Int.le_of_lt (p3 r r1 z)
  .rw[z];exact Int.le_refl _
  .exact p4 r z r2
 have qm:∀r,a'<=r->r<=b->f q<=f r:=λr r1 r2=>by
  rcases Nat.lt_trichotomy r q with z|z|z
  .exact Int.le_of_lt (q3 r r1 z)
  .rw[z];exact Int.le_refl _
  .exact q4 r z r2
 split
 .rename_i hlt
  refine⟨⋯,q2,λr r1 r2=>?_,λr r1 r2=>qm r ⋯ r2⟩
  by_cases z:a'<=r
  .exact q3 r z r2
  .have:=pm r r1 ⋯;omega
 .rename_i hle
  refine⟨p1,⋯,p3,λr r1 r2=>?_⟩
  by_cases z:r<=m
  .exact p4 r r1 z
  .have:=qm r ⋯ r2;omega
noncomputable def ZhQ (f:Nat->Int) (a:Nat):Nat->Nat
 |0=>a
 |c+1=>if f (a+c+1)<f (ZhQ f a c)then a+c+1 else ZhQ f a c
theorem ZkT (f:Nat->Int) (a:Nat):ZL f a a a:=⟨Yc _,Yc _,λq h1 h2=>⋯,λq h1 h2=>⋯⟩
theorem Za2 (f:Nat->Int) (a c:Nat):ZL f a (a+c) (ZhQ f a c):=by
 induction c with
 |zero=>exact ZkT f a
 |succ c ih =>
  rw[ZhQ]
  exact ih.join (ZkT f (a+c+1)) ⋯ ⋯ ⋯
noncomputable def nth (ns:List Int) (i:Nat):Int:=ns.getD i 0
theorem Z7 {ns:List Int}{i:Nat} (h:i<ns.length):atI (ns.map V.int) (i:Int)=some (V.int (nth ns i)):=by
 rw[ZgC rfl (by simpa using h)]
 simp[nth,Yh,h]
theorem ZpA (f:Nat->Int) (a c:Nat):a<=ZhQ f a c/\ZhQ f a c<=a+c:=⟨(Za2 f a c).1,(Za2 f a c).2.1⟩
noncomputable def WI (N:Nat) (Pv:Nat->St->Hp->Prop) (m:Nat) (σ:St) (H:Hp):Prop:=∃i,m=N-i/\i<=N/\Pv i σ H
theorem WI.next {N:Nat}{Pv:Nat->St->Hp->Prop}{i:Nat}:∀σ' H',(i+1<=N/\Pv (i+1) σ' H')->∃m',m'<N-i/\WI N Pv m' σ' H':=fun σ' H' h=>⟨N-(i+1),⋯,i+1,rfl,h.1,h.2⟩
theorem ZpB {c:TT}{tb:TS}{D:Ends}{σ:St}{H:Hp} (N:Nat) (Pv:Nat->St->Hp->Prop) (h0:Pv 0 σ H)
  (hs:∀i σ H,i<=N->Pv i σ H->c σ H λb H1=>if b=true then ∃Nx:St->Hp->Prop,(∀σ' H',Nx σ' H'->∃m',m'<N-i/\WI N Pv m' σ' H')/\tb {D with nx:=Nx,ct:=Nx,bk:=D.nx} σ H1 else D.nx σ H1):ZnZ c tb D σ H:=by
 refine⟨WI N Pv,⟨N,0,rfl,Yq _,h0⟩,?_⟩
 rintro m σ H ⟨i,rfl,hi,p⟩
 exact hs i σ H hi p
theorem Zd.ZhR {K:Frag}{H H':Hp}{a:Addr}{xs:List V} (e:Zd H H') (h:SqT K H a xs):SqT K H' a xs:=by
 rcases h with(h|⟨o,h⟩)|h
 .exact .inl (.inl (e _ _ h))
 .exact .inl (.inr ⟨o,e _ _ h⟩)
 .exact .inr h
theorem Zd.q {K:Frag}{H H':Hp}{a:Addr}{xs:List V} (e:Zd H H') (h:SqL K H a xs\/SqT K H a xs):SqL K H' a xs\/SqT K H' a xs:=h.imp e.seq e.ZhR
theorem Exc.trans {p:Addr}{H H1 H2:Hp} (a:Exc p H H1) (b:Exc p H1 H2):Exc p H H2:=λc o n z=>b c o n (a c o n z)
theorem Exc.free {p q:Addr}{H H':Hp} (e:Exc p H H') (n:q≠p) (h:H' q=none):H q=none:=by
 cases z:H q with
 |none=>rfl
 |some o=>rw[e q o n z]at h;cases h
theorem Exc.updN {p q:Addr}{H H':Hp}{o:HO} (e:Exc p H H') (h:H q=none):Exc p H (Lake.upd H' q o):=λb u n z=>by
 rw[Zh (Zw z h)];exact e b u n z
theorem Exc.same {p:Addr}{H H1 H2:Hp} (a:Exc p H H1) (s:Zd H1 H2):Exc p H H2:=a.trans s.Zjg
noncomputable def CA (n:Nat) (Pv:Nat->List V->Hp->Prop) (i m:Nat) (acc:List V) (H:Hp):Prop:=m=n-i/\i<=n/\acc.length<=i/\Pv i acc H
theorem CA.take {n:Nat}{Pv:Nat->List V->Hp->Prop}{i:Nat}{acc:List V}{v:V}{H:Hp} (hi:i<n) (hl:acc.length<=i) (h:Pv (i+1) (acc++[v]) H):∃m',m'<n-i/\CA n Pv (i+1) m' (acc++[v]) H:=⟨n-(i+1),⋯,rfl,hi,by simp;omega,h⟩
theorem CA.skip {n:Nat}{Pv:Nat->List V->Hp->Prop}{i:Nat}{acc:List V}{H:Hp} (hi:i<n) (hl:acc.length<=i) (h:Pv (i+1) acc H):∃m',m'<n-i/\CA n Pv (i+1) m' acc H:=⟨n-(i+1),⋯,rfl,hi,⋯,h⟩
theorem ZaL {J:It}{n:Nat}{H1:Hp}{g:TG}{tt:TT}{te:TE}{σ0:St}{Q:VK} (Pv:Nat->List V->Hp->Prop) (hn:n<sizeLine) (h0:Pv 0 [] H1) (hgo:∀i acc H,Pv i acc H->i<n->J.go i H) (hstop:∀acc H,Pv n acc H->J.stop n H)
  (hb:∀i x acc H H',i<n->acc.length<=i->Pv i acc H->J.yld i H x H'->g x σ0 H' fun σ2 H2=>tt σ2 H2 λb H3=>if b=true then te σ2 H3 λv H4=>∃m',m'<n-i/\CA n Pv (i+1) m' (acc++[v]) H4 else ∃m',m'<n-i/\CA n Pv (i+1) m' acc H3)
  (hk:∀l acc H',Pv n acc H'->acc.length<=n->H' l=none->Q (.ref l) (upd H' l (.lst acc))):Zjf J g tt te σ0 Q H1:=by
 refine⟨CA n Pv,⟨n,rfl,Yq _,Yc _,h0⟩,?_⟩
 rintro i m acc H ⟨rfl,hi,hl,p⟩
 by_cases h:i<n
 .exact .inr ⟨hgo i acc H p h,⋯,λx H' y=>hb i x acc H H' h hl p y⟩
 .have e:i=n:= ⋯
  subst e
  exact .inl ⟨hstop acc H p,⋯,λq hq=>hk q acc H p hl hq⟩
section
variable {X:Cx}
noncomputable def ZlN:V->List V->Hp->VK->Prop:=λx vs H Q=>∃l xs i y,x=.ref l/\vs=[.int i,y]/\H l=some (.lst xs)/\0<=i/\i<2 ^ 62/\xs.length<sizeLine/\Q .non (upd H l (.lst (xs.take i.toNat++y::xs.drop i.toNat)))
theorem Vals.ZrV:∀{xs:List V}{us:List Value} (k:Nat),Vals xs us->Vals (xs.take k) (us.take k)
 |_,_,0,_=>by simp;exact .nil
 |_,_,_+1,.nil=>.nil
 |_,_,k+1,.cons r h=>.cons r (Vals.ZrV k h)
theorem Vals.dropN:∀{xs:List V}{us:List Value} (k:Nat),Vals xs us->Vals (xs.drop k) (us.drop k)
 |_,_,0,h=>by simpa using h
 |_,_,_+1,.nil=>.nil
 |_,_,k+1,.cons _ h=>Vals.dropN k h
theorem Zqw:MtM X "list.insert" ZlN:=by
 intro pins s σ H x vs v us Q I rx rv h
 obtain⟨l,xs,i,y,rfl,rfl,hH,h1,h2,hz,q⟩:=h
 cases rx
 obtain⟨u,u2,rfl,ru,ru2⟩:=rv.two
 obtain⟨t,rfl⟩:=ru
 obtain⟨z,its,n,r,hl,e⟩:=I.ZmF hH
 have hf:¬ (!Builtin.List.listFitsIndex i)=true:=by
  unfold Builtin.List.listFitsIndex
  have a1:decide (-(2 ^ 63:Int)<=i)=true:=Yt ⋯
  have a2:decide (i<(2 ^ 63:Int))=true:=Yt ⋯
  rw[a1,a2];decide
 refine call_meets F.slot_list_insert ⟨_,e,rfl⟩ F.entry_list_insert (F.args_list_insert_3 _ _ _) (AutoListH.list_insert_list_int_val_1 l its.toArray n i t u2 hf (by rw[Ys];omega)) ⟨e,?_⟩
 refine⟨.non,_,I.lset (its':=its.take i.toNat++u2::its.drop i.toNat) (ys:=xs.take i.toNat++y::xs.drop i.toNat) hH e ?_ ((r.ZrV _).append (.cons ru2 (r.dropN _))) ?_,rfl,q⟩
 .show((its.toArray.extract 0 (if i<0 then (i+((its.toArray.size:Nat):Int)).toNat else min i.toNat its.toArray.size)).push u2++its.toArray.extract (if i<0 then (i+((its.toArray.size:Nat):Int)).toNat else min i.toNat its.toArray.size))=_
  rw[Yb ⋯]
  have e1:its.take (min i.toNat its.length)=its.take i.toNat:=by
   by_cases hh:i.toNat<=its.length
   .rw[Nat.min_eq_left hh]
   .rw[Nat.min_eq_right ⋯,List.take_of_length_le ⋯,List.take_of_length_le ⋯]
  have e2:its.drop (min i.toNat its.length)=its.drop i.toNat:=by
   by_cases hh:i.toNat<=its.length
   .rw[Nat.min_eq_left hh]
   .rw[Nat.min_eq_right ⋯,List.drop_of_length_le ⋯,List.drop_of_length_le ⋯]
  apply Array.ext'
  simp[e1,e2]
  exact List.take_of_length_le (by rw[Jl];omega)
 .rw[YS,YN,Y9,Jl];omega
noncomputable def Zn1 (K:Frag):V->List V->Hp->VK->Prop:=λx vs H Q=>∃(l:Addr) (ns:List Int) (k:Int),x=.ref l/\vs=[.int k]/\SqL K H l (ns.map V.int)/\ns.length<=100000/\k∈ns/\Q (.int (ns.idxOf k:Nat)) H
theorem ZrW {K:Frag} (hK:X.K=K):MtM X "list.index" (Zn1 K):=by
 subst hK
 intro pins s σ H x vs v us Q I rx rv h
 obtain⟨l,ns,k,rfl,rfl,hH,hz,hk,q⟩:=h
 cases rx
 obtain⟨u,rfl,ru⟩:=rv.one
 obtain⟨t,rfl⟩:=ru
 obtain⟨its,r,pl,_⟩:=I.list hH
 have hi:IntsAre its ns:=intsAre_of r
 have hlen:=r.length
 rw[Yi]at hlen
 obtain⟨⟨cls,dd,data,sl⟩,ho,hc,n,hd⟩:=pl.isList
 simp only at hc hd
 subst hc hd
 have hj:ns.idxOf k<ns.length:=List.idxOf_lt_length_iff.mpr hk
 refine call_meets F.slot_list_index ⟨_,ho,rfl⟩ F.entry_list_index (F.args_list_index_2 _ _)
  (SeqAt.list_indexAt l its.toArray n dd sl (.int k t) (isInt k) (ns.idxOf k) (by rw[Ys];omega) ⋯ ?_ ?_) ⟨ho,λy hy=>(eq_isInt k t hi y (by simpa using hy)).at _ _,⟨.int _,H,I.tok _,⟨_,rfl⟩,q⟩⟩
 .show isInt k its[ns.idxOf k]=true
  rw[isInt_at k hi _ ⋯ hj]
  simpa using List.getElem_idxOf hj
 .intro j hjs hlt
  show isInt k its[j]=false
  rw[isInt_at k hi j (by simpa using hjs) ⋯]
  exact ne_of_lt_idxOf hlt _
end
noncomputable def ZK (H:Hp) (p:Addr):Prop:=∃x:Int,H p=some (.lst [.int x])/\0<=x
theorem ZK.ne {H:Hp}{p q:Addr} (P:ZK H p) (h:H q=none):q≠p:=by
 obtain⟨x,e,_⟩:=P
 exact(Zw e h).symm
theorem ZK.same {H H':Hp}{p:Addr} (P:ZK H p) (s:Zd H H'):ZK H' p:=by
 obtain⟨x,e,r⟩:=P
 exact⟨x,s _ _ e,r⟩
theorem ZK.upd {H:Hp}{p q:Addr}{o:HO} (P:ZK H p) (h:H q=none):ZK (Lake.upd H q o) p:=P.same ((Zd.refl H).upd h)
theorem ZK.updN {H:Hp}{p q:Addr}{o:HO} (P:ZK H p) (h:q≠p):ZK (Lake.upd H q o) p:=by
 obtain⟨x,e,r⟩:=P
 exact⟨x,by rw[Zh h.symm];exact e,r⟩
theorem cp60:ZnN 10 60:=by unfold ZnN;decide
theorem qm1:IntMulOk (10 ^ Int.toNat 60) (10 ^ Int.toNat 60):=ZlM (by decide +kernel) (by decide +kernel)
theorem qm2:IntMulOk (10 ^ Int.toNat 60*10 ^ Int.toNat 60) (10 ^ Int.toNat 60):=ZlM (by decide +kernel) (by decide +kernel)
theorem qm3:IntMulOk (10 ^ Int.toNat 60*10 ^ Int.toNat 60*10 ^ Int.toNat 60) (10 ^ Int.toNat 60):=ZlM (by decide +kernel) (by decide +kernel)
theorem qm4:(0:Int)<10 ^ Int.toNat 60*10 ^ Int.toNat 60*10 ^ Int.toNat 60*10 ^ Int.toNat 60:=by decide +kernel
end Lake
namespace Lake
noncomputable def Zae (f:Nat->Int) (p q:Nat):Prop:=q<p/\f q<=f p/\∀r,q<r->r<p->f p<f r
noncomputable def Z8 (f:Nat->Int) (n p r:Nat):Prop:=p<r/\r<n/\f r<f p/\∀s,p<s->s<r->f p<=f s
noncomputable def ZcO (f:Nat->Int) (p:Nat):Prop:=∀q,q<p->f p<f q
noncomputable def ZbE (f:Nat->Int) (n p:Nat):Prop:=∀r,p<r->r<n->f p<=f r
noncomputable def Zx (f:Nat->Int) (n p:Nat) (e:Int):Prop :=
 (ZcO f p/\ZbE f n p/\e=-1)\/(∃q,Zae f p q/\ZbE f n p/\e=q)\/(∃r,ZcO f p/\Z8 f n p r/\e=r) \/
 ∃q r,Zae f p q/\Z8 f n p r/\e=if f q<=f r then (r:Int)else q
theorem ZmM {P:Nat->Prop} [DecidablePred P] (i:Nat):∀d r,r+d=i->P r->∃t,r<=t/\t<=i/\P t/\∀s,t<s->s<=i->¬ P s:=by
 intro d
 induction d with
 |zero=>intro r e h;exact⟨r,Yc _,⋯,h,λs h1 h2=>⋯⟩
 |succ d ih =>
  intro r e h
  by_cases hx:∃t,r<t/\t<=i/\P t
  .obtain⟨t,h1,h2,h3⟩:=hx
   -- step to r+1 by cases
   by_cases h4:P (r+1)
   .obtain⟨u,u1,u2,u3,u4⟩:=ih (r+1) ⋯ h4
    exact⟨u,⋯,u2,u3,u4⟩
   .-- go on from the next one
    have gen:∀k t,t+k=i->r<t->P t->∃u,r<=u/\u<=i/\P u/\∀s,u<s->s<=i->¬ P s:=by
     intro k
     induction k with
     |zero=>intro t e h1 h3;exact⟨t,⋯,⋯,h3,λs h1 h2=>⋯⟩
     |succ k ihk =>
      intro t e h1 h3
      by_cases hy:∃s,t<s/\s<=i/\P s
      .-- the last one of the rest
       have key:∀m,m<=i->(∃s,t<s/\s<=m/\P s)->∃u,t<u/\u<=m/\P u/\∀s,u<s->s<=m->¬ P s:=by
        intro m
        induction m with
        |zero=>rintro _ ⟨s,h5,h6,_⟩;omega
        |succ m ihm =>
         rintro hm ⟨s,h5,h6,h7⟩
         by_cases hp:P (m+1)
         .exact⟨m+1,⋯,Yc _,hp,λs h1 h2=>⋯⟩
         .have hs:s<=m:=by
           rcases Nat.lt_or_ge m s with z|z
           .have:s=m+1:= ⋯
            rw[this]at h7;exact absurd h7 hp
           .exact z
          obtain⟨u,u1,u2,u3,u4⟩:=ihm ⋯ ⟨s,h5,hs,h7⟩
          refine⟨u,u1,⋯,u3,λs' h1 h2=>?_⟩
          by_cases e:s'=m+1
          .rw[e];exact hp
          .exact u4 s' h1 ⋯
       obtain⟨u,u1,u2,u3,u4⟩:=key i (Yc _) hy
       exact⟨u,⋯,u2,u3,u4⟩
      .exact⟨t,⋯,⋯,h3,λs h1 h2 h5=>hy ⟨s,h1,h2,h5⟩⟩
    exact gen (i-t) t ⋯ h1 h3
  .exact⟨r,Yc _,⋯,h,λs h1 h2 h3=>hx ⟨s,h1,h2,h3⟩⟩
theorem Zn2 {P:Nat->Prop} [DecidablePred P] {n r:Nat} (hr:r<n) (h:P r):∃t,r<=t/\t<n/\P t/\∀s,t<s->s<n->¬ P s:=by
 obtain⟨t,h1,h2,h3,h4⟩:=ZmM (P:=P) (n-1) (n-1-r) r ⋯ h
 exact⟨t,h1,⋯,h3,λs a b=>h4 s a ⋯⟩
noncomputable def Zjh (f:Nat->Int) (i:Nat) (sp:List Nat):Prop:=sp.Pairwise (· < ·)/\∀q,q∈sp↔q<i/\∀r,q<r->r<i->f q<=f r
theorem ZlO (f:Nat->Int) (p:Nat):ZcO f p\/∃q,Zae f p q:=by
 by_cases h:∃q,q<p/\f q<=f p
 .obtain⟨q,h1,h2⟩:=h
  obtain⟨t,_,t2,t3,t4⟩:=Zn2 (P:=λq=>f q<=f p) h1 h2
  exact .inr ⟨t,t2,t3,λr a b=>by have:=t4 r a b;omega⟩
 .exact .inl λq hq=>by
   have:¬ (f q<=f p):=λz=>h ⟨q,hq,z⟩
   omega
theorem Zqx {f:Nat->Int}{i p q:Nat} (hp:p<i) (ho:∀r,p<r->r<i->f p<=f r) (h:Zae f p q):(∀r,q<r->r<i->f q<=f r)/\∀s,q<s->s<p->¬ ∀r,s<r->r<i->f s<=f r:=by
 obtain⟨h1,h2,h3⟩:=h
 refine⟨λr a b=>?_,λs a b z=>?_⟩
 .rcases Nat.lt_trichotomy r p with c|c|c
  .have:=h3 r a c;omega
  .rw[c];exact h2
  .have:=ho r c b;omega
 .have:=z p b hp
  have:=h3 s a b
  omega
theorem Zji {f:Nat->Int}{i:Nat}{A B:List Nat} (hs:Zjh f i (A++B)) (hA:∀q∈A,f q<=f i) (hB:∀q∈B,f i<f q) :
  Zjh f (i+1) (A++[i])/\Zx f (i+1) i (match A.getLast? with|some q=>(q:Int)|none=>-1)/\∀p e,p<i->Zx f i p e->Zx f (i+1) p (if B.head?=some p then (i:Int)else e):=by
 obtain⟨hso,hm⟩:=hs
 have hAB:=List.pairwise_append.mp hso
 have noNx:ZbE f (i+1) i:=λr a b=>⋯
 refine⟨⟨?_,λq=>?_⟩,?_,λp e hp he=>?_⟩
 .refine List.pairwise_append.mpr ⟨hAB.1,List.pairwise_singleton _ _,λa ha b hb=>?_⟩
  have:b=i:=by simpa using hb
  rw[this]
  exact((hm a).mp (YY _ ha)).1
 .rw[YB,Y2]
  constructor
  .rintro(h|h)
   .obtain⟨h1,h2⟩:=(hm q).mp (YY _ h)
    refine⟨⋯,λr a b=>?_⟩
    by_cases e:r=i
    .rw[e];exact hA q h
    .exact h2 r a ⋯
   .subst h;exact⟨⋯,λr a b=>⋯⟩
  .rintro⟨h1,h2⟩
   by_cases e:q=i
   .exact .inr e
   .have hq:q∈A++B:=(hm q).mpr ⟨⋯,λr a b=>h2 r a ⋯⟩
    rcases YB.mp hq with h|h
    .exact .inl h
    .have:=hB q h
     have:=h2 i ⋯ ⋯
     omega
 .-- the elder of i
  rcases ZlO f i with h|⟨q,h⟩
  .have hA0:A=[]:=by
    cases A with
    |nil=>rfl
    |cons a r =>
     have h1:=((hm a).mp (by simp)).1
     have:=hA a (by simp)
     have:=h a h1
     omega
   rw[hA0]
   exact .inl ⟨h,noNx,rfl⟩
  .have ho:∀r,q<r->r<i->f q<=f r:=λr a b=>by have:=h.2.2 r a b;have:=h.2.1;omega
   have hqA:q∈A:=by
    rcases YB.mp ((hm q).mpr ⟨h.1,ho⟩)with z|z
    .exact z
    .have:=hB q z;have:=h.2.1;omega
   have hlast:A.getLast?=some q:=by
    have hne:A≠[]:=λz=>by rw[z]at hqA;cases hqA
    rw[List.getLast?_eq_some_getLast hne]
    congr 1
    have hl:A.getLast hne∈A:=List.getLast_mem hne
    -- q<=last,and last is not past q
    by_cases e:A.getLast hne=q
    .exact e
    .exfalso
     have hlt:q<A.getLast hne:=by
      have hd:=List.dropLast_concat_getLast hne
      have hq2:q∈A.dropLast:=by
       rw[<-hd]at hqA
       rcases YB.mp hqA with z|z
       .exact z
       .exact absurd (by simpa using z) (Ne.symm e)
      have hp2:=hAB.1
      rw[<-hd]at hp2
      exact(List.pairwise_append.mp hp2).2.2 q hq2 _ (by simp)
     have h1:=((hm (A.getLast hne)).mp (YY _ hl)).1
     have:=h.2.2 _ hlt h1
     have:=hA _ hl
     omega
   rw[hlast]
   exact .inr (.inl ⟨q,h,noNx,rfl⟩)
 .-- the elder of an earlier place
  have nxt:∀r,Z8 f i p r->Z8 f (i+1) p r:=λr ⟨a,b,c,d⟩=>⟨a,⋯,c,d⟩
  by_cases hop:ZbE f i p
  .have hmem:p∈A++B:=(hm p).mpr ⟨hp,hop⟩
   by_cases hlt:f i<f p
   .have hnx:Z8 f (i+1) p i:=⟨hp,⋯,hlt,λs a b=>hop s a b⟩
    have hpB:p∈B:=by
     rcases YB.mp hmem with z|z
     .have:=hA p z;omega
     .exact z
    obtain⟨b0,Br,rfl⟩:∃b0 Br,B=b0::Br:=by
     cases B with
     |nil=>cases hpB
     |cons b0 Br=>exact⟨b0,Br,rfl⟩
    have hhead:(b0::Br).head?=some b0:=rfl
    rw[hhead]
    rcases ZlO f p with hn|⟨q,hq⟩
    .-- nothing ahead: p is the first of all
     have e0:b0=p:=by
      by_cases z:b0=p
      .exact z
      .exfalso
       have hpr:p∈Br:=by
        rcases Yk.mp hpB with y|y
        .exact absurd y.symm z
        .exact y
       have hlt2:b0<p:=(Jb.mp hAB.2.1).1 p hpr
       have:=((hm b0).mp (by simp)).2 p hlt2 hp
       have:=hn b0 hlt2
       omega
     rw[Yd (by rw[e0])]
     exact .inr (.inr (.inl ⟨i,hn,hnx,rfl⟩))
    .obtain⟨hq1,hq2⟩:=Zqx hp hop hq
     have hqm:q∈A++b0::Br:=(hm q).mpr ⟨Nat.lt_trans hq.1 hp,hq1⟩
     by_cases hqi:f q<=f i
     .-- q is kept: p is the first of B
      have e0:b0=p:=by
       by_cases z:b0=p
       .exact z
       .exfalso
        have hpr:p∈Br:=by
         rcases Yk.mp hpB with y|y
         .exact absurd y.symm z
         .exact y
        have hlt2:b0<p:=(Jb.mp hAB.2.1).1 p hpr
        have hb0:=(hm b0).mp (by simp)
        have hqA:q∈A:=by
         rcases YB.mp hqm with y|y
         .exact y
         .have:=hB q y;omega
        have hqb:q<b0:=hAB.2.2 q hqA b0 (by simp)
        exact hq2 b0 hqb hlt2 hb0.2
      rw[Yd (by rw[e0])]
      refine .inr (.inr (.inr ⟨q,i,hq,hnx,?_⟩))
      rw[Yd hqi]
     .-- q goes,too: the elder stays
      have hqB:q∈b0::Br:=by
       rcases YB.mp hqm with y|y
       .exact absurd (hA q y) hqi
       .exact y
      have hne:b0≠p:=by
       intro z
       subst z
       rcases Yk.mp hqB with y|y
       .have:=hq.1;omega
       .have:=(Jb.mp hAB.2.1).1 q y
        have:=hq.1;omega
      rw[Yb (by intro z;exact hne (YM z))]
      have ee:e=q:=by
       rcases he with⟨h1,_,_⟩|⟨q',h1,_,h3⟩|⟨r,h1,_,_⟩|⟨q',r,_,h2,_⟩
       .have:=h1 q hq.1;have:=hq.2.1;omega
       .have:q'=q:=by
         rcases Nat.lt_trichotomy q' q with y|y|y
         .have:=h1.2.2 q y hq.1;have:=hq.2.1;omega
         .exact y
         .have:=hq.2.2 q' y h1.1;have:=h1.2.1;omega
        rw[h3,this]
       .have:=h1 q hq.1;have:=hq.2.1;omega
       .have:=hop r h2.1 h2.2.1;have:=h2.2.2.1;omega
      refine .inr (.inr (.inr ⟨q,i,hq,hnx,?_⟩))
      rw[Yb hqi,ee]
   .-- still open: not of B
    have hnn:ZbE f (i+1) p:=λr a b=>by
     by_cases z:r=i
     .rw[z];omega
     .exact hop r a ⋯
    have hne:B.head?≠some p:=λz=>by
     have:p∈B:=List.mem_of_head? z
     have:=hB p this
     omega
    rw[Yb hne]
    rcases he with⟨h1,_,h3⟩|⟨q,h1,_,h3⟩|⟨r,_,h2,_⟩|⟨q,r,_,h2,_⟩
    .exact .inl ⟨h1,hnn,h3⟩
    .exact .inr (.inl ⟨q,h1,hnn,h3⟩)
    .have:=hop r h2.1 h2.2.1;have:=h2.2.2.1;omega
    .have:=hop r h2.1 h2.2.1;have:=h2.2.2.1;omega
  .-- shut already
   have hne:B.head?≠some p:=λz=>hop ((hm p).mp (Yn _ (List.mem_of_head? z))).2
   rw[Yb hne]
   rcases he with⟨_,h2,_⟩|⟨q,_,h2,_⟩|⟨r,h1,h2,h3⟩|⟨q,r,h1,h2,h3⟩
   .exact absurd h2 hop
   .exact absurd h2 hop
   .exact .inr (.inr (.inl ⟨r,h1,nxt r h2,h3⟩))
   .exact .inr (.inr (.inr ⟨q,r,h1,nxt r h2,h3⟩))
end Lake
namespace Lake
open PySem PySem.Spec PyProof.Rows PySem.W
theorem Zjj {α β:Type}{f g:α->Option β}:∀{l:List α},(∀x∈l,f x=g x)->l.filterMap f=l.filterMap g
 |[],_=>rfl
 |x::r,h=>by rw[List.filterMap_cons,List.filterMap_cons,h x (Yv ..),Zjj λy hy=>h y (Yu _ hy)]
theorem Zqy (its:List Value) (k:Nat) (hk:k<=its.length) (start:Nat):(its.zipIdx start).filterMap (λxk=>if (decide (((start+k:Nat):Int)<=(xk.2:Int))&&decide ((xk.2:Int)<((start+its.length:Nat):Int))&&(((xk.2:Int)-((start+k:Nat):Int)) % 1==0))=true then none else some xk.1)=its.take k:=by
 induction its generalizing k start with
 |nil=>simp
 |cons x r ih =>
  rw[List.zipIdx_cons,List.filterMap_cons]
  cases k with
  |zero =>
   have h1:(decide (((start+0:Nat):Int)<=(start:Int))&&decide ((start:Int)<((start+(x::r).length:Nat):Int))&&(((start:Int)-((start+0:Nat):Int)) % 1==0))=true:=by
    simp;omega
   simp only[h1,if_true]
   have:=ih 0 ⋯ (start+1)
   rw[List.take_zero]at this⊢
   rw[<-this]
   refine Zjj λxk hxk=>?_
   have hm:=List.mem_zipIdx hxk
   have e1:(decide (((start+0:Nat):Int)<=(xk.2:Int)))=(decide (((start+1+0:Nat):Int)<=(xk.2:Int))):=by
    rw[decide_eq_decide];omega
   have e2:((start+(x::r).length:Nat):Int)=((start+1+r.length:Nat):Int):=by simp;omega
   have e3:(((xk.2:Int)-((start+0:Nat):Int)) % 1==0)=(((xk.2:Int)-((start+1+0:Nat):Int)) % 1==0):=by simp[Int.emod_one]
   rw[e1,e2,e3]
  |succ k =>
   have h1:(decide (((start+(k+1):Nat):Int)<=(start:Int))&&decide ((start:Int)<((start+(x::r).length:Nat):Int))&&(((start:Int)-((start+(k+1):Nat):Int)) % 1==0))=false:=by
    have:decide (((start+(k+1):Nat):Int)<=(start:Int))=false:=Yz ⋯
    rw[this];rfl
   simp only[h1,Bool.false_eq_true,if_false]
   rw[List.take_succ_cons]
   congr 1
   have:=ih k (by simpa using hk) (start+1)
   rw[<-this]
   refine Zjj λxk hxk=>?_
   have e1:((start+(k+1):Nat):Int)=((start+1+k:Nat):Int):= ⋯
   have e2:((start+(x::r).length:Nat):Int)=((start+1+r.length:Nat):Int):=by simp;omega
   rw[e1,e2]
section
variable {X:Cx}{e st:Expr}{te ts:TE}{pos pos1 p2:Pos}
noncomputable def ZrX (te ts:TE):TS:=λD σ H=>te σ H λx H1=>ts σ H1 λz H2=>∃(l:Addr) (xs:List V) (k:Nat),x=.ref l/\z=.int k/\H2 l=some (.lst xs)/\k<=xs.length/\D.nx σ (upd H2 l (.lst (xs.take k)))
theorem Zn3 (he:PE X e te) (hs:PE X st ts):PS X (.Delete [.Subscript e (.Slice (some st) none none p2) pos1] pos) (ZrX te ts):=by
 intro pins s σ H D I h
 refine wpAny_Delete (wpAny_deleteEach_cons ?_)
 show wpAny _ _ (eval e X.env >>= λov=>holding [ov] (eval (.Slice (some st) none none p2) X.env) >>= λiv=>(do standAt pos1;holding [ov,iv] (delItem ov iv);release [ov,iv] [])) _ _ _
 refine Ya (thn (he pins s σ H _ I h) λv s1 hz=>?_)
 obtain⟨x,H1,I1,r1,q1⟩:=hz
 refine Ya (YH ?_)
 refine wpAny_Slice ?_
 rw[evalPart_some]
 refine thn (hs pins s1 σ H1 _ I1 q1) λvs s2 hz=>?_
 obtain⟨z,H2,I2,r2,l,xs,k,e1,e2,hx,hk,q⟩:=hz
 subst e1 e2
 obtain⟨tk,rfl⟩:=r2
 cases r1
 rw[evalPart_none]
 refine Ye ?_
 refine Ye ?_
 have I4:Inv X pins σ H2 {s2 with heap:=s2.heap.push {cls:=.type "slice",data:=.fields #[.int k tk,.none,.none]}}:=I2.kept (t':=s2.toks) λb ob q=>Ym _ q
 have hsl:({s2 with heap:=s2.heap.push {cls:=.type "slice",data:=.fields #[.int k tk,.none,.none]}}:Shared).heap.get? s2.heap.objs.size=some {cls:=.type "slice",data:=.fields #[.int k tk,.none,.none]}:=YC _ rfl
 obtain⟨z,its,n,r,hlen,hob⟩:=I4.ZmF hx
 generalize ({s2 with heap:=s2.heap.push {cls:=.type "slice",data:=.fields #[.int k tk,.none,.none]}}:Shared)=s4 at I4 hsl hob⊢
 have hT:s4.TypeIs (.ref l) "list":=⟨_,hob,rfl⟩
 have hTs:s4.TypeIs (.ref s2.heap.objs.size) "slice":=⟨_,hsl,rfl⟩
 refine Ya (wpAny_standAt (Ya (YH ?_)))
 refine wpAny_delItem_slot hT nofun F.slot_list_delitem (wpAny_call_entry F.slot_list_delitem hT F.entry_list_delitem ?_ (F.args_list_delitem_2 _ _))
 show wpAny _ _ (Builtin.List.listSubscript? (.ref s2.heap.objs.size) >>= _) _ _ s4
 refine Ya ?_;unfold Builtin.List.listSubscript?;refine Ya (wpAny_specialOf hTs slice_no_index ?_)
 simp only[Option.isNone_none,if_true];refine Ye ?_
 show wpAny _ _ (typeOf (.ref s2.heap.objs.size) >>= _) _ _ s4
 refine Ya (wpAny_typeOf hTs ?_);rw[Yb nofun,listSliceParts_eq]
 refine Ya (Ya (wpAny_field hsl rfl (x:=.none) rfl (Ya (wpAny_listPart (k:=none) .none ?_))));rw[Yb (show ¬ ((rawPart none==rawInt 0)=true)from YW)]
 refine Ya (wpAny_field hsl rfl (x:=.int k tk) rfl (Ya (wpAny_listPart (.int (k:Int) tk) ?_)))
 refine Ya (wpAny_field hsl rfl (x:=.none) rfl (Ya (wpAny_listPart (k:=none) .none (Ye ?_))))
 refine Ya (m:=Builtin.List.listItems (.ref l)) ?_;unfold Builtin.List.listItems
 refine Ya (wpAny_seqItems hob rfl (Ye ?_));refine Ya (wpAny_of_eq (sliceIndices_raw (some (k:Int)) none none its.toArray.size (by simp)) (Ya (wpAny_rule ?_)))
 have hb:sliceBounds (some (k:Int)) none none its.toArray.size=((k:Int),((its.length:Nat):Int),1):=by
  unfold sliceBounds
  simp
  omega
 rw[hb]
 have hf:∀f:Array Value->Array Value,(∀ys:Array Value,f ys=(ys.toList.zipIdx.filterMap λxk=>if (decide ((k:Int)<=(xk.2:Int))&&decide ((xk.2:Int)<((its.length:Nat):Int))&&(((xk.2:Int)-(k:Int)) % 1==0))=true then none else some xk.1).toArray)->f its.toArray=(its.take k).toArray:=λf h=>by
  rw[h]
  congr 1
  have:=Zqy its k ⋯ 0
  simpa using this
 refine Ya (m:=updateSeq l _) ?_
 refine wpAny_updateSeq (n:=n) hob rfl ?_ (by rw[Ys];omega) ?_
 .refine Ya (wpAny_letGo (Ye ⟨_,rfl,?_⟩))
  refine wpAny_release (wpAny_deleteEach_nil ⟨σ,_,I4.lset hx hob (hf _ λys=>rfl) (r.ZrV k) ?_,q⟩)
  rw[Y9];omega
 .rw[Ys]
  refine Yr (List.length_filterMap_le _ _) ?_
  rw[List.length_zipIdx]
  show its.length<=sizeLine+1
  omega
end
theorem Zae.unique {f:Nat->Int}{p q q':Nat} (h:Zae f p q) (k:Zae f p q'):q=q':=by
 rcases Nat.lt_trichotomy q q' with z|z|z
 .have:=h.2.2 q' z k.1;have:=k.2.1;omega
 .exact z
 .have:=k.2.2 q z h.1;have:=h.2.1;omega
theorem Z8.unique {f:Nat->Int}{n p r r':Nat} (h:Z8 f n p r) (k:Z8 f n p r'):r=r':=by
 rcases Nat.lt_trichotomy r r' with z|z|z
 .have:=k.2.2.2 r h.1 z;have:=h.2.2.1;omega
 .exact z
 .have:=h.2.2.2 r' k.1 z;have:=k.2.2.1;omega
theorem Zae.no {f:Nat->Int}{p q:Nat} (h:Zae f p q) (k:ZcO f p):False:=by have:=k q h.1;have:=h.2.1;omega
theorem Z8.no {f:Nat->Int}{n p r:Nat} (h:Z8 f n p r) (k:ZbE f n p):False:=by have:=k r h.1 h.2.1;have:=h.2.2.1;omega
theorem Zx.unique {f:Nat->Int}{n p:Nat}{e e':Int} (h:Zx f n p e) (k:Zx f n p e'):e=e':=by
 rcases h with⟨h1,h2,h3⟩|⟨q,h1,h2,h3⟩|⟨r,h1,h2,h3⟩|⟨q,r,h1,h2,h3⟩ <;>
 rcases k with⟨k1,k2,k3⟩|⟨q',k1,k2,k3⟩|⟨r',k1,k2,k3⟩|⟨q',r',k1,k2,k3⟩
 .rw[h3,k3]
 .exact(k1.no h1).elim
 .exact(k2.no h2).elim
 .exact(k1.no h1).elim
 .exact(h1.no k1).elim
 .rw[h3,k3,h1.unique k1]
 .exact(h1.no k1).elim
 .exact(k2.no h2).elim
 .exact(h2.no k2).elim
 .exact(k1.no h1).elim
 .rw[h3,k3,h2.unique k2]
 .exact(k1.no h1).elim
 .exact(h1.no k1).elim
 .exact(h2.no k2).elim
 .exact(h1.no k1).elim
 .rw[h3,k3,h1.unique k1,h2.unique k2]
noncomputable def Zp (ns:List Int) (es:List Int):Prop:=es.length=ns.length/\∀p,p<ns.length->Zx (nth ns) ns.length p (es.getD p 0)
theorem Zp.unique {ns es es':List Int} (h:Zp ns es) (k:Zp ns es'):es=es':=by
 refine List.ext_getElem (by rw[h.1,k.1]) λj h1 h2=>?_
 have hj:j<ns.length:=by rw[<-h.1];exact h1
 have:=(h.2 j hj).unique (k.2 j hj)
 simpa[Yh,h1,h2]using this
theorem Zfv {f:Nat->Int}{n p:Nat} (hp:p<n):Zx f n p
  (match ((List.range p).filter λq=>decide (f q<=f p)).getLast?,((List.range (n-(p+1))).filter λj=>decide (f (p+1+j)<f p)).head? with
   |none,none=>-1
   |none,some j=>((p+1+j:Nat):Int)
   |some q,none=>q
   |some q,some j=>if f q<=f (p+1+j)then ((p+1+j:Nat):Int)else q):=by
 have hA:(((List.range p).filter λq=>decide (f q<=f p)).getLast?=none/\ZcO f p)\/∃q,((List.range p).filter λq=>decide (f q<=f p)).getLast?=some q/\Zae f p q:=by
  induction p with
  |zero=>exact .inl ⟨rfl,λq hq=>⋯⟩
  |succ p _ =>
   generalize p+1=P
   have key:∀m,m<=P->(((List.range m).filter λq=>decide (f q<=f P)).getLast?=none/\∀q,q<m->f P<f q)\/∃q,((List.range m).filter λq=>decide (f q<=f P)).getLast?=some q/\q<m/\f q<=f P/\∀r,q<r->r<m->f P<f r:=by
    intro m
    induction m with
    |zero=>intro _;exact .inl ⟨rfl,λq hq=>⋯⟩
    |succ m ih =>
     intro hm
     rw[Ja,List.filter_append]
     by_cases hle:f m<=f P
     .refine .inr ⟨m,?_,⋯,hle,λr r1 r2=>⋯⟩
      simp[hle]
     .have e:List.filter (λq=>decide (f q<=f P)) [m]=[]:=by simp[hle]
      rw[e,List.append_nil]
      rcases ih ⋯with⟨i1,i2⟩|⟨q,i1,i2,i3,i4⟩
      .refine .inl ⟨i1,λq hq=>?_⟩
       by_cases z:q=m
       .rw[z];omega
       .exact i2 q ⋯
      .refine .inr ⟨q,i1,⋯,i3,λr r1 r2=>?_⟩
       by_cases z:r=m
       .rw[z];omega
       .exact i4 r r1 ⋯
   rcases key P (Yc _)with⟨i1,i2⟩|⟨q,i1,i2,i3,i4⟩
   .exact .inl ⟨i1,i2⟩
   .exact .inr ⟨q,i1,i2,i3,i4⟩
 have hB:(((List.range (n-(p+1))).filter λj=>decide (f (p+1+j)<f p)).head?=none/\ZbE f n p)\/∃j,((List.range (n-(p+1))).filter λj=>decide (f (p+1+j)<f p)).head?=some j/\Z8 f n p (p+1+j):=by
  have key:∀m,(((List.range m).filter λj=>decide (f (p+1+j)<f p)).head?=none/\∀j,j<m->f p<=f (p+1+j))\/∃j,((List.range m).filter λj=>decide (f (p+1+j)<f p)).head?=some j/\j<m/\f (p+1+j)<f p/\∀i,i<j->f p<=f (p+1+i):=by
   intro m
   induction m with
   |zero=>exact .inl ⟨rfl,λq hq=>⋯⟩
   |succ m ih =>
    rw[Ja,List.filter_append]
    rcases ih with⟨i1,i2⟩|⟨j,i1,i2,i3,i4⟩
    .have e0:List.filter (λj=>decide (f (p+1+j)<f p)) (List.range m)=[]:=List.head?_eq_none_iff.mp i1
     rw[e0,List.nil_append]
     by_cases hlt:f (p+1+m)<f p
     .refine .inr ⟨m,by simp[hlt],⋯,hlt,λi hi=>i2 i hi⟩
     .refine .inl ⟨by simp[hlt],λj hj=>?_⟩
      by_cases z:j=m
      .rw[z];omega
      .exact i2 j ⋯
    .refine .inr ⟨j,?_,⋯,i3,i4⟩
     rw[List.head?_append,i1];rfl
  rcases key (n-(p+1))with⟨i1,i2⟩|⟨j,i1,i2,i3,i4⟩
  .refine .inl ⟨i1,λr r1 r2=>?_⟩
   have:=i2 (r-(p+1)) ⋯
   have e:p+1+(r-(p+1))=r:= ⋯
   rw[e]at this;exact this
  .refine .inr ⟨j,i1,⋯,⋯,i3,λs s1 s2=>?_⟩
   have:=i4 (s-(p+1)) ⋯
   have e:p+1+(s-(p+1))=s:= ⋯
   rw[e]at this;exact this
 rcases hA with⟨a1,a2⟩|⟨q,a1,a2⟩<;>rcases hB with⟨b1,b2⟩|⟨j,b1,b2⟩<;>rw[a1,b1]
 .exact .inl ⟨a2,b2,rfl⟩
 .exact .inr (.inr (.inl ⟨_,a2,b2,rfl⟩))
 .exact .inr (.inl ⟨_,a2,b2,rfl⟩)
 .exact .inr (.inr (.inr ⟨_,_,a2,b2,rfl⟩))
theorem ZuL {c:TT}{tb:TS}{D:Ends}{σ:St}{H:Hp} (Pv:Nat->St->Hp->Prop) (m0:Nat) (h0:Pv m0 σ H)
  (hs:∀m σ H,Pv m σ H->c σ H λb H1=>if b=true then ∃Nx:St->Hp->Prop,(∀σ' H',Nx σ' H'->∃m',m'<m/\Pv m' σ' H')/\tb {D with nx:=Nx,ct:=Nx,bk:=D.nx} σ H1 else D.nx σ H1):ZnZ c tb D σ H:=⟨Pv,⟨m0,h0⟩,hs⟩
end Lake
namespace Lake
noncomputable def Over (f:Nat->Int) (o p:Nat):Prop:=(o<p/\∀r,o<r->r<=p->f o<=f r)\/(p<o/\∀r,p<=r->r<o->f o<f r)
theorem Over.irrefl {f:Nat->Int}{p:Nat}:¬ Over f p p:=by rintro(⟨h,_⟩|⟨h,_⟩)<;>omega
theorem Over.trans {f:Nat->Int}{o e p:Nat} (h:Over f o e) (k:Over f e p):Over f o p:=by
 rcases h with⟨h1,h2⟩|⟨h1,h2⟩<;>rcases k with⟨k1,k2⟩|⟨k1,k2⟩
 .refine .inl ⟨⋯,λr r1 r2=>?_⟩
  by_cases z:r<=e
  .exact h2 r r1 z
  .have:=k2 r ⋯ r2;have:=h2 e h1 (Yc _);omega
 .have he:=h2 e h1 (Yc _)
  rcases Nat.lt_trichotomy o p with z|z|z
  .exact .inl ⟨z,λr r1 r2=>h2 r r1 ⋯⟩
  .have:=k2 p (Yc _) k1;subst z;omega
  .exact .inr ⟨z,λr r1 r2=>by have:=k2 r r1 ⋯;omega⟩
 .have he:=h2 e (Yc _) h1
  rcases Nat.lt_trichotomy o p with z|z|z
  .exact .inl ⟨z,λr r1 r2=>by have:=k2 r ⋯ r2;omega⟩
  .have:=k2 p k1 (Yc _);subst z;omega
  .exact .inr ⟨z,λr r1 r2=>h2 r ⋯ r2⟩
 .refine .inr ⟨⋯,λr r1 r2=>?_⟩
  by_cases z:r<e
  .have:=k2 r r1 z;have:=h2 e (Yc _) h1;omega
  .exact h2 r ⋯ r2
theorem ZcP {f:Nat->Int}{n p:Nat}{e:Int} (hp:p<n) (h:Zx f n p e):e=-1\/∃q:Nat,e=q/\q<n/\Over f q p:=by
 have pv:∀q,Zae f p q->Over f q p:=λq h=>.inl ⟨h.1,λr r1 r2=>by
  by_cases z:r=p
  .rw[z];exact h.2.1
  .have:=h.2.2 r r1 ⋯;have:=h.2.1;omega⟩
 have nx:∀q,Z8 f n p q->Over f q p:=λq h=>.inr ⟨h.1,λr r1 r2=>by
  by_cases z:r=p
  .rw[z];exact h.2.2.1
  .have:=h.2.2.2 r ⋯ r2;have:=h.2.2.1;omega⟩
 rcases h with⟨_,_,h⟩|⟨q,h1,_,h⟩|⟨r,_,h1,h⟩|⟨q,r,h1,h2,h⟩
 .exact .inl h
 .exact .inr ⟨q,h,by have:=h1.1;omega,pv q h1⟩
 .exact .inr ⟨r,h,h1.2.1,nx r h1⟩
 .by_cases z:f q<=f r
  .rw[Yd z]at h;exact .inr ⟨r,h,h2.2.1,nx r h2⟩
  .rw[Yb z]at h;exact .inr ⟨q,h,by have:=h1.1;omega,pv q h1⟩
theorem ZkU {f:Nat->Int}{n p o:Nat}{e:Int} (hp:p<n) (ho:o<n) (h:Zx f n p e) (hO:Over f o p):∃q:Nat,e=q/\q<n/\(o=q\/Over f o q):=by
 rcases hO with⟨o1,o2⟩|⟨o1,o2⟩
 .have op:=o2 p o1 (Yc _)
  have pv:∀q,Zae f p q->o=q\/(o<q/\Over f o q/\f o<=f q):=λq h=>by
   rcases Nat.lt_trichotomy o q with z|z|z
   .have:=h.1;exact .inr ⟨z,.inl ⟨z,λr r1 r2=>o2 r r1 ⋯⟩,o2 q z ⋯⟩
   .exact .inl z
   .have:=h.2.2 o z o1;omega
  rcases h with⟨h1,_,h⟩|⟨q,h1,_,h⟩|⟨r,h1,_,h⟩|⟨q,r,h1,h2,h⟩
  .have:=h1 o o1;omega
  .refine⟨q,h,by have:=h1.1;omega,?_⟩
   rcases pv q h1 with z|z
   .exact .inl z
   .exact .inr z.2.1
  .have:=h1 o o1;omega
  .by_cases z:f q<=f r
   .rw[Yd z]at h
    refine⟨r,h,h2.2.1,.inr (.inl ⟨by have:=h2.1;omega,λs s1 s2=>?_⟩)⟩
    by_cases sp:s<=p
    .exact o2 s s1 sp
    .by_cases sr:s=r
     .rw[sr]
      rcases pv q h1 with y|y
      .rw[y];exact z
      .have:=y.2.2;omega
     .have:=h2.2.2.2 s ⋯ ⋯;omega
   .rw[Yb z]at h
    refine⟨q,h,by have:=h1.1;omega,?_⟩
    rcases pv q h1 with z|z
    .exact .inl z
    .exact .inr z.2.1
 .have op:=o2 p (Yc _) o1
  have nx:∀r,Z8 f n p r->o=r\/(r<o/\Over f o r/\f o<f r):=λr h=>by
   rcases Nat.lt_trichotomy o r with z|z|z
   .have:=h.2.2.2 o o1 z;omega
   .exact .inl z
   .have:=h.1;exact .inr ⟨z,.inr ⟨z,λs s1 s2=>o2 s ⋯ s2⟩,o2 r ⋯ z⟩
  rcases h with⟨_,h1,h⟩|⟨q,_,h1,h⟩|⟨r,_,h1,h⟩|⟨q,r,h1,h2,h⟩
  .have:=h1 o o1 ho;omega
  .have:=h1 o o1 ho;omega
  .refine⟨r,h,h1.2.1,?_⟩
   rcases nx r h1 with z|z
   .exact .inl z
   .exact .inr z.2.1
  .by_cases z:f q<=f r
   .rw[Yd z]at h
    refine⟨r,h,h2.2.1,?_⟩
    rcases nx r h2 with z|z
    .exact .inl z
    .exact .inr z.2.1
   .rw[Yb z]at h
    refine⟨q,h,by have:=h1.1;omega,.inr (.inr ⟨by have:=h1.1;omega,λs s1 s2=>?_⟩)⟩
    by_cases sp:p<=s
    .exact o2 s sp s2
    .by_cases sq:s=q
     .rw[sq]
      rcases nx r h2 with y|y
      .rw[y];omega
      .have:=y.2.2;omega
     .have:=h1.2.2 s ⋯ ⋯;omega
theorem Zb8 {f:Nat->Int}{n p o q:Nat} (hp:p<n) (ho:o<n) (h:Zx f n p (q:Int)):Over f o p↔o=q\/Over f o q:=by
 refine⟨λk=>?_,λk=>?_⟩
 .obtain⟨q',e,_,z⟩:=ZkU hp ho h k
  have:q'=q:= ⋯
  rw[this]at z;exact z
 .rcases ZcP hp h with z|⟨q',e,_,z⟩
  .omega
  .have:q'=q:= ⋯
   rw[this]at z
   rcases k with k|k
   .rw[k];exact z
   .exact k.trans z
theorem ZkV {f:Nat->Int}{n p o:Nat} (hp:p<n) (ho:o<n) (h:Zx f n p (-1)):¬ Over f o p:=λk=>by
 obtain⟨q',e,_,z⟩:=ZkU hp ho h k
 omega
theorem Zjk {P Q:Nat->Bool}:∀n,(∀o,o<n->P o=Q o)->(List.range n).countP P=(List.range n).countP Q
 |0,_=>rfl
 |n+1,h=>by
  rw[Ja,List.countP_append,List.countP_append,Zjk n (λo ho=>h o ⋯)]
  simp[List.countP_cons,h n ⋯]
theorem ZgE {P Q:Nat->Bool}{e:Nat}:∀n,e<n->(∀o,o<n->(P o=true↔o=e\/Q o=true))->Q e=false->(List.range n).countP P=(List.range n).countP Q+1
 |0,h,_,_=>⋯
 |n+1,h,hi,hq=>by
  rw[Ja,List.countP_append,List.countP_append]
  by_cases z:e=n
  .have e1:(List.range n).countP P=(List.range n).countP Q:=Zjk n λo ho=>by
    have:=hi o ⋯
    cases hP:P o<;>cases hQ:Q o<;>simp[hP,hQ]at this<;>first|rfl|omega
   have hPn:P n=true:=(hi n ⋯).mpr (.inl z.symm)
   rw[z]at hq
   rw[e1];simp[List.countP_cons,hPn,hq]
  .rw[ZgE n ⋯ (λo ho=>hi o ⋯) hq]
   have:=hi n ⋯
   have hn:P n=Q n:=by
    cases hP:P n<;>cases hQ:Q n<;>simp[hP,hQ]at this<;>first|rfl|omega
   simp[List.countP_cons,hn];omega
theorem ZrY {P:Nat->Bool}{e n:Nat} (he:e<n) (h:P e=false):(List.range n).countP P<n:=by
 have h1:=ZgE (P:=λo=>decide (o=e)||P o) (Q:=P) n he (λo _=>by simp) h
 have h2:=List.countP_le_length (p:=λo=>decide (o=e)||P o) (l:=List.range n)
 rw[h1,Y6]at h2
 omega
noncomputable def Z9 (T:List Int):Nat->Int->List Nat
 |0,_=>[]
 |k+1,at_=>if 0<=at_/\at_<T.length then at_.toNat::Z9 T k (nth T at_.toNat)else []
open Classical in
noncomputable def dep (f:Nat->Int) (n p:Nat):Nat:=(List.range n).countP λo=>decide (Over f o p)
theorem Zn4 {f:Nat->Int}{n p:Nat} (hp:p<n):dep f n p<n:=by
 classical
 exact ZrY hp (by simpa using Over.irrefl)
theorem ZhS {f:Nat->Int}{n p q:Nat} (hp:p<n) (h:Zx f n p (q:Int)):dep f n p=dep f n q+1:=by
 classical
 have hq:q<n:=by
  rcases ZcP hp h with z|⟨q',e,z,_⟩<;>omega
 exact ZgE n hq (λo ho=>by simpa using Zb8 hp ho h) (by simpa using Over.irrefl)
theorem ZuM {f:Nat->Int}{n p:Nat} (hp:p<n) (h:Zx f n p (-1)):dep f n p=0:=by
 classical
 unfold dep
 rw[List.countP_eq_zero]
 intro o ho
 simpa using ZkV hp (by simpa using ho) h
theorem Zjl {ns T:List Int} (hT:Zp ns T):∀k p,p<ns.length->dep (nth ns) ns.length p<=k->(∀o,o∈Z9 T k (nth T p)↔o<ns.length/\Over (nth ns) o p)/\(Z9 T k (nth T p)).length=dep (nth ns) ns.length p
 |k,p,hp,hk=>by
  have hE:Zx (nth ns) ns.length p (nth T p):=hT.2 p hp
  rcases ZcP hp hE with z|⟨q,e,hq,hO⟩
  .have e0:Z9 T k (nth T p)=[]:=by
    cases k with
    |zero=>rfl
    |succ k=>rw[Z9,Yb ⋯]
   rw[e0]
   rw[z]at hE
   exact⟨λo=>⟨λh=>by simp at h,λh=>absurd h.2 (ZkV hp h.1 hE)⟩,by rw[ZuM hp hE];rfl⟩
  .rw[e]at hE
   have hd:=ZhS hp hE
   obtain⟨k',rfl⟩:∃k',k=k'+1:=⟨k-1,⋯⟩
   have ih:=Zjl hT k' q hq ⋯
   have eT:((q:Nat):Int).toNat=q:= ⋯
   rw[Z9,e,Yd ⟨⋯,by rw[hT.1];omega⟩,eT]
   refine⟨λo=>?_,by simp[ih.2,hd]⟩
   rw[Yk,ih.1 o]
   refine⟨λh=>?_,λh=>?_⟩
   .rcases h with h|h
    .rw[h];exact⟨hq,hO⟩
    .exact⟨h.1,h.2.trans hO⟩
   .rcases(Zb8 hp h.1 hE).mp h.2 with z|z
    .exact .inl z
    .exact .inr ⟨h.1,z⟩
end Lake
namespace Lake
open PySem PySem.Spec PyProof.Rows PySem.W
noncomputable def Zgk (es:List Int) (A B:List Nat) (i:Nat):List Int:=match A.getLast? with
 |some q=>(match B.head? with|some b=>es.set b i|none=>es).set i (q:Int)
 |none=>match B.head? with|some b=>es.set b i|none=>es
noncomputable def ZD (l:List Nat):List V:=l.map λq=>V.int (q:Nat)
theorem Zb9 (l:List Int) (a p:Nat) (v:Int) (h:p<l.length):(l.set a v).getD p 0=if a=p then v else l.getD p 0:=by
 rw[Yh,Yh]
 by_cases e:a=p
 .subst e;rw[Yd rfl,List.getElem?_set_self h];rfl
 .rw[Yb e,List.getElem?_set_ne e]
theorem ZmN (es:List Int) (A B:List Nat) (i:Nat):(Zgk es A B i).length=es.length:=by
 unfold Zgk
 cases A.getLast?<;>cases B.head?<;>simp
theorem ZiU (es:List Int) (A B:List Nat) (i p:Nat) (hp:p<es.length) (hb:∀b,B.head?=some b->b≠i):(Zgk es A B i).getD p 0=if p=i then (match A.getLast? with|some q=>(q:Int)|none=>es.getD i 0)else if B.head?=some p then (i:Int)else es.getD p 0:=by
 unfold Zgk
 cases hA:A.getLast? with
 |none =>
  cases hB:B.head? with
  |none =>
   by_cases e:p=i
   .rw[Yd e,e]
   .rw[Yb e,Yb (by simp)]
  |some b =>
   show(es.set b i).getD p 0=_
   rw[Zb9 _ _ _ _ hp]
   by_cases e:p=i
   .rw[Yd e,Yb (by rw[e];exact hb b hB),e]
   .rw[Yb e]
    by_cases e2:b=p
    .rw[Yd e2,Yd (by rw[e2])]
    .rw[Yb e2,Yb (by intro z;exact e2 (YM z))]
 |some q =>
  cases hB:B.head? with
  |none =>
   show(es.set i q).getD p 0=_
   rw[Zb9 _ _ _ _ hp]
   by_cases e:p=i
   .rw[Yd e,Yd e.symm]
   .rw[Yb e,Yb (λz=>e z.symm),Yb (by simp)]
  |some b =>
   show((es.set b i).set i q).getD p 0=_
   rw[Zb9 _ _ _ _ (by simpa using hp),Zb9 _ _ _ _ hp]
   by_cases e:p=i
   .rw[Yd e,Yd e.symm]
   .rw[Yb e,Yb (λz=>e z.symm)]
    by_cases e2:b=p
    .rw[Yd e2,Yd (by rw[e2])]
    .rw[Yb e2,Yb (by intro z;exact e2 (YM z))]
theorem ZrZ:∀(l:List Nat) (i lo:Nat),l.Pairwise (· < ·)->(∀q∈l,lo<=q/\q<i)->l.length+lo<=i\/l=[]
 |[],_,_,_,_=>.inr rfl
 |q::r,i,lo,h,hq=>by
  have h1:=hq q (by simp)
  have hr:=Jb.mp h
  rcases ZrZ r i (q+1) hr.2 (λx hx=>⟨hr.1 x hx,(hq x (by simp[hx])).2⟩)with z|z
  .left;simp;omega
  .left;rw[z];simp;omega
theorem ZY (l:List Nat):(ZD l).length=l.length:=by simp[ZD]
theorem Zej (a b:List Nat):ZD (a++b)=ZD a++ZD b:=by simp[ZD]
theorem Zg9 {l:List Nat}{j q:Nat} (h:l[j]?=some q):atI (ZD l) (j:Int)=some (V.int (q:Nat)):=by
 have hj:=(Yw.mp h).1
 have e:=(Yw.mp h).2
 rw[ZgC rfl (by rw[ZY];exact hj)]
 simp[ZD,e]
theorem Zha {n j:Nat} (h:j<n):ixN n (j:Int)=some j:=by
 unfold ixN
 rw[Yd ⋯,Yd ⋯];simp
noncomputable def Zqz (T:List Int) (p:Nat):List Int:=(Z9 T T.length (nth T p)).map λq=>((q:Nat):Int)
noncomputable def Zcm (T:List Int):Prop:=T.length<=40/\∃ns,Zp ns T
theorem ZmO (T:List Int):∀k a,(Z9 T k a).length<=k
 |0,_=>by simp[Z9]
 |k+1,a=>by
  rw[Z9]
  split
  .have:=ZmO T k (nth T a.toNat);simp;omega
  .simp
noncomputable def ZaY (T:List Int):Nat->Int->Int
 |0,a=>a
 |j+1,a=>if 0<=a/\a<T.length then ZaY T j (nth T a.toNat)else a
theorem ZkW (T:List Int):∀j a,0<=ZaY T j a->ZaY T j a<T.length->(Z9 T j a).length=j->Z9 T (j+1) a=Z9 T j a++[(ZaY T j a).toNat]/\ZaY T (j+1) a=nth T (ZaY T j a).toNat
 |0,a,h0,h1,_=>by
  have h0':0<=a:=h0
  have h1':a<T.length:=h1
  constructor
  .simp[Z9,ZaY,h0',h1']
  .simp[ZaY,h0',h1']
 |j+1,a,h0,h1,hl=>by
  rw[Z9]at hl
  by_cases z:0<=a/\a<T.length
  .rw[Yd z]at hl
   have e1:ZaY T (j+1) a=ZaY T j (nth T a.toNat):=by rw[ZaY,Yd z]
   rw[e1]at h0 h1
   have ih:=ZkW T j (nth T a.toNat) h0 h1 (by simpa using hl)
   constructor
   .rw[Z9,Yd z,ih.1,Z9.eq_def T (j+1) a]
    simp only[Yd z,e1];simp
   .rw[ZaY,Yd z,ih.2,e1]
  .rw[Yb z]at hl;simp at hl
theorem ZkX (T:List Int):∀j k a,j<=k->(Z9 T j a).length=j->¬ (0<=ZaY T j a/\ZaY T j a<T.length)->Z9 T k a=Z9 T j a
 |0,k,a,_,_,h=>by
  have h':¬ (0<=a/\a<T.length):=h
  cases k with
  |zero=>rfl
  |succ k=>rw[show Z9 T 0 a=[]from rfl,Z9,Yb h']
 |j+1,k,a,hk,hl,h=>by
  rw[Z9]at hl
  by_cases z:0<=a/\a<T.length
  .rw[Yd z]at hl
   rw[ZaY,Yd z]at h
   obtain⟨k',rfl⟩:∃k',k=k'+1:=⟨k-1,⋯⟩
   rw[Z9,Yd z,ZkX T j k' _ ⋯ (by simpa using hl) h,Z9,Yd z]
  .rw[Yb z]at hl;simp at hl
section
variable {X:Cx}
theorem op_inK {K:Frag} (hK:X.K=K):OpR X (compareOp .In) (rIn K false):=hK▸Zqn
end
theorem ZqA (xs:List Int):(xs.map V.int).all flatV=true:=by
 induction xs with
 |nil=>rfl
 |cons x r ih=>rw[YR,List.all_cons,ih];rfl
theorem ZuN (x:Int) (xs:List Int):inV (.int x) (xs.map V.int)=decide (x∈xs):=by
 induction xs with
 |nil=>rfl
 |cons y r ih =>
  have:inV (.int x) ((y::r).map V.int)=(decide (y=x)||inV (.int x) (r.map V.int)):=rfl
  rw[this,ih]
  by_cases z:y=x
  .simp[z]
  .have:¬ x=y:=λh=>z h.symm
   simp[z,this]
theorem ZaP {a b:TS}{D:Ends}{σ:St}{H:Hp} (Mid:St->Hp->Prop) (h1:∀R:St->Hp->Prop,(∀σ' H',Mid σ' H'->R σ' H')->a {D with nx:=R} σ H) (h2:∀σ' H',Mid σ' H'->b D σ' H'):tSeq a b D σ H:=h1 _ h2
theorem cut_to (xs:List V) (j:Nat):ZhL xs none (some (j:Int))=xs.take j:=by
 have h:¬ ((j:Int)<0):= ⋯
 unfold ZhL HT.sIx
 simp only[Yb h,List.drop_zero,Nat.sub_zero]
 rw[List.take_eq_take_iff]
 omega
end Lake
namespace Lake
open PySem PySem.Spec PyProof.Rows
structure CellsOf (cl:List (Str×Addr)) (n0:Nat) (cs:List (Str×Addr)) (h0 h:Heap) (done:List (Str×NameKind)):Prop where
 old:∀b o,h0.get? b=some o->h.get? b=some o
 sz:n0<=h.objs.size
 mem:∀p∈cs,p∈cl\/(n0<=p.2/\p.2<h.objs.size/\h.IsCell p.2 none)
 inj:∀p∈cs,∀q∈cs,n0<=p.2->p.2=q.2->p.1=q.1
 own:∀y∈done,y.2=.cell->∃c,cs.lookup y.1=some c/\n0<=c
 oth:∀x,(∀y∈done,y.2=.cell->y.1≠x)->cs.lookup x=cl.lookup x
theorem ZhT {M:Model}{A:Around}{E:Value->Shared->Prop}{cl:List (Str×Addr)}{n0:Nat}{h0:Heap} (hcl:∀p∈cl,p.2<n0):∀(names:List (Str×NameKind)) (cs:List (Str×Addr)) (done:List (Str×NameKind)) (s:Shared),CellsOf cl n0 cs h0 s.heap done ->
  wpAny M A (forIn names cs λ(x:Str×NameKind) (r:List (Str×Addr))=>(match x with
   |(name,kind)=>if (kind==NameKind.cell)=true then do
     let a <-alloc {cls:=.type "cell",data:=.cell none}
     pure (ForInStep.yield ((name,a)::r))
    else pure (ForInStep.yield r):Sem (ForInStep (List (Str×Addr))))) (λcs' s'=>∃h',s'={s with heap:=h'}/\CellsOf cl n0 cs' h0 h' (done++names)) E s
 |[],cs,done,s,I=>by
  rw[List.forIn_nil,List.append_nil]
  exact Ye ⟨s.heap,rfl,I⟩
 |(n,k)::r,cs,done,s,I=>by
  rw[List.forIn_cons]
  by_cases hk:k=.cell
  .subst hk
   simp only[beq_self_eq_true,if_true]
   refine Ya (Ya (wpAny_alloc (Ye ?_)))
   have hget:(s.heap.push {cls:=.type "cell",data:=.cell none}).get? s.heap.objs.size=some {cls:=.type "cell",data:=.cell none}:=YC _ rfl
   have I':CellsOf cl n0 ((n,s.heap.objs.size)::cs) h0 (s.heap.push {cls:=.type "cell",data:=.cell none}) (done++[(n,.cell)]):=by
    refine⟨λb o e=>Ym _ (I.old b o e),by rw[Heap.size_push];exact Nat.le_succ_of_le I.sz,λp hp=>?_,λp hp q hq hn e=>?_,λy hy hc=>?_,λx hx=>?_⟩
    .rcases Yk.mp hp with z|z
     .subst z
      exact .inr ⟨I.sz,by rw[Heap.size_push];exact Nat.lt_succ_self _,_,hget,rfl⟩
     .rcases I.mem p z with w|⟨w1,w2,o,w3,w4⟩
      .exact .inl w
      .exact .inr ⟨w1,by rw[Heap.size_push];exact YU w2,o,Ym _ w3,w4⟩
    .have lt:∀p∈cs,p.2<s.heap.objs.size:=λp hp=>by
      rcases I.mem p hp with w|w
      .exact YD (hcl p w) I.sz
      .exact w.2.1
     rcases Yk.mp hp with z|z<;>rcases Yk.mp hq with z'|z'
     .rw[z,z']
     .subst z;exact absurd (show s.heap.objs.size<s.heap.objs.size from(show s.heap.objs.size=q.2 from e)▸lt q z') (YA _)
     .subst z';exact absurd (show s.heap.objs.size<s.heap.objs.size from(show p.2=s.heap.objs.size from e)▸lt p z) (YA _)
     .exact I.inj p z q z' hn e
    .rcases YB.mp hy with z|z
     .obtain⟨c,e1,e2⟩:=I.own y z hc
      by_cases hx:y.1=n
      .exact⟨s.heap.objs.size,by rw[hx];simp,I.sz⟩
      .have hb:(y.1==n)=false:=by simpa using hx
       exact⟨c,by simp only[List.lookup_cons,hb];exact e1,e2⟩
     .have:y=(n,.cell):=by simpa using z
      subst this
      exact⟨s.heap.objs.size,by simp,I.sz⟩
    .have hxn:n≠x:=hx (n,.cell) (by simp) rfl
     have hb:(x==n)=false:=by simpa using hxn.symm
     simp only[List.lookup_cons,hb]
     exact I.oth x λy hy=>hx y (YY _ hy)
   refine thn (ZhT hcl r _ _ {s with heap:=s.heap.push {cls:=.type "cell",data:=.cell none}} I') λcs' s' ⟨h',e1,e2⟩=>⟨h',e1,?_⟩
   rw[YX]at e2
   exact e2
  .have e1:(k==NameKind.cell)=false:=by cases k<;>first|rfl|exact absurd rfl hk
   simp only[e1,Bool.false_eq_true,if_false]
   refine Ya (Ye ?_)
   have I':CellsOf cl n0 cs h0 s.heap (done++[(n,k)]):=by
    refine⟨I.old,I.sz,I.mem,I.inj,λy hy hc=>?_,λx hx=>I.oth x λy hy=>hx y (YY _ hy)⟩
    rcases YB.mp hy with z|z
    .exact I.own y z hc
    .have:y=(n,k):=by simpa using z
     subst this
     exact absurd hc hk
   refine thn (ZhT hcl r _ _ s I') λcs' s' ⟨h',e1,e2⟩=>⟨h',e1,?_⟩
   rw[YX]at e2
   exact e2
theorem Zn5 {M:Model}{A:Around}{E:Value->Shared->Prop}{s:Shared}{scope:Scope}{globals:Addr}{cl:List (Str×Addr)}{qual:Str}{around:Env}{Q:Env->Shared->Prop} (hcl:∀p∈cl,p.2<s.heap.objs.size)
  (h:∀cs h',CellsOf cl (s.heap.objs.size+1) cs (s.heap.push {cls:=.type "dict",data:=.dict #[]}) h' scope.names->Q {scope:=scope,locals:=s.heap.objs.size,globals:=globals,cells:=cs,qual:=qual,func:=none,code:=around.code,frame:=around.frame,builtins:=around.builtins} {s with heap:=h'}) :
  wpAny M A (newFunctionEnv scope globals cl [] qual none .none (some around)) Q E s:=by
 unfold newFunctionEnv
 refine Ya (wpAny_alloc ?_)
 refine Ya (thn (ZhT (cl:=cl) (n0:=s.heap.objs.size+1) (h0:=s.heap.push {cls:=.type "dict",data:=.dict #[]}) (λp hp=>YU (hcl p hp)) scope.names cl [] {s with heap:=s.heap.push {cls:=.type "dict",data:=.dict #[]}} ⟨λb o e=>e,by rw[Heap.size_push];exact Yc _,λp hp=>.inl hp,λp hp q hq hn e=>absurd (hcl p hp) (Nat.not_lt_of_le (Nat.le_of_succ_le hn)),λy hy=>(nomatch hy),λx hx=>rfl⟩) λcs s' ⟨h',e1,e2⟩=>?_)
 subst e1
 rw[List.nil_append]at e2
 exact Ya (Ye (Ye (h cs h' e2)))
noncomputable def Zbf (around scope:Scope):Bool :=
 scope.kind==.function&&around.kind==.function&&scope.names.all λy=>match y.2 with
  |.local=>scope.names.lookup y.1==some .local
  |.cell=>scope.names.lookup y.1==some .cell
  |.free=>(scope.names.lookup y.1==some .free)&&(around.names.lookup y.1==some .cell||around.names.lookup y.1==some .free)
  |_=>true
theorem Zhb {a s:Scope} (h:Zbf a s=true):s.kind=.function:=by
 simp only[Zbf,Bool.and_eq_true,beq_iff_eq]at h;exact h.1.1
theorem ZgF {a s:Scope} (h:Zbf a s=true) {y:Str×NameKind} (hy:y∈s.names):(match y.2 with
  |.local=>s.names.lookup y.1==some .local
  |.cell=>s.names.lookup y.1==some .cell
  |.free=>(s.names.lookup y.1==some .free)&&(a.names.lookup y.1==some .cell||a.names.lookup y.1==some .free)
  |_=>true)=true:=by
 simp only[Zbf,Bool.and_eq_true]at h
 exact List.all_eq_true.mp h.2 y hy
theorem Zkg {a s:Scope} (h:Zbf a s=true):∀y∈s.names,y.2=.local->s.names.lookup y.1=some .local:=λy hy e=>by
 have q:=ZgF h hy
 rw[e]at q
 exact beq_iff_eq.mp q
theorem ZlP {a s:Scope} (h:Zbf a s=true):∀y∈s.names,y.2=.cell->s.names.lookup y.1=some .cell:=λy hy e=>by
 have q:=ZgF h hy
 rw[e]at q
 exact beq_iff_eq.mp q
theorem Zey {a s:Scope} (h:Zbf a s=true):∀y∈s.names,y.2=.free->s.names.lookup y.1=some .free/\(a.names.lookup y.1=some .cell\/a.names.lookup y.1=some .free):=λy hy e=>by
 have q:=ZgF h hy
 rw[e]at q
 simp only[Bool.and_eq_true,Bool.or_eq_true,beq_iff_eq]at q
 exact q
noncomputable def ZaQ (X:Cx) (Nc:List Str) (scope:Scope) (cs:List (Str×Addr)) (C:Addr) (s2:Shared) (H2:Hp) (fp:List Addr):Cx :=
 {Zce X Nc scope cs C s2 H2 fp with fn:=λx=>scope.names.lookup x==some .cell}
theorem ZmP {env:Env}{scope:Scope} (h:∀y∈scope.names,y.2=.free->∃c,env.cells.lookup y.1=some c) :
  ∃cl,closureFor scope env=pure cl/\(∀p∈cl,env.cells.lookup p.1=some p.2)/\(∀y∈scope.names,y.2=.free->∃c,cl.lookup y.1=some c/\env.cells.lookup y.1=some c):=by
 obtain⟨cl,e,h1,h2,h3⟩:=Zew (env:=env) scope.names [] h
 have up:∀p∈cl,env.cells.lookup p.1=some p.2:=λp q=>by
  rcases h1 _ q with z|z
  .cases z
  .exact z
 refine⟨cl,?_,up,λy hy hf=>?_⟩
 .unfold closureFor
  simp only[bind_pure_comp]at e⊢
  rw[e]
  exact pure_bind _ _
 .obtain⟨c,hc⟩:=h3 y hy hf
  cases q:cl.lookup y.1 with
  |none=>exact absurd (List.lookup_eq_none_iff.mp q _ hc) (by simp)
  |some c'=>exact⟨c',rfl,up _ (PySem.mem_of_lookup q)⟩
section
variable {X:Cx}
theorem ZmQ {pins:List (Addr×Obj)}{σ:St}{H2:Hp}{s2:Shared}{Nc:List Str}{js:List (Option Nat)}{scope:Scope}{cs:List (Str×Addr)}{fp:List Addr}{h1:Heap}{tk:Nat}{D C:Addr}{oD:Obj}{m:Str->Option Value}
  (I:Inv X pins σ H2 s2) (hok:Zbf X.env.scope scope=true) (htk:takesC X.N Nc scope js 0=true) (up:∀x c,cs.lookup x=some c->X.env.cells.lookup x=some c\/(C<c/\h1.IsCell c none)) (hinj:∀x y c,cs.lookup x=some c->cs.lookup y=some c->x=y) (hown:∀y∈scope.names,y.2=.cell->∃c,cs.lookup y.1=some c/\C<c) (hfr:∀y∈scope.names,y.2=.free->∃c,cs.lookup y.1=some c/\X.env.cells.lookup y.1=some c)
  (hfp:∀b∈fp,FpOk X pins H2 b) (hfl:∀b∈fp,b<s2.heap.objs.size) (hD:D=s2.heap.objs.size) (hC:C=s2.heap.objs.size+1) (old:∀b o,s2.heap.get? b=some o->h1.get? b=some o) (hns:h1.Ns C m) (hoD:h1.get? D=some oD) (hdD:∀v,oD.data≠.cell v) :
  Inv (ZaQ X Nc scope cs C s2 H2 fp) [(D,oD)] (ZO js σ) H2 {s2 with heap:=h1,toks:=tk}:=by
 have leC:s2.heap.objs.size<=C:=by rw[hC];exact Y5 _
 have leD:s2.heap.objs.size<=D:=Ji hD.symm
 have kf:∀x,((compEnvC scope cs C X.env).kindOf x=some .cell\/(compEnvC scope cs C X.env).kindOf x=some .free)->∃c,cs.lookup x=some c:=λx hx=>by
  have:∃k,(compEnvC scope cs C X.env).kindOf x=some k/\(k=.cell\/k=.free):=hx.elim (λq=>⟨_,q,.inl rfl⟩) λq=>⟨_,q,.inr rfl⟩
  obtain⟨k,e,hk⟩:=this
  obtain⟨k',h1,h2⟩:=Z0 (show(scope.names.map _).lookup x=some k from e)
  have hm:=lookup_mem h1
  have:k'=.free\/k'=.cell:=by
   rcases h2 with q|q
   .subst q
    exact hk.symm
   .exact .inl q.1
  rcases this with z|z
  .subst z
   obtain⟨c,q,_⟩:=hfr _ hm rfl
   exact⟨c,q⟩
  .subst z
   obtain⟨c,q,_⟩:=hown _ hm rfl
   exact⟨c,q⟩
 have nC:∀c x,X.env.cells.lookup x=some c->c<s2.heap.objs.size:=λc x e=>by
  obtain⟨v,q⟩:=I.cell x c e
  exact q.lt
 have noB:∀b,b∈fp->b∉frs X.stack:=λb hb q=>by
  rcases Yk.mp (I.Zfp b q)with z|z
  .exact(hfp b hb).2.1 z
  .exact(hfp b hb).2.2.1 z
 have okX:(ZaQ X Nc scope cs C s2 H2 fp).Ok:=by
  refine⟨I.ok.mod,(show scope.kind=.function from Zhb hok),I.ok.glob,I.ok.blt,?_,λx y c e1 e2=>hinj x y c e1 e2,λx hx=>?_,(λx c e1 e2=>?_),I.ok.hd,I.ok.frames,.inl rfl,λb hb=>⟨?_,λx c e=>(up _ _ e).elim (λz=>(hfp b hb).2.2.2.2.1 x c z) λz=>Nat.ne_of_gt (Nat.lt_trans (YD (hfl b hb) leC) z.1)⟩,I.bs,Yr I.ok.bsz I.sz,λb o e hb=>?_,λb hb=>noB b hb,I.stack,I.Zg4⟩
  .show s2.heap.objs.size<=C;exact leC
  .exact kf x hx
  .have hm:=lookup_mem (beq_iff_eq.mp (show(scope.names.lookup x==some NameKind.cell)=true from e1))
   obtain⟨c',q1,q2⟩:=hown _ hm rfl
   have:c=c':=YM ((show cs.lookup x=some c from e2).symm.trans q1)
   rw[this]
   exact Yr leC (Y7 q2)
  .exact Yo (YD (hfl b hb) leC)
  .rcases(hfp b hb).2.2.2.1 with q|q
   .exact I.ok.noex b o e q
   .exact absurd (YD (Yl e) (Yr I.ok.bsz q)) (YA _)
 refine⟨okX,rfl,I.bare,Un.kept old,⟨m,hns,λi x v e1 e2 e3=>?_⟩,λx c e=>?_,I.hok.fresh leC,λx c e=>(up _ _ e).elim (λz=>I.freeC x c z) λz=>I.hok.fresh (Yr leC (Y7 z.1)),λp hp=>?_,I.hok.kept old,?_⟩
 .have e2':(ZO js σ)[i]?=some (some v):=e2
  unfold ZO at e2'
  rw[YE]at e2'
  cases q:js[i]? with
  |none=>rw[q]at e2';cases e2'
  |some j0 =>
   cases j0 with
   |none=>rw[q]at e2';cases e2'
   |some j =>
    rw[q]at e2'
    simp only[Option.map_some,Option.some.injEq]at e2'
    have e4:σ[j]?=some (some v):=by
     cases z:σ[j]? with
     |none=>rw[z]at e2';cases e2'
     |some o=>rw[z]at e2';simp only[Option.join_some]at e2';rw[e2']
    obtain⟨y,y1,y2,y3⟩:=Zeh htk q
    rw[Nat.zero_add]at y1
    have:x=y:=YM ((show Nc[i]?=some x from e1).symm.trans y1)
    subst this
    have hm:=lookup_mem y3
    obtain⟨c,c1,c2⟩:=hfr _ hm rfl
    have hk:=(Zey hok _ hm rfl).2
    obtain⟨m0,hn0,hl0⟩:=I.loc
    obtain⟨u,r,l⟩:=hl0 j x v y2 e4 (hk.elim (λz=>.inr (.inl z)) λz=>.inr (.inr z))
    refine⟨u,r,.inr ⟨?_,c,c1,?_⟩⟩
    .rcases e3 with z|z|z
     .obtain⟨k',w1,w2⟩:=Z0 (show(scope.names.map _).lookup x=some NameKind.local from z)
      rw[y3]at w1;cases w1
      rcases w2 with w|w
      .cases w
      .cases w.2
     .exact .inl z
     .exact .inr z
    .rcases l with⟨lk,_⟩|⟨_,c',c3,c4⟩
     .rcases hk with z|z
      .rw[show X.env.kindOf x=some .cell from z]at lk;cases lk
      .rw[show X.env.kindOf x=some .free from z]at lk;cases lk
     .rw[c2]at c3;cases c3
      obtain⟨oc,w1,w2⟩:=c4
      exact⟨oc,old _ _ w1,w2⟩
 .rcases up _ _ e with z|z
  .obtain⟨v,oc,w1,w2⟩:=I.cell x c z
   exact⟨v,oc,old _ _ w1,w2⟩
  .exact⟨_,z.2⟩
 .have:p=(D,oD):=by
   have hp':p∈([]++[(D,oD)]:List (Addr×Obj)):=hp
   simpa using hp'
  subst this
  refine⟨hoD,I.hok.fresh leD,(by show D≠C;rw[hD,hC];exact Yo (Nat.lt_succ_self _)),λhb=>?_,hdD⟩
  have hb':D∈frs X.stack:=hb
  obtain⟨_,o,ho,_⟩:=I.stack.mem hb'
  exact absurd (YD (Yl ho) leD) (YA _)
 .have:=ZcM htk
  show(ZO js σ).length=Nc.length
  unfold ZO;rw[Yi];omega
theorem ZkY {pins:List (Addr×Obj)}{σ:St}{H:Hp}{s:Shared}{tg elt iter:Expr}{ifs:List Expr}{scope:Scope}{pos:Pos}{wi:TI}{g:TG}{tt:TT}{te:TE}{Nc:List Str}{js:List (Option Nat)}{use:Option (Value->Sem Unit)}{Q:VK}{QQ:Value->Shared->Prop}
  (hc:X.calm=true) (hok:Zbf X.env.scope scope=true) (htk:takesC X.N Nc scope js 0=true) (hi:PI X tg iter wi)
  (hg:∀cl C s2 H2 fp,PG (ZaQ X Nc scope cl C s2 H2 fp) tg g) (ht:∀cl C s2 H2 fp,ZlG (ZaQ X Nc scope cl C s2 H2 fp) ifs tt) (he:∀cl C s2 H2 fp,PE (ZaQ X Nc scope cl C s2 H2 fp) elt te)
  (hs:∀x,foldedSetIterable iter X.env x=pure x) {L:List Nat} (ho:ZkO g L) (hL:(L.all λk=>js[k]?==some none)=true) (I:Inv X pins σ H s) (h:Zpq wi g tt te js σ H Q)
  (fin:∀(D C:Addr) (H' H2:Hp) (s2 s':Shared) (xs:List V) (m:Str->Option Value),Inv X pins σ H2 s2->H' C=none->C=D+1->D=s2.heap.objs.size->s'.heap.Ns C m->(∀h',Heap.SameBut C s'.heap h'->Inv X pins σ (upd H' D (.lst xs)) {s' with heap:=h'})->Q (.ref D) (upd H' D (.lst xs)) ->
   compPost (model X.prog X.w) X.A X.xe use QQ (.ref D) C (.ok .next) s') :
  wpAny (model X.prog X.w) X.A (comprehension (.ListComp elt [⟨tg,iter,ifs,0⟩] scope pos) scope X.env (firstIterPos [⟨tg,iter,ifs,0⟩] pos) (newList []) false (eval iter X.env) use) QQ X.xe s:=by
 have hcells:∀y∈scope.names,y.2=.free->∃c,X.env.cells.lookup y.1=some c:=λy hy hf=>I.ok.has y.1 (Zey hok y hy hf).2
 obtain⟨cl,hcl,upM,hfr0⟩:=ZmP hcells
 have hk:=Zhb hok
 refine wpAny_comprehension_free (use:=use) rfl hs hcl hk (Zkg hok) (thn (hi pins s σ H _ I h) λv s1 h1=>thn h1 λitv s2 h2=>?_)
 obtain⟨it,fp,tn,J,H2,e,I2,T,st2,f2,W,⟨m0,w0⟩,turn⟩:=h2
 subst e
 have clt:∀p∈cl,p.2<s2.heap.objs.size:=λp hp=>by
  obtain⟨v,q⟩:=I2.cell p.1 p.2 (upM p hp)
  exact q.lt
 refine wpAny_newObj_type (Zn5 (λp hp=>?_) λcs h₁ CO=>?_)
 .show p.2<(s2.heap.push _).objs.size
  rw[Heap.size_push];exact YU (clt p hp)
 dsimp only at CO⊢
 generalize hH2:s2.heap.push {cls:=.type "list",dict:=none,data:=.seq ([]:List Value).toArray}=HH at CO⊢
 have hC:HH.objs.size=s2.heap.objs.size+1:=by rw[<-hH2,Heap.size_push]
 have hcl':∀p∈cl,p.2<HH.objs.size:=λp hp=>by rw[hC];exact YU (clt p hp)
 have hns₁:h₁.Ns HH.objs.size (λ_=>none):=⟨_,#[],_,CO.old _ _ (YC _ rfl),rfl,λe he=>absurd he (by simp),λn=>rfl⟩
 have up:∀x c,cs.lookup x=some c->X.env.cells.lookup x=some c\/(HH.objs.size<c/\h₁.IsCell c none):=λx c e=>by
  rcases CO.mem _ (PySem.mem_of_lookup e)with z|z
  .exact .inl (upM _ z)
  .exact .inr ⟨z.1,z.2.2⟩
 have hinj:∀x y c,cs.lookup x=some c->cs.lookup y=some c->x=y:=λx y c e1 e2=>by
  have m1:=PySem.mem_of_lookup e1
  have m2:=PySem.mem_of_lookup e2
  rcases CO.mem _ m1 with z|z
  .rcases CO.mem _ m2 with z'|z'
   .exact I2.ok.inj x y c (upM _ z) (upM _ z')
   .exact absurd (hcl' _ z) (Nat.not_lt_of_le (Nat.le_of_succ_le z'.1))
  .exact CO.inj _ m1 _ m2 z.1 rfl
 have hfr:∀y∈scope.names,y.2=.free->∃c,cs.lookup y.1=some c/\X.env.cells.lookup y.1=some c:=λy hy hf=>by
  obtain⟨c,q1,q2⟩:=hfr0 y hy hf
  refine⟨c,?_,q2⟩
  rw[CO.oth y.1 λy' hy' hc' z=>?_]
  .exact q1
  .have w1:=ZlP hok y' hy' hc'
   have w2:=(Zey hok y hy hf).1
   rw[z,w2]at w1;cases w1
 have hfl:∀b∈fp,b<s2.heap.objs.size:=λb hb=>by
  obtain⟨o,ho,_⟩:=T.obj 0 _ st2 b hb
  exact Yl ho
 have hDC:s2.heap.objs.size≠HH.objs.size:=by rw[hC];exact Yo (Nat.lt_succ_self _)
 have old:∀b o,s2.heap.get? b=some o->h₁.get? b=some o:=λb o e=>CO.old b o (Ym _ (hH2▸Ym _ e))
 have hacc:h₁.get? s2.heap.objs.size=some {cls:=.type "list",dict:=none,data:=.seq ([]:List Value).toArray}:=CO.old _ _ (Ym _ (hH2▸YC _ rfl))
 have I4:=ZmQ (Nc:=Nc) (js:=js) (tk:=s2.toks) I2 hok htk up hinj (λy hy hc=>CO.own y hy hc) hfr f2 hfl rfl hC old hns₁ hacc (by intro v z;cases z)
 have st4:tn 0 h₁:=T.keep _ _ _ st2 λb _ o e=>old b o e
 generalize hXc:ZaQ X Nc scope cs HH.objs.size s2 H2 fp=Xc at I4
 have hXA:Xc.A=X.A:=by rw[<-hXc];rfl
 have hXe:Xc.env=compEnvC scope cs HH.objs.size X.env:=by rw[<-hXc];rfl
 have hXp:Xc.prog=X.prog:=by rw[<-hXc];rfl
 have hXw:Xc.w=X.w:=by rw[<-hXc];rfl
 have hXx:Xc.xe=λ_ _=>False:=by rw[<-hXc];rfl
 have hXk:Xc.K=X.K:=by rw[<-hXc];rfl
 have hXcalm:Xc.calm=true:=by rw[<-hXc];exact hc
 have fpok:∀{pl:List (Addr×Obj)}{H':Hp},(∀p∈pl,s2.heap.objs.size<=p.1)->(∀b∈fp,H' b=none)->∀b∈fp,FpOk Xc pl H' b:=λ{pl H'} hpl hn b hb=>by
  have k1:b≠HH.objs.size:=Yo (by rw[hC];exact YU (hfl b hb))
  have k2:b∉frs X.stack:=λq=>by
   rcases Yk.mp (I2.Zfp b q)with z|z
   .exact(f2 b hb).2.1 z
   .exact(f2 b hb).2.2.1 z
  rw[<-hXc]
  refine⟨hn b hb,k1,k2,.inl hb,λx c e=>(up _ _ e).elim (λz=>(f2 b hb).2.2.2.2.1 x c z) λz=>Nat.ne_of_gt (Nat.lt_trans (by rw[hC];exact YU (hfl b hb)) z.1),λp hp=>?_⟩
  have hp':p∈pl:=by simpa[ZaQ,Zce]using hp
  exact Nat.ne_of_gt (YD (hfl b hb) (hpl p hp'))
 have gX:PG Xc tg g:=hXc▸hg cs HH.objs.size s2 H2 fp
 have tX:ZlG Xc ifs tt:=hXc▸ht cs HH.objs.size s2 H2 fp
 have eX:PE Xc elt te:=hXc▸he cs HH.objs.size s2 H2 fp
 have hs0:Xc.s₀=s2:=by rw[<-hXc];rfl
 have hh0:Xc.H₀=H2:=by rw[<-hXc];rfl
 have hfs:Xc.fs=frs X.stack:=by rw[<-hXc];rfl
 have hex:Xc.ex=fp:=by rw[<-hXc];rfl
 have loop:codeAny (model X.prog X.w) X.A (.compLoop (.ListComp elt [⟨tg,iter,ifs,0⟩] scope pos) 0 (.ref it) (.ref s2.heap.objs.size) (compEnvC scope cs HH.objs.size X.env)) (compPost (model X.prog X.w) X.A X.xe use QQ (.ref s2.heap.objs.size) HH.objs.size)
   {s2 with heap:=h₁,toks:=s2.toks}:=by
  refine Zft (λn s'=>∃i acc its nn H',Inv Xc [(s2.heap.objs.size,{cls:=.type "list",dict:=none,data:=.seq (its:List Value).toArray nn})] (ZO js σ) H' s'/\Vals acc its/\acc.length<=sizeLine/\tn i s'.heap/\(∀b∈fp,H' b=none)/\W i n acc H') ?_ m0
   ⟨0,[],[],0,H2,I4,.nil,Yq _,st4,λb hb=>(f2 b hb).1,w0⟩
  rintro n s3 ⟨i,acc,its,nn,H3,I3,va,hlen,st3,fr3,w3⟩
  have pg:∀p∈([(s2.heap.objs.size,{cls:=.type "list",dict:=none,data:=.seq its.toArray nn})]:List (Addr×Obj)),s2.heap.objs.size<=p.1:=λp hp=>by
   simp only[Yk,List.not_mem_nil,or_false]at hp
   subst hp;exact Yc _
  rcases turn i n acc H3 w3 with⟨stop,hl,qn⟩|⟨go,hl,step⟩
  .have q:=T.done Xc hXp hXw hXk hXcalm i _ s3 (ZO js σ) H3 (λ_ _=>False) I3 (fpok pg fr3) st3 stop
   rw[hXA]at q
   refine thn q λr s4 hz=>?_
   obtain⟨hr,I5⟩:=hz
   subst hr
   have hpin:=I5.pin _ (Yn _ (.head _))
   obtain⟨m5,hn5,_⟩:=I5.loc
   rw[hXe]at hn5
   refine fin _ _ H3 H2 s2 s4 acc m5 I2 (by have:=I5.free;rw[hXe]at this;exact this) hC rfl hn5 (λh' hsb=>?_) (qn _ hpin.2.1)
   have same:∀b o,b≠HH.objs.size->s4.heap.get? b=some o->h'.get? b=some o:=λb o hb e=>hsb.extBut b o hb e
   have un:=I5.base
   rw[hfs,hex,hh0,hs0]at un
   have lt:∀b o,s2.heap.get? b=some o->b<s2.heap.objs.size:=λb o e=>Yl e
   have neC:∀b o,s2.heap.get? b=some o->b≠HH.objs.size:=λb o e=>Yo (by rw[hC];exact YU (lt b o e))
   have neD:∀b o,s2.heap.get? b=some o->b≠s2.heap.objs.size:=λb o e=>Yo (lt b o e)
   have trkC:∀b o,H3 b=some o->b≠HH.objs.size:=λb o e z=>by
    have:=I5.free;rw[hXe]at this;rw[z,show H3 HH.objs.size=none from this]at e;cases e
   refine I2.Zrx (s':={s4 with heap:=h'}) (ch:=fp) (I5.os.trans (by rw[hs0])) ⟨λb o e n hb hx=>same _ _ (neC b o e) (un.keep b o e n hb hx),λb o e n hb hx=>?_,λb o e n hx=>by rw[Zh (neD b o e)];exact un.free b o e n hx,λb o e hx=>?_,λb xs e=>?_,λb o u e=>?_,λb ps e=>?_⟩ (λa o e=>?_) I5.bare λb hb=>⟨(f2 b hb).2.2.2.1,(f2 b hb).2.1,(f2 b hb).2.2.2.2.1,(f2 b hb).2.2.2.2.2⟩
   .obtain⟨sl,z⟩:=un.slot b o e n hb hx
    exact⟨sl,same _ _ (neC b o e) z⟩
   .obtain⟨o',z⟩:=un.there b o e hx
    exact⟨o',same _ _ (neC b o e) z⟩
   .rw[Zh (Yo (I2.hok.lt e))];exact un.tups b xs e
   .rw[Zh (Yo (I2.hok.lt e))];exact un.frzs b o u e
   .obtain⟨more,z⟩:=un.tbls b ps e
    exact⟨more,by rw[Zh (Yo (I2.hok.lt e))];exact z⟩
   .by_cases ha:a=s2.heap.objs.size
    .subst ha
     rw[Zc]at e;cases e
     exact⟨hl,its,nn,va,same _ _ hDC hpin.1⟩
    .rw[Zh ha]at e
     have q:=I5.hok a o e
     rw[hXp,hXw]at q
     refine q.ZiE (λb u hb z=>same b u ?_ z) (λb z=>by rw[Zh];exact z;intro y;subst y;rw[hpin.2.1]at z;cases z) (λb xs z=>by rw[Zh];exact z;intro y;subst y;rw[hpin.2.1]at z;cases z) λb o u z=>by rw[Zh];exact z;intro y;subst y;rw[hpin.2.1]at z;cases z
     rcases hb with hb|hb
     .subst hb;exact trkC _ _ e
     .exact trkC _ _ hb
  .have q:=T.item Xc hXp hXw hXk hXcalm i _ s3 (ZO js σ) H3 (λ_ _=>False) I3 (fpok pg fr3) st3 go
   rw[hXA]at q
   refine thn q λr s4 hz=>?_
   obtain⟨u,hr,h4⟩:=hz
   subst hr
   refine thn h4 λ_ s5 hz=>?_
   obtain⟨x,H5,I5,r5,y5,st5,fr5⟩:=hz
   have I5':=I5.pinned (fpok pg fr5) (T.obj _ _ st5)
   have again:∀{σ7:St}{H7:Hp}{s7:Shared}{acc7:List V}{its7:List Value}{n7:Nat}{m:Nat},Inv Xc ([(s2.heap.objs.size,{cls:=.type "list",dict:=none,data:=.seq its7.toArray n7})]++Zcc fp s5.heap) σ7 H7 s7->Vals acc7 its7->acc7.length<=sizeLine->W (i+1) m acc7 H7->σ7.length=(ZO js σ).length->(∀(k:Nat) v,(ZO js σ)[k]?=some (some v)->σ7[k]?=some (some v)) ->
     ∃i acc its nn H',Inv Xc [(s2.heap.objs.size,{cls:=.type "list",dict:=none,data:=.seq (its:List Value).toArray nn})] (ZO js σ) H' s7/\Vals acc its/\acc.length<=sizeLine/\tn i s7.heap/\(∀b∈fp,H' b=none)/\W i m acc H':=λ{σ7 H7 s7 acc7 its7 n7 m} I7 v7 l7 w7 hl7 hw7=>by
    refine⟨i+1,acc7,its7,n7,H7,(I7.weak hl7.symm hw7).Zef,v7,l7,T.keep _ _ _ st5 λb hb o e=>(I7.pin (b,o) (Yn _ (Yn _ (ZbC hb e)))).1,λb hb=>?_,w7⟩
    obtain⟨o,e,d⟩:=T.obj _ _ st5 b hb
    exact(I7.pin (b,o) (Yn _ (Yn _ (ZbC hb e)))).2.1
   have keep:∀{σ6:St},ZnU L (ZO js σ) σ6->σ6.length=(ZO js σ).length/\∀(k:Nat) v,(ZO js σ)[k]?=some (some v)->σ6[k]?=some (some v):=λ{σ6} hk=>⟨hk.1,λk v e=>by
    rw[hk.2 k]
    .exact e
    .intro z
     have q:=List.all_eq_true.mp hL k z
     simp only[beq_iff_eq]at q
     unfold ZO at e
     rw[YE,q]at e
     cases e⟩
   have q6:=gX _ s5 (ZO js σ) H5 x u _ I5' r5 (ho _ _ _ _ _ (fun σ' H' kk z=>And.intro kk z) (step x H5 y5))
   rw[hXe,hXA,hXp,hXw,hXx]at q6
   refine thn q6 λ_ s6 hz=>?_
   obtain⟨σ6,H6,I6,k6,q6⟩:=hz
   obtain⟨kl,kv⟩:=keep k6
   have q7:=tX _ s6 σ6 H6 _ I6 q6
   rw[hXe,hXA,hXp,hXw,hXx]at q7
   refine thn q7 λb s7 hz=>?_
   obtain⟨H7,I7,q7⟩:=hz
   cases b with
   |false =>
    obtain⟨m',hm,w7⟩:=q7
    exact⟨m',hm,again I7 va hlen w7 kl kv⟩
   |true =>
    have q8:=eX _ s7 σ6 H7 _ I7 q7
    rw[hXe,hXA,hXp,hXw,hXx]at q8
    refine thn q8 λy s8 hz=>?_
    obtain⟨v8,H8,I8,r8,m',hm,w8⟩:=hz
    have pinD:=I8.pin _ (Yn _ (YY _ (.head _)))
    have hnf:∀p∈Zcc fp s5.heap,p.1≠s2.heap.objs.size:=λp hp=>by
     obtain⟨z,_⟩:=ZhJ hp
     exact Yo (hfl _ z)
    have va':=va.length
    refine call_meets F.slot_list_append ⟨_,pinD.1,rfl⟩ F.entry_list_append (F.args_list_append_2 _ _) (PySem.list_append s2.heap.objs.size its.toArray nn y (by rw[Ys];omega)) ⟨pinD.1,?_⟩
    have e9:=PySem.IsL.update pinD.1 (λa=>a.push y)
    have e9':its.toArray.push y=(its++[y]).toArray:=by simp
    dsimp only at e9
    rw[e9']at e9
    have I8':Inv Xc (Zcc fp s5.heap) σ6 H8 s8:=I8.ZG λp hp=>I8.pin p (Yn _ (Yn _ hp))
    have hXpn:Xc.pn=[]:=by rw[<-hXc];rfl
    have hXs:s2.heap.objs.size∉frs X.stack:=by rw[<-hfs];exact pinD.2.2.2.1
    have I9:=I8'.turned (t':=s8.toks) (it:=s2.heap.objs.size) (h':=s8.heap.update s2.heap.objs.size (Obj.mapSeq λa=>a.push y)) (λb o hb e=>(Heap.get?_update_other s8.heap _ (Ne.symm hb)).trans e) pinD.2.1 pinD.2.2.1
     (.inr (by rw[hs0];exact Yc _)) (λx c e=>by
      rw[hXe]at e
      intro z
      rcases up _ _ e with y|y
      .obtain⟨v,q⟩:=I2.cell x c y
       exact absurd q.lt (by rw[z];exact YA _)
      .have:=y.1
       rw[z,hC]at this
       exact absurd this (Nat.not_lt_of_le (Y5 _))) (λp hp=>by rw[hXpn,List.nil_append]at hp;exact hnf p hp)
    have I10:=I9.ZG (pins':=[(s2.heap.objs.size,{cls:=.type "list",dict:=none,data:=.seq (its++[y]).toArray _})]++Zcc fp s5.heap) λp hp=>by
     rcases YB.mp hp with z|z
     .simp only[Yk,List.not_mem_nil,or_false]at z
      subst z
      exact⟨e9,pinD.2.1,pinD.2.2.1,pinD.2.2.2.1,by intro v z;cases z⟩
     .exact I9.pin p (Yn _ z)
    exact⟨m',hm,again I10 (va.append (.cons r8 .nil)) (by rw[YS,List.length_singleton];omega) w8 kl kv⟩
 exact codeAny_compStart_list loop (T.self _ 0 _ _ _ st4 loop)
theorem Z2 {tg elt iter:Expr}{ifs:List Expr}{scope:Scope}{pos:Pos}{wi:TI}{g:TG}{tt:TT}{te:TE} (Nc:List Str) (js:List (Option Nat)) {L:List Nat}
  (hc:X.calm=true) (hok:Zbf X.env.scope scope=true) (htk:takesC X.N Nc scope js 0=true) (hi:PI X tg iter wi)
  (hg:∀cl C s2 H2 fp,PG (ZaQ X Nc scope cl C s2 H2 fp) tg g) (ht:∀cl C s2 H2 fp,ZlG (ZaQ X Nc scope cl C s2 H2 fp) ifs tt) (he:∀cl C s2 H2 fp,PE (ZaQ X Nc scope cl C s2 H2 fp) elt te)
  (ho:ZkO g L) (hL:(L.all λk=>js[k]?==some none)=true:=by rfl) (hs:∀x,foldedSetIterable iter X.env x=pure x:=by ac_nf):PE X (.ListComp elt [⟨tg,iter,ifs,0⟩] scope pos) (Zpq wi g tt te js):=by
 intro pins s σ H Q I h
 rw[eval_ListComp]
 exact ZkY (use:=none) hc hok htk hi hg ht he hs ho hL I h λD C H' H2 s2 s' xs m I2 hHC e1 e2 hn hI q=>⟨m,hn,λh' hsb=>⟨.ref D,_,hI h' hsb,rfl,q⟩⟩
theorem Zas {i:Nat}{x:Str}{pos' spos:Pos}{tg elt iter:Expr}{ifs:List Expr}{scope:Scope}{pos:Pos}{wi:TI}{g:TG}{tt:TT}{te:TE} (Nc:List Str) (js:List (Option Nat)) {L:List Nat}
  (hN:X.N.Nodup) (hxi:X.N[i]?=some x) (hx:Loc X.env.scope x)
  (hc:X.calm=true) (hok:Zbf X.env.scope scope=true) (htk:takesC X.N Nc scope js 0=true) (hi:PI X tg iter wi)
  (hg:∀cl C s2 H2 fp,PG (ZaQ X Nc scope cl C s2 H2 fp) tg g) (ht:∀cl C s2 H2 fp,ZlG (ZaQ X Nc scope cl C s2 H2 fp) ifs tt) (he:∀cl C s2 H2 fp,PE (ZaQ X Nc scope cl C s2 H2 fp) elt te)
  (ho:ZkO g L) (hL:(L.all λk=>js[k]?==some none)=true:=by rfl) (hs:∀x,foldedSetIterable iter X.env x=pure x:=by ac_nf)
  (hsw:swapsWith (.ListComp elt [⟨tg,iter,ifs,0⟩] scope pos) (some (.Name x pos')) spos.line X.env=pure true:=by rfl)
  (hf:X.fn x=true\/X.env.scope.names.lookup x=some .local:=by and_intros) :
  PS X (.Assign [.Name x pos'] (.ListComp elt [⟨tg,iter,ifs,0⟩] scope pos) spos) (tAsg (Zpq wi g tt te js) (Zgl i)):=by
 intro pins s σ H D I h
 rw[exec_Assign_Name_used _ _ _ _ hsw]
 refine Ya (wpAny_standAt (Ya ?_))
 show wpAny _ _ (comprehension _ _ _ _ _ _ _ _ >>= _) _ _ _
 refine Ya (thn (Q:=λ_ s'=>∃σ' H',Inv X pins σ' H' s'/\D.nx σ' H') (ZkY (Q:=λv H1=>Zgl i v σ H1 D.nx) (use:=some (assign (.Name x pos') X.env)) hc hok htk hi hg ht he hs ho hL I h ?_) λ_ s' ⟨σ',H',I',q⟩=>Ye (Ye ⟨σ',H',I',q⟩))
 intro D' C H' H2 s2 s' xs m I2 hHC e1 e2 hn hI q
 obtain⟨oC,es,ep,hoC,hdC,hrest⟩:=id hn
 have leC:s2.heap.objs.size<=C:=by rw[e1,e2];exact Y5 _
 have ltC:s2.heap.objs.size<C:=by rw[e1,e2];exact Nat.lt_succ_self _
 have neDC:C≠D':=by rw[e2];exact Nat.ne_of_gt ltC
 have fresh:s2.heap.get? C=none:=by
  cases e:s2.heap.get? C with
  |none=>rfl
  |some o=>exact absurd (YD (Yl e) leC) (YA _)
 have neL:C≠X.env.locals:=Nat.ne_of_gt (YD I2.lt leC)
 have nfs:C∉X.fs:=I2.Zmx leC
 have ncl:∀x c,X.env.cells.lookup x=some c->c≠C:=λx c e z=>by
  obtain⟨v,q⟩:=I2.cell x c e
  exact absurd (YD q.lt leC) (by rw[z];exact YA _)
 have npn:∀p∈X.pn++pins,p.1≠C:=λp hp z=>by
  have:=(I2.pin p hp).1
  rw[z,fresh]at this;cases this
 have hH:(upd H' D' (HO.lst xs)) C=none:=by rw[Zh neDC];exact hHC
 have I0:=hI s'.heap ZlH
 have I1:Inv X (pins++[(C,oC)]) σ (upd H' D' (.lst xs)) s':=I0.ZG λp hp=>by
  rcases YB.mp hp with z|z
  .exact I0.pin p (Yn _ z)
  .simp only[Yk,List.not_mem_nil,or_false]at z
   subst z
   exact⟨hoC,hH,neL,nfs,λv z=>by rw[hdC]at z;cases z⟩
 show wpAny _ _ _ _ _ _
 refine thn (Zm (X:=X) (i:=i) hN hxi hx hf (pins++[(C,oC)]) s' σ _ (.ref D') (.ref D') _ I1 rfl q) λ_ s3 ⟨σ3,H3,I3,q3⟩=>?_
 have pC:=I3.pin (C,oC) (Yn _ (Yn _ (.head _)))
 refine⟨m,⟨oC,es,ep,pC.1,hdC,hrest⟩,λh' hsb=>⟨σ3,H3,?_,q3⟩⟩
 exact I3.Zef.turned (t':=s3.toks) (it:=C) (λb o hb e=>hsb.extBut b o hb e) pC.2.1 neL (.inr (Yr I2.sz leC)) ncl npn
end
end Lake
namespace Lake
open PySem PySem.Spec PyProof.Rows PySem.W
noncomputable def CF (n:Nat) (P:Nat->Bool) (vals:Nat->V) (H1:Hp) (i m:Nat) (acc:List V) (H:Hp):Prop:=m=n-i/\i<=n/\acc=((List.range i).filter P).map vals/\Zd H1 H
theorem CF.take {n:Nat}{P:Nat->Bool}{vals:Nat->V}{H1 H:Hp}{i:Nat}{v:V} (hi:i<n) (hP:P i=true) (hv:v=vals i) (s:Zd H1 H):∃m',m'<n-i/\CF n P vals H1 (i+1) m' (((List.range i).filter P).map vals++[v]) H :=
 ⟨n-(i+1),⋯,rfl,hi,by rw[Ja,List.filter_append,Jf,hv];simp[hP],s⟩
theorem CF.skip {n:Nat}{P:Nat->Bool}{vals:Nat->V}{H1 H:Hp}{i:Nat} (hi:i<n) (hP:P i=false) (s:Zd H1 H):∃m',m'<n-i/\CF n P vals H1 (i+1) m' (((List.range i).filter P).map vals) H :=
 ⟨n-(i+1),⋯,rfl,hi,by rw[Ja,List.filter_append,Jf];simp[hP],s⟩
theorem Zaw {J:It}{n:Nat}{H1:Hp}{g:TG}{tt:TT}{te:TE}{σ0:St}{Q:VK} (P:Nat->Bool) (vals:Nat->V) (hn:n<sizeLine) (hgo:∀i H,Zd H1 H->i<n->J.go i H) (hstop:∀H,Zd H1 H->J.stop n H)
  (hb:∀i x H H',i<n->Zd H1 H->J.yld i H x H'->g x σ0 H' fun σ2 H2=>tt σ2 H2 λb H3=>if b=true then te σ2 H3 λv H4=>∃m',m'<n-i/\CF n P vals H1 (i+1) m' (((List.range i).filter P).map vals++[v]) H4 else ∃m',m'<n-i/\CF n P vals H1 (i+1) m' (((List.range i).filter P).map vals) H3)
  (hk:∀l H',Zd H1 H'->H' l=none->Q (.ref l) (upd H' l (.lst (((List.range n).filter P).map vals)))) :
  Zjf J g tt te σ0 Q H1:=by
 refine⟨CF n P vals H1,⟨n,rfl,Yq _,rfl,Zd.refl _⟩,?_⟩
 rintro i m acc H ⟨rfl,hi,rfl,s⟩
 have hlen:(((List.range i).filter P).map vals).length<=n:=by
  rw[Yi]
  have:=Jc P (List.range i)
  rw[Y6]at this
  omega
 by_cases h:i<n
 .exact .inr ⟨hgo i H s h,⋯,λx H' y=>hb i x H H' h s y⟩
 .have:i=n:= ⋯
  subst this
  exact .inl ⟨hstop H s,⋯,λp hp=>hk p H s hp⟩
theorem ZL.over {f:Nat->Int}{a b lo p:Nat} (h:ZL f a b lo) (h1:a<=p) (h2:p<=b) (hne:p≠lo):Over f lo p:=by
 obtain⟨l1,l2,l3,l4⟩:=h
 rcases Nat.lt_or_gt_of_ne hne with z|z
 .exact .inr ⟨z,λr r1 r2=>l3 r ⋯ r2⟩
 .exact .inl ⟨z,λr r1 r2=>l4 r r1 ⋯⟩
theorem Zr0 {ns T:List Int}{g:Nat->Int} (hT:Zp ns T) (hg:∀q p,q<ns.length->p<ns.length->Over (nth ns) q p->(q<p->g q<=g p)/\(p<q->g q<g p)):∀p,p<ns.length->Zx g ns.length p (T.getD p 0):=by
 intro p hp
 have pv:∀q,Zae (nth ns) p q->Zae g p q:=λq h=>by
  refine⟨h.1,(hg q p (by have:=h.1;omega) hp (.inl ⟨h.1,λr r1 r2=>?_⟩)).1 h.1,λr r1 r2=>(hg p r hp ⋯ (.inr ⟨r2,λs s1 s2=>h.2.2 s ⋯ s2⟩)).2 r2⟩
  by_cases z:r=p
  .rw[z];exact h.2.1
  .have:=h.2.2 r r1 ⋯;have:=h.2.1;omega
 have nx:∀r,Z8 (nth ns) ns.length p r->Z8 g ns.length p r:=λq h=>by
  refine⟨h.1,h.2.1,(hg q p h.2.1 hp (.inr ⟨h.1,λr r1 r2=>?_⟩)).2 h.1,λs s1 s2=>(hg p s hp (by have:=h.2.1;omega) (.inl ⟨s1,λr r1 r2=>h.2.2.2 r r1 ⋯⟩)).1 s1⟩
  by_cases z:r=p
  .rw[z];exact h.2.2.1
  .have:=h.2.2.2 r ⋯ r2;have:=h.2.2.1;omega
 have np:ZcO (nth ns) p->ZcO g p:=λh q hq=>(hg p q hp ⋯ (.inr ⟨hq,λr r1 r2=>h r r2⟩)).2 hq
 have nn:ZbE (nth ns) ns.length p->ZbE g ns.length p:=λh r r1 r2=>(hg p r hp r2 (.inl ⟨r1,λs s1 s2=>h s s1 ⋯⟩)).1 r1
 have hE:Zx (nth ns) ns.length p (T.getD p 0):=hT.2 p hp
 rcases hE with⟨h1,h2,h⟩|⟨q,h1,h2,h⟩|⟨r,h1,h2,h⟩|⟨q,r,h1,h2,h⟩
 .exact .inl ⟨np h1,nn h2,h⟩
 .exact .inr (.inl ⟨q,pv q h1,nn h2,h⟩)
 .exact .inr (.inr (.inl ⟨r,np h1,nx r h2,h⟩))
 .refine .inr (.inr (.inr ⟨q,r,pv q h1,nx r h2,?_⟩))
  rw[h]
  have hq:q<ns.length:=by have:=h1.1;omega
  have hqr:q<r:=by have:=h1.1;have:=h2.1;omega
  by_cases z:nth ns q<=nth ns r
  .have:=(hg q r hq h2.2.1 (.inl ⟨hqr,λs s1 s2=>by
    by_cases y:s=r
    .rw[y];exact z
    .by_cases y2:s=p
     .rw[y2];exact h1.2.1
     .have:=h1.2.1
      by_cases y3:s<p
      .have:=h1.2.2 s s1 y3;omega
      .have:=h2.2.2.2 s ⋯ ⋯;omega⟩)).1 hqr
   rw[Yd z,Yd ⋯]
  .have:=(hg r q h2.2.1 hq (.inr ⟨hqr,λs s1 s2=>by
    have:=h1.2.1;have:=h2.2.2.1
    by_cases y:s=q
    .rw[y];omega
    .by_cases y2:s=p
     .rw[y2];omega
     .by_cases y3:s<p
      .have:=h1.2.2 s ⋯ y3;omega
      .have:=h2.2.2.2 s ⋯ ⋯;omega⟩)).2 hqr
   rw[Yb z,Yb ⋯]
theorem atI_m1 {xs:List V}{v:V} (h:0<xs.length) (hv:xs[xs.length-1]?=some v):atI xs (-1)=some v:=by
 have e:ixN xs.length (-1)=some (xs.length-1):=by
  unfold ixN
  rw[Yb ⋯,Yd ⋯]
  congr 1
  omega
 unfold atI
 rw[e]
 exact hv
end Lake
namespace HT
open PySem PyProof.Rows
section
open PySem.SeqAt
open PySem.AutoSeq1 (wpAny_loadPart')
open PySem.MeetsSeq PySem.MeetsSeq2 PySem.MeetsSeq3
variable {prog:Program}{w:World}{A:Around}{E:Value->Shared->Prop}{s:Shared}
end
end HT
namespace Lake
open PySem PySem.Spec PyProof.Rows PySem.W
section
variable {X:Cx}{tg l:Expr}{tl:TE}
theorem Zr1 {K:Frag} (hK:X.K=K) (hl:PE X l tl):PI X tg l (Zpm K tl):=hK▸Zam hl
theorem ZuO {K:Frag} (hK:X.K=K) (hl:PE X l tl):PI X tg l (iTup K tl):=hK▸ZnM hl
end
theorem ZmR (T:List Int):∀k a,(Z9 T k a).length<k->Z9 T (k+1) a=Z9 T k a
 |0,_,h=>⋯
 |k+1,a,h=>by
  rw[Z9]at h⊢
  by_cases z:0<=a/\a<T.length
  .rw[Yd z]at h⊢
   rw[ZmR T k _ (by simpa using h),Z9,Yd z]
  .rw[Yb z]at h⊢
   rw[Z9,Yb z]
noncomputable def way (T:List Int) (p:Nat):List Nat:=Z9 T T.length (nth T p)
theorem ZlQ {T:List Int}{p:Nat} (h:nth T p=-1):way T p=[]:=by
 unfold way
 rw[h]
 cases T.length with
 |zero=>rfl
 |succ k=>rw[Z9,Yb ⋯]
theorem ZcQ {ns T:List Int} (hT:Zp ns T) {p q:Nat} (hp:p<ns.length) (h:nth T p=q):way T p=q::way T q:=by
 have hE:Zx (nth ns) ns.length p (q:Int):=h▸hT.2 p hp
 have hq:q<ns.length:=by
  rcases ZcP hp hE with z|⟨q',e,z,_⟩<;>omega
 have hd:=ZhS hp hE
 have hl:=Zn4 (f:=nth ns) hp
 unfold way
 rw[h,hT.1]
 obtain⟨k,hk⟩:∃k,ns.length=k+1:=⟨ns.length-1,⋯⟩
 rw[hk,Z9,Yd ⟨⋯,by rw[hT.1];omega⟩,show((q:Nat):Int).toNat=q by omega]
 rw[ZmR T k (nth T q)]
 rw[(Zjl hT k q hq ⋯).2]
 omega
theorem Zhc (T:List Int) (p:Nat):Zqz T p=(way T p).map λq=>((q:Nat):Int):=rfl
theorem Zca {ns T:List Int} (hT:Zp ns T) {p:Nat} (hp:p<ns.length):nth T p=-1\/∃q:Nat,nth T p=q/\q<ns.length/\Over (nth ns) q p/\dep (nth ns) ns.length p=dep (nth ns) ns.length q+1:=by
 rcases ZcP hp (hT.2 p hp)with z|⟨q,e,hq,hO⟩
 .exact .inl z
 .have e':nth T p=(q:Int):=e
  have hE:Zx (nth ns) ns.length p (q:Int):=e'▸hT.2 p hp
  exact .inr ⟨q,e,hq,hO,ZhS hp hE⟩
theorem Zfw {ns T:List Int} (hT:Zp ns T) {p o:Nat} (hp:p<ns.length):o∈way T p↔o<ns.length/\Over (nth ns) o p:=by
 unfold way
 rw[hT.1]
 exact(Zjl hT ns.length p hp (Y7 (Zn4 hp))).1 o
section
variable {X:Cx}{pins:List (Addr×Obj)}{σ:St}{H:Hp}{s:Shared}{h':Heap}
theorem Inv.ZuP {t':Nat}{fp:List Addr}{T:Addr}{o:HO} (I:Inv X pins σ H s) (k:∀b u,b∉fp->s.heap.get? b=some u->h'.get? b=some u) (hf:∀b∈fp,FpOk X pins H b) (hT:s.heap.objs.size<=T) (new:Zak X.prog X.w (upd H T o) h' T o) :
  Inv X pins σ (upd H T o) {s with heap:=h',toks:=t'}:=by
 have nit:∀b u,H b=some u->b∉fp:=λb u e z=>by rw[(hf b z).1]at e;cases e
 have hfr:H T=none:=I.hok.fresh hT
 have neT:∀b u,s.heap.get? b=some u->b≠T:=λb u e z=>absurd (Yl e) (by rw[z];exact Nat.not_lt_of_le hT)
 have neH:∀b u,H b=some u->b≠T:=λb u e z=>by rw[z,hfr]at e;cases e
 refine I.step (g':=s.gens) (d':=s.drawn) (ch:=fp) (λb hb=>?_) (λb o _ _ hc e _=>k b o hc e) (λb o _ _ hc e _=>⟨o.slots,k b o hc e⟩) (λb u _ e n=>by rw[Zh (neT b u e)];exact n)
  (λb o hc e=>⟨o,k b o hc e⟩) (λb xs e=>by rw[Zh (neH b _ e)];exact e) (λb o u e=>by rw[Zh (neH b _ e)];exact e) (λb ps e=>⟨#[],by rw[Zh (neH b _ e),e];simp⟩) (λm hm=>?_) (λb u e=>?_) I.bare
 .obtain⟨_,f1,_,f3,f4,f5⟩:=hf b hb
  exact⟨f3,f1,f4,f5⟩
 .obtain⟨o,es,ep,ho,r⟩:=hm
  exact⟨o,es,ep,k _ o (λz=>(hf _ z).2.1 rfl) ho,r⟩
 .by_cases z:b=T
  .subst z
   rw[Zc]at e;cases e
   exact new
  .rw[Zh z]at e
   refine(I.hok b u e).ZiE (λc v hc q=>k c v ?_ q) (λc q=>?_) (λc xs q=>?_) λc o u q=>?_
   .rcases hc with y|y
    .rw[y];exact nit b u e
    .exact nit c _ y
   .rw[Zh (neH _ _ q)];exact q
   .rw[Zh (neH _ _ q)];exact q
   .rw[Zh (neH _ _ q)];exact q
theorem Zn6:bootBuiltins "enumerate"=some (.type "enumerate"):=by decide +kernel
end
noncomputable def Zez (f g:Nat->Int) (n:Nat):Prop:=∀a c,a+c<n->ZhQ f a c=ZhQ g a c
theorem Zez.over {f g:Nat->Int}{n o p:Nat} (h:Zez f g n) (ho:o<n) (hp:p<n) (k:Over f o p):Over g o p:=by
 rcases k with⟨z,k⟩|⟨z,k⟩
 .have i1:ZL f o (o+(p-o)) o:=⟨Yc _,⋯,λq q1 q2=>⋯,λq q1 q2=>k q q1 ⋯⟩
  have e:=h o (p-o) ⋯
  rw[(Za2 f o (p-o)).unique i1]at e
  have i2:=Za2 g o (p-o)
  rw[<-e]at i2
  exact .inl ⟨z,λr r1 r2=>i2.2.2.2 r r1 ⋯⟩
 .have i1:ZL f p (p+(o-p)) o:=⟨⋯,⋯,λq q1 q2=>k q q1 q2,λq q1 q2=>⋯⟩
  have e:=h p (o-p) ⋯
  rw[(Za2 f p (o-p)).unique i1]at e
  have i2:=Za2 g p (o-p)
  rw[<-e]at i2
  exact .inr ⟨z,λr r1 r2=>i2.2.2.1 r r1 ⋯⟩
theorem Zez.tree {ns ms T:List Int} (hT:Zp ns T) (hl:ms.length=ns.length) (h:Zez (nth ns) (nth ms) ns.length):Zp ms T:=by
 refine⟨by rw[hl];exact hT.1,λp hp=>?_⟩
 rw[hl]at hp⊢
 refine Zr0 hT (λq p hq hp hO=>?_) p hp
 rcases h.over hq hp hO with⟨z,k⟩|⟨z,k⟩
 .exact⟨λ_=>k p z (Yc _),λy=>⋯⟩
 .exact⟨λy=>⋯,λ_=>k p (Yc _) z⟩
theorem Zjm {ns ms T:List Int} (h1:Zp ns T) (h2:Zp ms T) {o p:Nat} (ho:o<ns.length) (hp:p<ns.length) (k:Over (nth ns) o p):Over (nth ms) o p:=by
 have hl:ms.length=ns.length:=h2.1.symm.trans h1.1
 exact((Zfw h2 ⋯).mp ((Zfw h1 hp).mpr ⟨ho,k⟩)).2
theorem Zn7 {ns ms T:List Int} (h1:Zp ns T) (h2:Zp ms T):Zez (nth ns) (nth ms) ns.length:=by
 intro a c hac
 have hl:=Za2 (nth ns) a c
 have hlt:=ZpA (nth ns) a c
 refine ZL.unique (f:=nth ms) (a:=a) (b:=a+c) ⟨hl.1,hl.2.1,λq q1 q2=>?_,λq q1 q2=>?_⟩ (Za2 (nth ms) a c)
 .have:=Zjm h1 h2 ⋯ ⋯ (hl.over (p:=q) ⋯ ⋯ ⋯)
  rcases this with⟨z,k⟩|⟨z,k⟩
  .omega
  .exact k q (Yc _) q2
 .have:=Zjm h1 h2 ⋯ ⋯ (hl.over (p:=q) ⋯ ⋯ ⋯)
  rcases this with⟨z,k⟩|⟨z,k⟩
  .exact k q q1 (Yc _)
  .omega
theorem ZpC {ns ms S T:List Int} (h1:Zp ns S) (h2:Zp ms T):(ns.length=ms.length/\Zez (nth ns) (nth ms) ns.length)↔(ns.length=ms.length/\S=T):=by
 refine⟨λh=>⟨h.1,?_⟩,λh=>⟨h.1,?_⟩⟩
 .exact(Zez.tree h1 h.1.symm h.2).unique h2
 .rw[h.2]at h1;exact Zn7 h1 h2
theorem ZkZ {P:Nat->Prop}:∀n,¬ (∀j,j<n->P j)->∃j,j<n/\¬ P j/\∀i,i<j->P i
 |0,h=>absurd (λj hj=>⋯) h
 |n+1,h=>by
  by_cases z:∀j,j<n->P j
  .exact⟨n,⋯,λy=>h λj hj=>by
    by_cases e:j=n
    .rw[e];exact y
    .exact z j ⋯,z⟩
  .obtain⟨j,h1,h2,h3⟩:=ZkZ n z
   exact⟨j,⋯,h2,h3⟩
theorem ifR {c:TT}{t u:TS}{D:Ends}{σ:St}{H:Hp} (T U:Hp->Prop) (ht:∀H1,T H1->t D σ H1) (hu:∀H1,U H1->u D σ H1) (hc:∀B:Bool->Hp->Prop,(∀H1,T H1->B true H1)->(∀H1,U H1->B false H1)->c σ H B):tIfS c t u D σ H :=
 hc _ (λH1 h=>by rw[Yd rfl];exact ht H1 h) (λH1 h=>by rw[Yb (by simp)];exact hu H1 h)
section
variable {X:Cx}
theorem Zgc:bootBuiltins "sorted"=some (.builtin "sorted"):=by decide +kernel
end
section
variable {prog:Program}{w:World}{A:Around}{E Q:Value->Shared->Prop}{s:Shared}{it t:Addr}{i:Nat}{items:Array Value}
theorem Zhd {x:Value} (hi:s.heap.IsTupleIter it t i) (ht:s.heap.IsTuple t items) (hx:items[i]?=some x) (h:∀h',h'.IsTupleIter it t (i+1)->Heap.SameBut it s.heap h'->Q x {s with heap:=h'}):wpAny (model prog w) A (Builtin.SmallTypes.nextOf (.ref it)) Q E s:=by
 obtain⟨o,ho,hc,hd⟩:=id hi
 obtain⟨ot,hot,hct,n,hdt⟩:=id ht
 have hT:s.TypeIs (.ref it) "tuple_iterator":=⟨o,ho,hc⟩
 unfold Builtin.SmallTypes.nextOf
 refine Ya (wpAny_callSpecial?_slot hT F.slot_tuple_iterator_next (wpAny_call_entry F.slot_tuple_iterator_next hT F.entry_tuple_iterator_next ?_ (F.args_tuple_iterator_next_1 _)))
 show wpAny _ _ (_ >>= _) _ _ _
 refine Ya (wpAny_of_eq (show slotArgs "__next__" 0 {pos:=[.ref it]}=pure (.ref it,[])from rfl) ?_)
 refine Ya (wpAny_field ho hd (x:=.ref t) rfl ?_)
 rw[Yb (by simp)]
 refine Ya (wpAny_field ho hd (x:=.int (i:Int) 0) rfl ?_)
 refine Ya (wpAny_seqItems hot hdt ?_)
 dsimp only
 rw[Jj,hx]
 refine Ya (wpAny_setField ho hd (by show 1<2;decide) (Ye ⟨x,rfl,?_⟩))
 refine Ye (h _ ?_ ⟨by simp,λb hb=>Heap.get?_update_other _ _ (Ne.symm hb)⟩)
 obtain⟨cls,dict,data,slots⟩:=o
 simp only at hc hd
 subst hc hd
 exact⟨_,Heap.get?_update_self _ ho rfl,rfl,rfl⟩
theorem ZhU (hA:A.handled=none) (hi:s.heap.IsTupleIter it t i) (ht:s.heap.IsTuple t items) (hx:items[i]?=none) (h:∀h' e,Heap.ExtBut it s.heap h'->(∃o,h'.get? e=some o/\o.cls=.type "StopIteration")->E (.ref e) {s with heap:=h'}):wpAny (model prog w) A (Builtin.SmallTypes.nextOf (.ref it)) Q E s:=by
 obtain⟨o,ho,hc,hd⟩:=id hi
 obtain⟨ot,hot,hct,n,hdt⟩:=id ht
 have hT:s.TypeIs (.ref it) "tuple_iterator":=⟨o,ho,hc⟩
 unfold Builtin.SmallTypes.nextOf
 refine Ya (wpAny_callSpecial?_slot hT F.slot_tuple_iterator_next (wpAny_call_entry F.slot_tuple_iterator_next hT F.entry_tuple_iterator_next ?_ (F.args_tuple_iterator_next_1 _)))
 show wpAny _ _ (_ >>= _) _ _ _
 refine Ya (wpAny_of_eq (show slotArgs "__next__" 0 {pos:=[.ref it]}=pure (.ref it,[])from rfl) ?_)
 refine Ya (wpAny_field ho hd (x:=.ref t) rfl ?_)
 rw[Yb (by simp)]
 refine Ya (wpAny_field ho hd (x:=.int (i:Int) 0) rfl ?_)
 refine Ya (wpAny_seqItems hot hdt ?_)
 dsimp only
 rw[Jj,hx]
 refine Ya (wpAny_rule (Ya (wpAny_setField ho hd (by show 0<2;decide) ?_)))
 unfold Builtin.SmallTypes.stopIteration
 refine Ya ?_
 unfold newExc
 refine Ya (wpAny_newTuple ?_ (Yq _))
 refine Ya (wpAny_of_eq (show firstArgMember (.type "StopIteration") []=pure .none by first|rfl|(unfold firstArgMember;rfl)) ?_)
 refine wpAny_newObj_type (wpAny_raiseNew_none hA (h _ _ (λb o' hb e=>?_) ⟨_,YC _ rfl,rfl⟩))
 exact Ym _ (Ym _ ((Heap.get?_update_other _ _ (Ne.symm hb)).trans e))
theorem Zih (hA:A.handled=none) (it t:Addr) (hne:t≠it) (items:Array Value):Draws prog w A it [it,t] items.size (λi v=>items[i]?=some v) (λi h=>h.IsTupleIter it t i/\h.IsTuple t items) where
 live:=λi h st=>by obtain⟨⟨o,ho,_⟩,_⟩:=st;exact⟨o,ho⟩
 frame:=λi h h' st k=>by
  obtain⟨⟨o,ho,r⟩,⟨ot,hot,rt⟩⟩:=st
  exact⟨⟨o,k it (by simp) o ho,r⟩,⟨ot,k t (by simp) ot hot,rt⟩⟩
 item:=λi s Q E hi st h=>by
  obtain⟨ot,hot,rt⟩:=st.2
  refine Zhd st.1 st.2 (Array.getElem?_eq_getElem hi) λh' hit hs=>h _ h' s.toks (Array.getElem?_eq_getElem hi) ⟨hit,⟨ot,(hs.2 t hne).trans hot,rt⟩⟩ hs
 done:=λs Q E st h=>ZhU hA st.1 st.2 (Array.getElem?_eq_none (Yc _)) h
end
section
variable {X:Cx}{pins:List (Addr×Obj)}{σ:St}{H:Hp}{s:Shared}{h':Heap}
noncomputable def IteT (K : Frag) (a : Addr) : It :=
  ⟨fun i H => ∃ xs x, SqT K H a xs ∧ xs[i]? = some x,
   fun i H v H' => ∃ p x, H p = none ∧ v = .ref p ∧ H' = upd H p (.tup [.int (i : Int), x]) ∧ ∀ xs, SqT K H a xs → xs[i]? = some x,
   fun i H => ∃ xs, SqT K H a xs ∧ xs.length = i⟩
theorem Zn8 {P:Program}{w:World}{K:Frag}{elts:List Expr} {x1}{pos:Pos}{a e it:Addr} (h1:e≠it) (h2:a≠e) (h3:a≠it) :
  Turn P w K (.Tuple elts x1 pos) (IteT K a) [e,it] e (λi h=>(∃old,IsEnum h e it (i:Int) old)/\h.IsTupleIter it a i) where
 mem:=by simp
 obj:=λi h st c hc=>by
  obtain⟨⟨old,q1⟩,⟨o4,q4,_,d4⟩⟩:=st
  simp at hc
  rcases hc with rfl|rfl
  .exact⟨_,q1,λv z=>by cases z⟩
  .exact⟨_,q4,λv z=>by rw[d4]at z;cases z⟩
 keep:=λi h h' st k=>by
  obtain⟨⟨old,q1⟩,⟨o,ho,r⟩⟩:=st
  exact⟨⟨old,k e (by simp) _ q1⟩,⟨o,k it (by simp) o ho,r⟩⟩
 item:=by
  intro X hP hw hK hc i pins s σ H E I hf st hg
  subst hP hw hK
  obtain⟨xs,x,qa,hx⟩:=hg
  obtain⟨is1,r1,p1,hz1⟩:=I.tuple qa
  obtain⟨u,hu,ru⟩:=r1.get hx
  have W:=WalksT.enumerateD (prog:=X.prog) (w:=X.w) (A:=X.A) (Zih (A:=X.A.in1) (I.ok.hd hc) it a h3 is1.toArray) e h1 (by simp;exact⟨h1,h2.symm⟩) (by simp)
  have hi:i<is1.toArray.size:=by
   have:=(Yw.mp hu).1
   simpa using this
  refine W.item i s _ E hi ⟨st.1,st.2,p1⟩ λT vals h' tk Pt hT hTup Mid keep=>⟨_,rfl,W.go elts x1 pos i T _ _ E Mid λh2' St2 keep2=>?_⟩
  obtain⟨t,y,hy,rfl⟩:=Pt
  have hyu:y=u:=by
   have:is1[i]?=some y:=by simpa using hy
   rw[hu]at this;exact(YM this).symm
  subst hyu
  have nT:=W.apart i T h' Mid
  have hfr:H T=none:=I.hok.fresh hT
  have kk:∀b o,b∉[e,it]->s.heap.get? b=some o->h2'.get? b=some o:=λb o hb q=>keep2 b o hb (keep b o hb q)
  have nTe:∀c∈[e,it],c≠T:=λc hc z=>nT (z▸hc)
  refine⟨.ref T,_,Inv.ZuP (s:=s) (t':=tk) (o:=.tup [.int (i:Int),x]) I kk hf hT ?_,rfl,⟨T,x,hfr,rfl,rfl,λxs' q'=>?_⟩,⟨?_,St2.2.1⟩,λc hc=>?_⟩
  .obtain⟨oT,q1,q2,n,q3⟩:=hTup
   exact⟨by show 2<=sizeLine;decide,[.int (i:Int) t,y],.cons ⟨t,rfl⟩ (.cons ru .nil),⟨oT,keep2 T oT nT q1,q2,n,q3⟩⟩
  .rw[I.ZhH q' qa];exact hx
  .obtain⟨old,q⟩:=St2.1
   exact⟨old,by rw[show(((i+1:Nat)):Int)=(i:Int)+1 by omega]at *;exact q⟩
  .rw[Zh (nTe c hc)];exact(hf c hc).1
 done:=by
  intro X hP hw hK hc i pins s σ H E I hf st hg
  subst hP hw hK
  obtain⟨xs,qa,hx⟩:=hg
  obtain⟨is1,r1,p1,_⟩:=I.tuple qa
  have W:=WalksT.enumerateD (prog:=X.prog) (w:=X.w) (A:=X.A) (Zih (A:=X.A.in1) (I.ok.hd hc) it a h3 is1.toArray) e h1 (by simp;exact⟨h1,h2.symm⟩) (by simp)
  have hi:i=is1.toArray.size:=by
   have:=r1.length
   simp;omega
  refine W.done s _ E ?_ λh' tk keep=>⟨rfl,I.ZuH (t':=tk) (fp:=[e,it]) (λc o hc q=>keep c o hc q) hf⟩
  rw[<-hi]
  exact⟨st.1,st.2,p1⟩
 self:=λA i s Q E st h=>by
  obtain⟨⟨old,q⟩,_⟩:=st
  exact wpAny_pyIter_enum q h
theorem Zn9 {M:Model}{A:Around}{E:Value->Shared->Prop}{s:Shared} (cls:Value):wpAny M A (Builtin.SmallTypes.calledThroughType cls) (λ_ s'=>s'=s) E s:=by
 unfold Builtin.SmallTypes.calledThroughType
 exact Ya (wpAny_stack λst _ _ _=>Ye rfl)
theorem ZmS {prog:Program}{w:World} (l:Addr) (items:Array Value):MeetsIn prog w (Builtin.«enumerate.__new__» {pos:=[.type "enumerate",.ref l]}) λA R s=>s.heap.IsTuple l items/\R (.ok (.ret (.ref (s.heap.objs.size+1)))) {s with heap:=(s.heap.push {cls:=.type "tuple_iterator",data:=.fields #[.ref l,.int 0 0]}).push {cls:=.type "enumerate",data:=.fields #[.none,.bool false,.ref s.heap.objs.size,rawInt 0,.none,.none]}}:=by
 intro A R s ⟨h,hR⟩
 unfold Builtin.«enumerate.__new__»
 refine Ya (wpAny_of_eq (show Builtin.SmallTypes.newClass "enumerate" {pos:=[.type "enumerate",.ref l]}=pure (.type "enumerate",[.ref l])from by first|rfl|(unfold Builtin.SmallTypes.newClass;rfl)) ?_)
 show wpAny _ _ (_ >>= _) _ _ _
 have hsz:(s.heap.push {cls:=.type "tuple_iterator",data:=.fields #[.ref l,.int 0 0]}).objs.size=s.heap.objs.size+1:=Heap.size_push _ _
 refine Ya (thn (Zn9 (.type "enumerate")) λb s' e=>?_)
 subst e
 cases b with
 |true =>
  show wpAny _ _ (_ >>= _) _ _ _
  refine Ya (wpAny_of_eq (show _=pure (.ref l,none)from rfl) ?_)
  show wpAny _ _ (_ >>= _) _ _ _
  refine Ya (wpAny_pyIter_tuple h ?_)
  show wpAny _ _ (newObj (.type "enumerate") (.fields #[.none,.bool false,.ref s'.heap.objs.size,rawInt 0,.none,.none]) >>= _) _ _ _
  refine Ya (wpAny_newObj_type (Ye ?_))
  rw[hsz];exact hR
 |false =>
  show wpAny _ _ (_ >>= _) _ _ _
  refine Ya (wpAny_of_eq (show _=pure (.ref l,none)from rfl) ?_)
  show wpAny _ _ (_ >>= _) _ _ _
  refine Ya (wpAny_pyIter_tuple h ?_)
  show wpAny _ _ (newObj (.type "enumerate") (.fields #[.none,.bool false,.ref s'.heap.objs.size,rawInt 0,.none,.none]) >>= _) _ _ _
  refine Ya (wpAny_newObj_type (Ye ?_))
  rw[hsz];exact hR
noncomputable def Zoa (K:Frag) (ta:TA):TI:=fun σ H R=>ta σ H λvs H1=>∃a xs,vs=[.ref a]/\SqT K H1 a xs/\R (IteT K a) H1
theorem Zr2 {K:Frag}{elts:List Expr} {x1}{tp:Pos}{e1:Expr}{ta:TA}{p pos:Pos} (hK:X.K=K) (hg:Gl X "enumerate") (hm:X.mg "enumerate"=none) (ha:PA X [e1] ta) (hs:starEach [e1] X.env=[(false,eval e1 X.env)]:=by rfl) :
  PI X (.Tuple elts x1 tp) (.Call (.Name "enumerate" p) [e1] [] pos) (Zoa K ta):=by
 subst hK
 intro pins s σ H R I h
 refine wpAny_Call_Name_kw (Zcb I hg hm Zn6 ?_)
 refine PyProof.Rows.callWith_type1 (thn (ha pos pins s σ H _ I h) λus s1 ⟨vs,H1,I1,r1,a,xs,e1,qa,q⟩=>?_) hs rfl
 subst e1
 obtain⟨u,rfl,ru⟩:=r1.one
 cases(show u=Value.ref a from ru)
 obtain⟨is1,rr1,p1,_⟩:=I1.tuple qa
 have l1:a<s1.heap.objs.size:=by obtain⟨o,e,_⟩:=p1;exact Yl e
 have sm:∀b,s1.heap.objs.size<=b->FpOk X pins H1 b:=λb hb=>I1.fpOk hb (I1.hok.fresh hb)
 have n1:s1.heap.objs.size+1≠s1.heap.objs.size:=by show ¬ ((_:Nat)=_);omega
 have n2:a≠s1.heap.objs.size+1:=Yo (YU l1)
 have n3:a≠s1.heap.objs.size:=Yo l1
 have T:=Zn8 (P:=X.prog) (w:=X.w) (K:=X.K) (elts:=elts) (x1:=x1) (pos:=tp) n1 n2 n3
 have hsz:(s1.heap.push {cls:=.type "tuple_iterator",data:=.fields #[.ref a,.int 0 0]}).objs.size=s1.heap.objs.size+1:=Heap.size_push _ _
 have c1:IsEnum ((s1.heap.push {cls:=.type "tuple_iterator",data:=.fields #[.ref a,.int 0 0]}).push {cls:=.type "enumerate",data:=.fields #[.none,.bool false,.ref s1.heap.objs.size,rawInt 0,.none,.none]}) (s1.heap.objs.size+1) s1.heap.objs.size 0 .none:=by
  show Heap.get? _ _=_
  rw[<-hsz];exact YC _ rfl
 have c2:((s1.heap.push {cls:=.type "tuple_iterator",data:=.fields #[.ref a,.int 0 0]}).push {cls:=.type "enumerate",data:=.fields #[.none,.bool false,.ref s1.heap.objs.size,rawInt 0,.none,.none]}).IsTupleIter s1.heap.objs.size a 0:=⟨_,Ym _ (YC _ rfl),rfl,rfl⟩
 refine callType_newIn F.called_enumerate rfl (by first|rfl|decide) (F.newCall_enumerate_1 _) (λobj=>by first|rfl|decide) F.entry_enumerate_new (ZmS a is1.toArray) ⟨p1,⟨_,c1,rfl⟩,?_⟩
 refine T.self _ 0 _ _ _ ⟨⟨_,c1⟩,c2⟩ ?_
 refine⟨_,[s1.heap.objs.size+1,s1.heap.objs.size],_,_,H1,rfl,I1.kept (t':=s1.toks) (λb o e=>Ym _ (Ym _ e)),T,⟨⟨_,c1⟩,c2⟩,λc hc=>?_,q⟩
 simp at hc
 rcases hc with rfl|rfl<;>exact sm _ ⋯
end
open Classical in
noncomputable def ZgG (f:Nat->Int) (p:Nat):Int:=if h:∃q,Zae f p q then (Classical.choose h:Nat)else -1
open Classical in
noncomputable def ZhV (f:Nat->Int) (n p:Nat):Int:=if h:∃r,Z8 f n p r then (Classical.choose h:Nat)else (n:Int)
theorem Zek {f:Nat->Int}{p q:Nat} (h:Zae f p q):ZgG f p=q:=by
 have hx:∃q,Zae f p q:=⟨q,h⟩
 unfold ZgG
 rw[dif_pos hx,(Classical.choose_spec hx).unique h]
theorem Zhe {f:Nat->Int}{p:Nat} (h:ZcO f p):ZgG f p=-1:=by
 unfold ZgG
 rw[dif_neg λ⟨q,hq⟩=>hq.no h]
theorem Zgd {f:Nat->Int}{n p r:Nat} (h:Z8 f n p r):ZhV f n p=r:=by
 have hx:∃r,Z8 f n p r:=⟨r,h⟩
 unfold ZhV
 rw[dif_pos hx,(Classical.choose_spec hx).unique h]
theorem ZiV {f:Nat->Int}{n p:Nat} (h:ZbE f n p):ZhV f n p=n:=by
 unfold ZhV
 rw[dif_neg λ⟨q,hq⟩=>hq.no h]
theorem Zhf {f:Nat->Int}{n p:Nat}{e:Int} (h:Zx f n p e):(ZcO f p\/∃q,Zae f p q)/\(ZbE f n p\/∃r,Z8 f n p r):=by
 rcases h with⟨h1,h2,_⟩|⟨q,h1,h2,_⟩|⟨r,h1,h2,_⟩|⟨q,r,h1,h2,_⟩
 .exact⟨.inl h1,.inl h2⟩
 .exact⟨.inr ⟨q,h1⟩,.inl h2⟩
 .exact⟨.inl h1,.inr ⟨r,h2⟩⟩
 .exact⟨.inr ⟨q,h1⟩,.inr ⟨r,h2⟩⟩
noncomputable def ZpD (f:Nat->Int) (p:Nat):Int:=if 0<=ZgG f p then (p:Int)-ZgG f p else 0
theorem ZmT {f:Nat->Int} (v:Int):∀S:List Nat,S.Pairwise (λa b=>f a<=f b)->∃A B,S=A++B/\(∀q∈A,f q<=v)/\∀q∈B,v<f q
 |[],_=>⟨[],[],rfl,λ_ h=>(nomatch h),λ_ h=>(nomatch h)⟩
 |q::r,h=>by
  have hr:=Jb.mp h
  by_cases z:f q<=v
  .obtain⟨A,B,e,h1,h2⟩:=ZmT v r hr.2
   refine⟨q::A,B,by rw[e];rfl,λx hx=>?_,h2⟩
   rcases Yk.mp hx with y|y
   .rw[y];exact z
   .exact h1 x y
  .refine⟨[],q::r,rfl,λ_ h=>(nomatch h),λx hx=>?_⟩
   rcases Yk.mp hx with y|y
   .rw[y];omega
   .have:=hr.1 x y;omega
theorem Zjh.mono {f:Nat->Int}{i:Nat}{S:List Nat} (h:Zjh f i S):S.Pairwise (λa b=>f a<=f b):=by
 refine List.Pairwise.imp_of_mem ?_ h.1
 intro a b ha hb hab
 exact((h.2 a).mp ha).2 b hab ((h.2 b).mp hb).1
theorem Zob {J:It}{n:Nat}{g:TG}{tb:TS}{D:Ends}{σ:St}{H:Hp} (Pv:Nat->St->Hp->Prop) (h0:Pv 0 σ H) (hgo:∀i σ H,i<n->Pv i σ H->J.go i H) (hstop:∀σ H,Pv n σ H->J.stop n H)
  (hs:∀i x σ H H',i<n->Pv i σ H->J.yld i H x H'->g x σ H' fun σ2 H2=>tb {D with nx:=Pv (i+1),ct:=Pv (i+1),bk:=D.nx} σ2 H2) (hd:∀σ H,Pv n σ H->D.nx σ H):LoopR J g tb D σ H:=by
 refine⟨λi m σ H=>m=n-i/\i<=n/\Pv i σ H,⟨n,by simp,Yq _,h0⟩,?_⟩
 rintro i m σ H ⟨rfl,hi,p⟩
 by_cases hlt:i<n
 .exact .inr ⟨hgo i σ H hlt p,Pv (i+1),fun σ' H' p'=>⟨n-(i+1),⋯,rfl,hlt,p'⟩,λx H' y=>hs i x σ H H' hlt p y⟩
 .have:i=n:= ⋯
  subst this
  exact .inl ⟨hstop σ H p,hd σ H p⟩
noncomputable def eU (e:Addr->Bool):Value->Bool
 |.ref a=>e a
 |_=>false
theorem ZhW:∀{as:List Addr}{us:List Value},Vals (as.map V.ref) us->us=as.map Value.ref
 |[],_,.nil=>rfl
 |a::as,u::us,.cons r t=>by
  have hr:u=Value.ref a:=r
  rw[hr,ZhW t];rfl
end Lake
namespace PySem
open Sem (wp)
end PySem
namespace Lake
open PySem PySem.Spec PyProof.Rows PySem.W
section
variable {prog:Program}{w:World}{A:Around}{E:Value->Shared->Prop}{s:Shared}{z TI TO i1 i2 l1 l2:Addr}{k1 k2:Nat}{xs ys:Array Value}{a b:Value}
noncomputable def Zr3 (h:Heap) (l:Addr):String:=match h.get? l with
 |some o=>if o.cls=.type "tuple" then "tuple_iterator" else "list_iterator"
 |none=>"list_iterator"
noncomputable abbrev zq1 (h:Heap) (l1:Addr):Heap:=h.push {cls:=.type (Zr3 h l1),data:=.fields #[.ref l1,.int 0 0]}
noncomputable abbrev zq2 (h:Heap) (l1 l2:Addr):Heap:=(zq1 h l1).push {cls:=.type (Zr3 (zq1 h l1) l2),data:=.fields #[.ref l2,.int 0 0]}
noncomputable abbrev zq3 (h:Heap) (l1 l2:Addr):Heap:=(zq2 h l1 l2).push {cls:=.type "tuple",data:=.seq #[.ref h.objs.size,.ref (zq1 h l1).objs.size]}
end
theorem cut_m1 (xs:List V):ZhL xs (some (-1)) none=xs.drop (xs.length-1):=by
 unfold ZhL HT.sIx
 cases xs with
 |nil=>simp
 |cons x r =>
  simp
  have e:(-1+((r.length:Int)+1)).toNat=r.length:= ⋯
  rw[e]
  exact List.take_of_length_le (by simp)
theorem ZbF {f:Nat->Int}{n p:Nat} (hp:p<n) {a b:Nat} (hb:b<n):ZL f a b p↔ZgG f p<a/\a<=p/\p<=b/\(b:Int)<ZhV f n p:=by
 obtain⟨hA,hB⟩:=Zhf (Zfv (f:=f) hp)
 constructor
 .rintro⟨h1,h2,h3,h4⟩
  refine⟨?_,h1,h2,?_⟩
  .rcases hA with hA|⟨q,hA⟩
   .rw[Zhe hA];omega
   .rw[Zek hA]
    by_cases z:q<a
    .omega
    .have:=h3 q ⋯ hA.1;have:=hA.2.1;omega
  .rcases hB with hB|⟨r,hB⟩
   .rw[ZiV hB];omega
   .rw[Zgd hB]
    by_cases z:b<r
    .omega
    .have:=h4 r hB.1 ⋯;have:=hB.2.2.1;omega
 .rintro⟨h1,h2,h3,h4⟩
  refine⟨h2,h3,λq q1 q2=>?_,λq q1 q2=>?_⟩
  .rcases hA with hA|⟨r,hA⟩
   .exact hA q q2
   .rw[Zek hA]at h1
    exact hA.2.2 q ⋯ q2
  .rcases hB with hB|⟨r,hB⟩
   .exact hB q q1 ⋯
   .rw[Zgd hB]at h4
    exact hB.2.2.2 q q1 ⋯
theorem ZlR {f:Nat->Int}{n p:Nat} (hp:p<n):-1<=ZgG f p/\ZgG f p<p/\(p:Int)<ZhV f n p/\ZhV f n p<=n:=by
 obtain⟨hA,hB⟩:=Zhf (Zfv (f:=f) hp)
 have a1:-1<=ZgG f p/\ZgG f p<p:=by
  rcases hA with hA|⟨q,hA⟩
  .rw[Zhe hA];omega
  .rw[Zek hA];have:=hA.1;omega
 have a2:(p:Int)<ZhV f n p/\ZhV f n p<=n:=by
  rcases hB with hB|⟨q,hB⟩
  .rw[ZiV hB];omega
  .rw[Zgd hB];have:=hB.1;have:=hB.2.1;omega
 exact⟨a1.1,a1.2,a2.1,a2.2⟩
noncomputable def ZcR (T:List Int):Nat->Int->Prop
 |0,a=>a=-1
 |k+1,a=>a=-1\/(0<=a/\a<T.length/\ZcR T k (nth T a.toNat))
theorem Zoc (T:List Int) (k:Nat):ZcR T k (-1):=by cases k<;>simp[ZcR]
theorem Zii (T:List Int):∀k a,ZcR T k a->ZcR T (k+1) a
 |0,a,h=>.inl h
 |k+1,a,h=>by
  rcases h with h|⟨h1,h2,h3⟩
  .exact .inl h
  .exact .inr ⟨h1,h2,Zii T k _ h3⟩
theorem ZqB (T:List Int) {k m:Nat} (h:k<=m) {a:Int} (e:ZcR T k a):ZcR T m a:=by
 induction h with
 |refl=>exact e
 |step _ ih=>exact Zii T _ _ ih
theorem Zij {ns T:List Int} (hT:Zp ns T):∀d p,p<ns.length->dep (nth ns) ns.length p<=d->ZcR T (d+1) (p:Int)
 |d,p,hp,hd=>by
  have e:=hT.1
  refine .inr ⟨⋯,⋯,?_⟩
  have ep:((p:Int)).toNat=p:= ⋯
  rw[ep]
  rcases Zca hT hp with z|⟨q,z,hq,_,hz⟩
  .rw[z];exact Zoc T d
  .rw[z]
   cases d with
   |zero=>omega
   |succ d=>exact Zij hT d q hq ⋯
theorem Zod {ns T:List Int} (hT:Zp ns T) {p:Nat} (hp:p<T.length):ZcR T T.length (nth T p):=by
 have e:=hT.1
 have h:=Zij hT (dep (nth ns) ns.length p) p ⋯ (Yc _)
 rcases h with h|⟨_,_,h⟩
 .omega
 .have ep:((p:Int)).toNat=p:= ⋯
  rw[ep]at h
  have:=Zn4 (f:=nth ns) (n:=ns.length) (p:=p) ⋯
  exact ZqB T ⋯ h
theorem ZpE {K:Frag}{Hx:Hp}{l q:Addr}{L:List Nat} (h1:Hx l=some (.lst (ZD L))) (h2:Hx q=some (.lst [])):EqD K Hx 3 (V.ref l) (V.ref q) (decide (L=[])):=by
 have hh:=Zga (n:=2) (K:=K) (H:=Hx) Zcp (V.ref l) (V.ref q) (L.map λ(q:Nat)=>(q:Int)) [] (Zei (SqL.of (by rw[h1];simp[ZD,Function.comp_def]))) (Zei (ns:=[]) (SqL.of h2))
 have e:decide (L.map (λ(q:Nat)=>(q:Int))=[])=decide (L=[]):=by cases L<;>simp
 rw[e]at hh;exact hh
noncomputable def CDivL (i j:Int):Prop:=0<j/\j<18446744073709551616
theorem Zjn {X:Cx}:OpR X (binaryOp .FloorDiv) (rI CDivL λi j=>.int (i / j)):=opI λi j _ _ _ _ _ hc q=>by
 have h1:(0:Int)<j:=hc.1
 have h2:j<18446744073709551616:=hc.2
 refine floordiv_int ⋯ (by rw[Int.fdiv_eq_ediv_of_nonneg i ⋯];exact q) (.inl (PyProof.noPylong_of_log2 ?_))
 have h3:j.natAbs<2 ^ 64:= ⋯
 have:j.natAbs.log2<64:=(Nat.log2_lt ⋯).mpr h3
 omega
end Lake
namespace Lake
theorem snoc_cases {α:Type} (xs:List α):xs=[]\/∃ys y,xs=ys++[y]:=by
 rcases List.eq_nil_or_concat xs with h|⟨ys,y,h⟩
 .exact .inl h
 .exact .inr ⟨ys,y,by rw[h,List.concat_eq_append]⟩
end Lake
namespace Lake
open PySem PySem.Spec PyProof.Rows PySem.W
noncomputable def sw (d:Int) (k:Nat):Int:=if d<=k then d else 0
theorem ZmU (f:Nat->Int) (p:Nat):(ZcO f p/\ZpD f p=0)\/∃q,Zae f p q/\ZpD f p=(p:Int)-q:=by
 rcases ZlO f p with h|⟨q,h⟩
 .exact .inl ⟨h,by unfold ZpD;rw[Zhe h,Yb ⋯]⟩
 .exact .inr ⟨q,h,by unfold ZpD;rw[Zek h,Yd ⋯]⟩
structure FunD (K:PySem.W.Frag) (x qual:Str) (st:Stmt) (f:Addr) (fd:FuncData) (dV:Value):Prop where
 ex:∃(oc:Value) (od:Option Addr) (kV doc pm:Value) (an:Option Addr) (cdv ct:Value) (osl:Array (Option Value)),
  fd=PySem.W.fnOf x qual (defArgs st) (defBody st) (defScope st) dV kV doc pm an cdv ct/\K.lookup f=some ⟨oc,od,.func fd,osl⟩/\PySem.W.codeIn K cdv qual=true
 kp:PySem.W.keepIn K (.ref f)=true
section
variable {P:Program}{w:World}{K:PySem.W.Frag}{mg:Str->Option Value}{base:Heap}
theorem FunD.okX {x qual:Str}{st:Stmt}{f:Addr}{fd:FuncData}{dV:Value}{N ps:List Str}{k:Nat}{sp:Sp} (F:FunD K x qual st f fd dV) (S:FnScope N ps (defScope st)) (len:∀vs H Q E,sp vs H Q E->vs.length=ps.length)
  (hbody:∀(cdv:Value) (A:Around) (outer:List Env) (s:Shared) (H:Hp) (vs:List V) (Q:VK) (E:XK),Room k (A.deeper (envOfC qual (defScope st) s.heap.objs.size f cdv))->sp vs H Q E ->
   ∃t,PSs (ZgB (CXE P w) P w K mg base N qual (defScope st) f cdv A outer s H E) (defBody st) t/\t {nx:=λ_ H'=>Q .non H',rt:=Q} (start N vs) H):FnOk P w K mg base (CXE P w) (k+1) f fd ps sp:=by
 obtain⟨oc,od,kV,doc,pm,an,cdv,ct,osl,rfl,lk,hcd⟩:=F.ex
 exact ZrI lk hcd S len λA outer s H vs Q E hr hsp=>hbody cdv A outer s H vs Q E hr hsp
theorem FunD.binds {x qual:Str}{st:Stmt}{f:Addr}{fd:FuncData}{D:Addr}{ps:List Str}{ds:List Value}{oc:Value}{od:Option Addr}{items:Array Value}{ep:Nat}{sl:Array (Option Value)} (F:FunD K x qual st f fd (.ref D))
  (lk:K.lookup D=some ⟨oc,od,.seq items ep,sl⟩)
  (h:∀(kV doc pm:Value) (an:Option Addr) (cdv ct:Value) (us:List Value),(us++ds).length=ps.length->∃k,bindArgs (PySem.W.fnOf x qual (defArgs st) (defBody st) (defScope st) (.ref D) kV doc pm an cdv ct) ⟨us,[]⟩=seqItems? (.ref D) >>= k/\k (some items)=pure (ps.zip (us++ds))):Binds K fd ps ds:=by
 obtain⟨oc,od,kV,doc,pm,an,cdv,ct,osl,rfl,lf,hcd⟩:=F.ex
 intro s us KX hl
 obtain⟨k,h1,h2⟩:=h kV doc pm an cdv ct us hl
 exact BindsTo.of_defaults rfl (KX _ _ lk) rfl h1 h2
theorem ZuQ {x qual:Str}{st:Stmt}{f:Addr}{oc:Value}{od an:Option Addr}{osl:Array (Option Value)}{dV kV doc pm cdv ct:Value} (l:K.lookup f=some ⟨oc,od,.func (PySem.W.fnOf x qual (defArgs st) (defBody st) (defScope st) dV kV doc pm an cdv ct),osl⟩)
  (c:PySem.W.codeIn K cdv qual=true) (k:PySem.W.keepIn K (.ref f)=true):FunD K x qual st f (PySem.W.fnOf x qual (defArgs st) (defBody st) (defScope st) dV kV doc pm an cdv ct) dV:=⟨⟨oc,od,kV,doc,pm,an,cdv,ct,osl,rfl,l,c⟩,k⟩
end
noncomputable def ZlS (P:Program) (w:World) (K:Frag) (mg:Str->Option Value) (base:Heap) (x:Str) (k:Nat) (ps:List Str) (dvs:List V) (sp:Sp):Prop :=
 ∃f fd ds,mg x=some (.ref f)/\keepIn K (.ref f)=true/\Binds K fd ps ds/\Vals dvs ds/\FnOk P w K mg base (CXE P w) k f fd ps sp
theorem ZqC {X:Cx}{x:Str}{k:Nat}{ps:List Str}{dvs:List V}{sp:Sp}{E:XK}{e:Expr}{es:List Expr}{t:TA}{p pos:Pos} (C:ZlS X.prog X.w X.K X.mg X.base x k ps dvs sp) (hr:Room k X.A) (hg:Gl X x) (hx:Passes (CXE X.prog X.w) X E)
  (ha:PA X (e::es) t) (hdb:(x==("__debug__":Str))=false:=by decide) (he:starEach (e::es) X.env=(false,eval e X.env)::starEach es X.env:=by rfl) (hpl:(backTo pos (starEach es X.env)).any (·.1)=false:=by rfl) :
  PE X (.Call (.Name x p) (e::es) [] pos) (ZmC sp dvs E t):=by
 obtain⟨f,fd,ds,hm,hk,hb,hv,F⟩:=C
 exact Zpo F hr hg hm hk hb hv hx ha hdb he hpl
theorem Zel {f g:Nat->Int}{s n:Nat} (h:∀k,k<n->g k=f (s+k)) (a:Nat):∀c,a+c<n->ZhQ f (s+a) c=s+ZhQ g a c:=by
 intro c
 induction c with
 |zero=>intro _;rfl
 |succ c ih =>
  intro k
  have b:=(ZpA g a c).2
  rw[ZhQ,ZhQ,ih ⋯,<-h (ZhQ g a c) ⋯,show s+a+c+1=s+(a+c+1) by omega,<-h (a+c+1) ⋯]
  split<;>rfl
noncomputable def Zo (H:Hp) (l:Addr) (rs:List (List Int)):Prop:=∃as:List Addr,H l=some (.lst (as.map V.ref))/\as.length=rs.length/\∀i (h1:i<as.length) (h2:i<rs.length),H as[i]=some (.tup (rs[i].map V.int))
theorem Zo.same {H H':Hp}{l:Addr}{rs:List (List Int)} (R:Zo H l rs) (s:Zd H H'):Zo H' l rs:=by
 obtain⟨as,h1,h2,h3⟩:=R
 exact⟨as,s _ _ h1,h2,λi i1 i2=>s _ _ (h3 i i1 i2)⟩
theorem Zo.nil {H:Hp}{l:Addr} (h:H l=some (.lst [])):Zo H l []:=⟨[],h,rfl,λi i1=>absurd i1 (by simp)⟩
theorem Zo.push {H:Hp}{l t:Addr}{rs:List (List Int)}{r:List Int}{as:List Addr} (e:H l=some (.lst (as.map V.ref))) (hl:as.length=rs.length) (h:∀i (h1:i<as.length) (h2:i<rs.length),H as[i]=some (.tup (rs[i].map V.int))) (ht:H t=some (.tup (r.map V.int))) :
  Zo (upd H l (.lst (as.map V.ref++[V.ref t]))) l (rs++[r]):=by
 refine⟨as++[t],by rw[Zc];simp,by simp[hl],λi i1 i2=>?_⟩
 have ne:∀(a:Addr) (xs:List V),H a=some (.tup xs)->a≠l:=λa xs h1 z=>by rw[z,e]at h1;cases h1
 by_cases z:i<as.length
 .have h3:=h i z ⋯
  rw[Jk z,Jk (show i<rs.length by omega),Zh (ne _ _ h3)]
  exact h3
 .have e1:i=as.length:=by simp at i1;omega
  subst e1
  rw[Zh (by simpa using ne _ _ ht)]
  simp[hl,ht]
theorem Zo.isL {K:Frag}{H:Hp}{l:Addr}{rs:List (List Int)} (R:Zo H l rs):IsL K H (IsT K H IsI) (.ref l) rs:=by
 obtain⟨as,h1,h2,h3⟩:=R
 refine⟨l,_,rfl,SqL.of h1,by simp[h2],λj x y e1 e2=>?_⟩
 have j2:=(Yw.mp e2).1
 have j1:j<as.length:= ⋯
 rw[YE,Yf j1]at e1
 rw[Yf j2]at e2
 cases e1
 cases e2
 exact ZcN (SqT.of (h3 j j1 j2))
noncomputable def Once (k:Nat) (ss ls:List Int):Prop:=ss=((List.range k).map λ(j:Nat)=>(j:Int)).filter (λj=>decide (j∉ls))/\ls=((List.range k).map λ(j:Nat)=>(j:Int)).filter (λj=>decide (j∈ls))
noncomputable instance (k:Nat) (ss ls:List Int):Decidable (Once k ss ls):=inferInstanceAs (Decidable (_/\_))
theorem Zo.walk {K:Frag}{H1:Hp}{d:Addr}{rs:List (List Int)} (R:Zo H1 d rs):(∀i H,Zd H1 H->i<rs.length->(Itl K d).go i H)/\(∀H,Zd H1 H->(Itl K d).stop rs.length H) /\
  ∀i x H H' (h:i<rs.length),Zd H1 H->(Itl K d).yld i H x H'->H'=H/\∃a,x=.ref a/\H a=some (.tup (rs[i].map V.int)):=by
 obtain⟨as,e,hl,hh⟩:=R
 refine⟨λi H s hi=>⟨_,V.ref (as[i]'⋯),SqL.of (s _ _ e),by simp[show i<as.length by omega]⟩,λH s=>⟨_,SqL.of (s _ _ e),by simp[hl]⟩,λi x H H' hi s y=>?_⟩
 obtain⟨e1,y⟩:=y
 have h1:=y _ (SqL.of (s _ _ e))
 rw[YE,Yf (show i<as.length by omega)]at h1
 cases h1
 exact⟨e1,_,rfl,s _ _ (hh i ⋯ hi)⟩
theorem Zo.sq {K:Frag}{H:Hp}{l:Addr}{rs:List (List Int)} (R:Zo H l rs):∃xs,SqL K H l xs:=by
 obtain⟨as,e,_⟩:=R
 exact⟨_,SqL.of e⟩
theorem Zk0 {K:Frag}{H:Hp}{n:Nat}{a c:Addr}{xs:List V} (h1:H a=some (.lst xs)) (h2:H c=some (.lst [])):EqD K H (n+1) (.ref a) (.ref c) (decide (xs=[])):=by
 cases xs with
 |nil =>
  have:=EqD.lst (K:=K) (H:=H) (n:=n) (λ_=>true) (SqL.of h1) (SqL.of h2) rfl λj x y e1 e2=>by simp at e1
  simpa using this
 |cons x xs =>
  have:=EqD.len (K:=K) (H:=H) (n:=n) (SqL.of h1) (SqL.of h2) (by simp)
  simpa using this
section
variable {N:Nat}{k:Nat->Int}{cmp:Nat->Nat->(Bool->Shared->Prop)->Shared->Prop}{s:Shared}{p:Array Nat}
noncomputable def kk (k:Nat->Int) (p:Array Nat) (i:Nat):Int:=k (p.getD i 0)
noncomputable def SoT (k:Nat->Int) (p:Array Nat) (m:Nat):Prop:=∀i j,i<=j->j<m->kk k p i<=kk k p j
noncomputable def DeT (k:Nat->Int) (p:Array Nat) (m:Nat):Prop:=∀i j,i<=j->j<m->kk k p j<=kk k p i
noncomputable def Bd (N:Nat) (p:Array Nat):Prop:=p.Perm (List.range N).toArray
theorem Zfx {p q:Array Nat}{i j:Nat} (h:p[i]?=q[j]?):kk k p i=kk k q j:=by
 unfold kk;rw[YI,YI,h]
theorem Bd.size (h:Bd N p):p.size=N:=by
 have:=(Array.perm_iff_toList_perm.mp h).length_eq
 simpa using this
theorem Bd.lt (h:Bd N p) (hN:0<N) (i:Nat):p.getD i 0<N:=by
 rw[YI]
 by_cases hi:i<p.size
 .rw[getElem?_pos p i hi]
  have:=(Array.Perm.mem_iff h (a:=p[i])).mp (Array.getElem_mem hi)
  simpa using this
 .rw[getElem?_neg p i hi];exact hN
theorem Bd.rev (h:Bd N p) (i j:Nat):Bd N (kas_rev p i j):=(mirror_perm p i j _).trans h
theorem Bd.bub (h:Bd N p) (i j:Nat):Bd N (bubble p i j):=(bubble_perm p i j).trans h
theorem Zoe {i j:Nat} (hj:j<=p.size) (x:Nat):kk k (kas_rev p i j) x=if i<=x/\x<j then kk k p (i+j-1-x)else kk k p x:=by
 have e:=getElem?_mirror_all (xs:=p) (i:=i) hj x
 by_cases h:i<=x/\x<j
 .rw[Yd h]at e⊢;exact Zfx e
 .rw[Yb h]at e⊢;exact Zfx e
theorem ZhX {i j:Nat} (hj:j<=p.size) (heq:∀x,i<=x->x<j->kk k p x=kk k p (j-1)) (x:Nat):kk k (kas_rev p i j) x=kk k p x:=by
 rw[Zoe hj]
 split
 .rw[heq _ ⋯ ⋯,heq x ⋯ ⋯]
 .rfl
theorem Zr4 {src d:Nat} (hs:src<p.size) (hd:d<=src) (x:Nat):kk k (bubble p src d) x=if x=src-d then kk k p src else if src-d<x/\x<=src then kk k p (x-1)else kk k p x:=by
 have e:=getElem?_bubble hs d hd x
 by_cases h1:x=src-d
 .rw[Yd h1]at e⊢;exact Zfx e
 .rw[Yb h1]at e⊢
  by_cases h2:src-d<x/\x<=src
  .rw[Yd h2]at e⊢;exact Zfx e
  .rw[Yb h2]at e⊢;exact Zfx e
noncomputable def Zfe (N:Nat) (k:Nat->Int) (cmp:Nat->Nat->(Bool->Shared->Prop)->Shared->Prop) (s:Shared):Prop:=∀i j C,i<N->j<N->C (decide (k i<k j)) s->cmp i j C s
theorem SoT.next {m:Nat} (h:SoT k p m) (h1:1<=m) (h2:kk k p (m-1)<=kk k p m):SoT k p (m+1):=by
 intro i j hij hj
 by_cases e:j=m
 .subst e
  by_cases e2:i=j
  .rw[e2];exact Int.le_refl _
  .exact Int.le_trans (h i (j-1) ⋯ ⋯) h2
 .exact h i j hij ⋯
theorem DeT.next {m:Nat} (h:DeT k p m) (h1:1<=m) (h2:kk k p m<=kk k p (m-1)):DeT k p (m+1):=by
 intro i j hij hj
 by_cases e:j=m
 .subst e
  by_cases e2:i=j
  .rw[e2];exact Int.le_refl _
  .exact Int.le_trans h2 (h i (j-1) ⋯ ⋯)
 .exact h i j hij ⋯
theorem Zof (hc:Zfe N k cmp s) (hN:0<N) (hB:Bd N p) {Q:Nat->Shared->Prop}:∀f n,1<=n->SoT k p n->(∀m,n<=m->m<=n+f->SoT k p m->(m<n+f->kk k p m<kk k p (m-1))->Q m s)->(kas_asc p f n).kasWp cmp Q s
 |0,n,h1,hS,h=>h n (Yc _) ⋯ hS (λz=>⋯)
 |f+1,n,h1,hS,h=>by
  refine hc _ _ _ (hB.lt hN n) (hB.lt hN (n-1)) ?_
  by_cases z:kk k p n<kk k p (n-1)
  .have:decide (k (p.getD n 0)<k (p.getD (n-1) 0))=true:=Yt z
   rw[this]
   exact h n (Yc _) ⋯ hS λ_=>z
  .have:decide (k (p.getD n 0)<k (p.getD (n-1) 0))=false:=Yz z
   rw[this]
   exact Zof hc hN hB f (n+1) ⋯ (hS.next h1 ⋯) λm m1 m2 hm hl=>h m ⋯ ⋯ hm λy=>hl ⋯
theorem ZiW (hc:Zfe N k cmp s) (hN:0<N) {Q:Array Nat×Nat×Nat->Shared->Prop}:∀f (p:Array Nat) n q,Bd N p->1<=n->n+f<=N->q<n->DeT k p n->(∀x,n-(q+1)<=x->x<n->kk k p x=kk k p (n-1)) ->
  (∀p' n' q',Bd N p'->n<=n'->n'<=n+f->q'<n'->DeT k p' n'->(∀x,n'-(q'+1)<=x->x<n'->kk k p' x=kk k p' (n'-1))->Q (p',n',q') s)->(kas_desc f p n q).kasWp cmp Q s
 |0,p,n,q,hB,h1,hn,hq,hD,he,h=>h p n q hB (Yc _) ⋯ hq hD he
 |f+1,p,n,q,hB,h1,hn,hq,hD,he,h=>by
  refine hc _ _ _ (hB.lt hN n) (hB.lt hN (n-1)) ?_
  have hz:=hB.size
  by_cases z:kk k p n<kk k p (n-1)
  .have:decide (k (p.getD n 0)<k (p.getD (n-1) 0))=true:=Yt z
   rw[this]
   show KasT.kasWp cmp (if q>0 then kas_desc f (kas_rev p (n-(q+1)) n) (n+1) 0 else kas_desc f p (n+1) 0) Q s
   by_cases y:q>0
   .rw[Yd y]
    have ke:=ZhX (k:=k) (p:=p) (i:=n-(q+1)) (j:=n) ⋯ he
    refine ZiW hc hN f _ (n+1) 0 (hB.rev _ _) ⋯ ⋯ ⋯ ?_ (λx x1 x2=>by rw[show x=n+1-1 by omega]) λp' n' q' b1 b2 b3=>h p' n' q' b1 ⋯ ⋯
    refine DeT.next (λi j i1 j1=>by rw[ke,ke];exact hD i j i1 j1) h1 (by rw[ke,ke];omega)
   .rw[Yb y]
    exact ZiW hc hN f p (n+1) 0 hB ⋯ ⋯ ⋯ (hD.next h1 ⋯) (λx x1 x2=>by rw[show x=n+1-1 by omega]) λp' n' q' b1 b2 b3=>h p' n' q' b1 ⋯ ⋯
  .have:decide (k (p.getD n 0)<k (p.getD (n-1) 0))=false:=Yz z
   rw[this]
   refine hc _ _ _ (hB.lt hN (n-1)) (hB.lt hN n) ?_
   by_cases y:kk k p (n-1)<kk k p n
   .have:decide (k (p.getD (n-1) 0)<k (p.getD n 0))=true:=Yt y
    rw[this]
    exact h p n q hB (Yc _) ⋯ hq hD he
   .have:decide (k (p.getD (n-1) 0)<k (p.getD n 0))=false:=Yz y
    rw[this]
    have e:kk k p n=kk k p (n-1):= ⋯
    refine ZiW hc hN f p (n+1) (q+1) hB ⋯ ⋯ ⋯ (hD.next h1 ⋯) (λx x1 x2=>?_) λp' n' q' b1 b2 b3=>h p' n' q' b1 ⋯ ⋯
    rw[Nat.add_sub_cancel]
    by_cases w:x=n
    .rw[w]
    .rw[e];exact he x ⋯ ⋯
theorem ZmV (hc:Zfe N k cmp s) (hN:0<N) {Q:Nat×Array Nat->Shared->Prop}{n nrem:Nat} (hB:Bd N p) (h1:1<=n) (hn:n<=nrem) (hr:nrem<=N) (hD:DeT k p n)
  (h:∀m p',Bd N p'->n<=m->m<=nrem->SoT k p' m->Q (m,p') s):(kas_tail3 n nrem p).kasWp cmp Q s:=by
 unfold kas_tail3
 rw[KasT.kasWp_bind]
 have hz:=hB.size
 refine Zof hc hN (hB.rev 0 n) _ n h1 (λi j hij hj=>?_) λm m1 m2 hS _=>h m _ (hB.rev 0 n) m1 ⋯ hS
 rw[Zoe ⋯,Zoe ⋯,Yd ⋯,Yd ⋯]
 exact hD _ _ ⋯ ⋯
theorem Zik (hc:Zfe N k cmp s) (hN:0<N) {Q:Nat×Array Nat->Shared->Prop}{n nrem:Nat} (hB:Bd N p) (hn:n+1<=nrem) (hr:nrem<=N) (hD:DeT k p (n+1))
  (h:∀m p',Bd N p'->1<=m->m<=nrem->SoT k p' m->Q (m,p') s):(kas_descPart n nrem p).kasWp cmp Q s:=by
 unfold kas_descPart
 rw[KasT.kasWp_bind]
 refine ZiW hc hN _ p (n+1) 0 hB ⋯ ⋯ ⋯ hD (λx x1 x2=>by rw[show x=n+1-1 by omega]) λp' n' q' b1 b2 b3 b4 hD' he=>?_
 show KasT.kasWp cmp (if q'>0 then kas_tail3 n' nrem (kas_rev p' (n'-(q'+1)) n')else kas_tail3 n' nrem p') Q s
 have hz:=b1.size
 by_cases y:q'>0
 .rw[Yd y]
  have ke:=ZhX (k:=k) (p:=p') (i:=n'-(q'+1)) (j:=n') ⋯ he
  exact ZmV hc hN (b1.rev _ _) ⋯ ⋯ hr (λi j i1 j1=>by rw[ke,ke];exact hD' i j i1 j1) λm p2 c1 c2 c3=>h m p2 c1 ⋯ c3
 .rw[Yb y]
  exact ZmV hc hN b1 ⋯ ⋯ hr hD' λm p2 c1 c2 c3=>h m p2 c1 ⋯ c3
theorem Zr5 (hc:Zfe N k cmp s) (hN:0<N) {Q:Nat×Array Nat->Shared->Prop}{nrem:Nat} (hB:Bd N p) (h0:1<=nrem) (hr:nrem<=N)
  (h:∀m p',Bd N p'->1<=m->m<=nrem->SoT k p' m->Q (m,p') s):(kas_count nrem p).kasWp cmp Q s:=by
 unfold kas_count
 rw[KasT.kasWp_bind]
 have hz:=hB.size
 refine Zof hc hN hB _ 1 (Yc _) (λi j hij hj=>by rw[show i=j by omega];exact Int.le_refl _) λn n1 n2 hS hl=>?_
 by_cases e:(n==nrem)=true
 .rw[Yd e]
  exact h n p hB n1 ⋯ hS
 .rw[Yb e]
  have ne:n≠nrem:=λz=>e (by rw[z];exact beq_self_eq_true _)
  have hlt:=hl ⋯
  by_cases y:n>1
  .rw[Yd y]
   refine hc _ _ _ (hB.lt hN 0) (hB.lt hN (n-1)) ?_
   by_cases z:kk k p 0<kk k p (n-1)
   .have:decide (k (p.getD 0 0)<k (p.getD (n-1) 0))=true:=Yt z
    rw[this]
    exact h n p hB n1 ⋯ hS
   .have:decide (k (p.getD 0 0)<k (p.getD (n-1) 0))=false:=Yz z
    rw[this]
    have alle:∀x,0<=x->x<n->kk k p x=kk k p (n-1):=λx _ hx=>by
     have a:=hS 0 x ⋯ hx
     have b:=hS x (n-1) ⋯ ⋯
     omega
    have ke:=ZhX (k:=k) (p:=p) (i:=0) (j:=n) ⋯ alle
    refine Zik hc hN (hB.rev 0 n) ⋯ hr (DeT.next (λi j i1 j1=>?_) ⋯ (by rw[ke,ke];omega)) h
    rw[ke,ke,alle i ⋯ ⋯,alle j ⋯ ⋯]
    exact Int.le_refl _
  .rw[Yb y]
   have:n=1:= ⋯
   subst this
   exact Zik hc hN hB ⋯ hr (DeT.next (λi j i1 j1=>by rw[show i=j by omega];exact Int.le_refl _) (Yc _) ⋯) h
theorem Zjo (hc:Zfe N k cmp s) (hN:0<N) (hB:Bd N p) {x:Nat}{Q:Nat->Shared->Prop} (hS:SoT k p x):∀f l r,l<=r->r<=x->r-l<=f->(∀i,i<l->kk k p i<=kk k p x)->(∀i,r<=i->i<x->kk k p x<kk k p i) ->
  (∀l,l<=x->(∀i,i<l->kk k p i<=kk k p x)->(∀i,l<=i->i<x->kk k p x<kk k p i)->Q l s)->(kas_place p x f l r).kasWp cmp Q s
 |0,l,r,h1,h2,h3,hlo,hhi,h=>h l ⋯ hlo (λi i1 i2=>hhi i ⋯ i2)
 |f+1,l,r,h1,h2,h3,hlo,hhi,h=>by
  show KasT.kasWp cmp (if l ≥ r then .ret l else .ask (p.getD x 0) (p.getD ((l+r) / 2) 0) λc=>if c=true then kas_place p x f l ((l+r) / 2)else kas_place p x f ((l+r) / 2+1) r) Q s
  by_cases y:l ≥ r
  .rw[Yd y]
   exact h l ⋯ hlo (λi i1 i2=>hhi i ⋯ i2)
  .rw[Yb y]
   refine hc _ _ _ (hB.lt hN x) (hB.lt hN _) ?_
   by_cases z:kk k p x<kk k p ((l+r) / 2)
   .have:decide (k (p.getD x 0)<k (p.getD ((l+r) / 2) 0))=true:=Yt z
    rw[this]
    exact Zjo hc hN hB hS f l ((l+r) / 2) ⋯ ⋯ ⋯ hlo (λi i1 i2=>Int.lt_of_lt_of_le z (hS _ _ i1 i2)) h
   .have:decide (k (p.getD x 0)<k (p.getD ((l+r) / 2) 0))=false:=Yz z
    rw[this]
    exact Zjo hc hN hB hS f ((l+r) / 2+1) r ⋯ ⋯ ⋯ (λi i1=>Int.le_trans (hS i ((l+r) / 2) ⋯ ⋯) (Int.not_lt.mp z)) hhi h
theorem Zr6 (hc:Zfe N k cmp s) (hN:0<N) {Q:Array Nat->Shared->Prop}:∀f (p:Array Nat) x,Bd N p->x+f<=N->SoT k p x->(∀p',Bd N p'->SoT k p' (x+f)->Q p' s)->(kas_bin f p x).kasWp cmp Q s
 |0,p,x,hB,hx,hS,h=>h p hB hS
 |f+1,p,x,hB,hx,hS,h=>by
  show KasT.kasWp cmp ((kas_place p x x 0 x).bind λl=>kas_bin f (bubble p x (x-l)) (x+1)) Q s
  rw[KasT.kasWp_bind]
  have hz:=hB.size
  refine Zjo hc hN hB hS x 0 x ⋯ (Yc _) ⋯ (λi hi=>⋯) (λi i1 i2=>⋯) λl hl hlo hhi=>?_
  refine Zr6 hc hN f _ (x+1) (hB.bub _ _) ⋯ (λi j hij hj=>?_) λp' b1 b2=>h p' b1 (by rw[show x+(f+1)=x+1+f by omega];exact b2)
  rw[Zr4 ⋯ ⋯,Zr4 ⋯ ⋯,show x-(x-l)=l by omega]
  repeat' split
  all_goals first
   |(exfalso;omega)
   |exact Int.le_refl _
   |exact hlo _ ⋯
   |exact Int.le_of_lt (hhi _ ⋯ ⋯)
   |exact hS _ _ ⋯ ⋯
theorem ZuR (hN:0<N) (hc:Zfe N k cmp s) {Q:Array Nat->Shared->Prop} (h:∀p,Bd N p->SoT k p N->Q p s):(kas_sort N).kasWp cmp Q s:=by
 unfold kas_sort
 rw[KasT.kasWp_bind]
 refine Zr5 hc hN (show Bd N (List.toArray (List.range N))from Array.Perm.refl _) ⋯ (Yc _) λm p' b1 b2 b3 b4=>?_
 show KasT.kasWp cmp (if m<N then kas_bin (N-max m 1) p' (max m 1)else .ret p') Q s
 by_cases y:m<N
 .rw[Yd y]
  have e:max m 1=m:= ⋯
  rw[e]
  exact Zr6 hc hN _ p' m b1 ⋯ b4 λp2 c1 c2=>h p2 c1 (by rw[show m+(N-m)=N by omega]at c2;exact c2)
 .rw[Yb y]
  have:m=N:= ⋯
  subst this
  exact h p' b1 b4
end
section
variable {prog:Program}{w:World}{E:Value->Shared->Prop}{s:Shared}
noncomputable def Zcn (vs:List Value) (p:Array Nat):Array Value:=List.toArray (p.toList.map λi=>vs.getD i Value.none)
theorem Zog {A:Around}{κ:SortKind}{key:Nat->Int}{a:Addr}{vs:List Value}{n:Nat}{P:PySem.Fin->Shared->Prop} (ho:s.heap.get? a=some (seqObj "list" vs.toArray n)) (h64:vs.length<64)
  (hk:∀s':Shared,(∀b o,b≠a->s.heap.get? b=some o->s'.heap.get? b=some o)->2<=vs.length->(∀Q:SortKind->Shared->Prop,Q κ s'->wpAny (model prog w) A (keyKind' vs.toArray) Q E s')/\Zfe vs.length key (kas_ask prog w A κ vs) s')
  (fin:∀p:Array Nat,Bd vs.length p->SoT key p vs.length->P (.done (.ret .none)) {s with heap:=sortedHeap s.heap a vs (Zcn vs p)}):wpAny (model prog w) A (Builtin.«list.sort» ⟨[.ref a],[]⟩) P E s:=by
 have lt:=Yl ho
 obtain⟨c1,oc1⟩:∃c1,(s.heap.update a (Obj.mapSeq λ_=>#[])).get? a=some (seqObj "list" #[] c1):=⟨_,get?_update_seq ho λ_=>#[]⟩
 have oc6:(((s.heap.update a (Obj.mapSeq λ_=>#[])).push (seqObj "tuple" vs.toArray 0)).push (seqObj "list" #[] 0)).get? a=some (seqObj "list" #[] c1):=Ym _ (Ym _ oc1)
 have kp:∀b o,b≠a->s.heap.get? b=some o->(((s.heap.update a (Obj.mapSeq λ_=>#[])).push (seqObj "tuple" vs.toArray 0)).push (seqObj "list" #[] 0)).get? b=some o:=λb o nb e =>
  Ym _ (Ym _ (by rw[Heap.get?_update_ne _ _ _ _ nb];exact e))
 have z1:vs.toArray.size=vs.length:=Ys ..
 have za:∀p:Array Nat,Bd vs.length p->(Zcn vs p).size<=sizeLine:=λp hp=>by
  have:=hp.size
  unfold Zcn
  rw[Ys,Yi,Yp,this,sizeLine_eq];omega
 rw[list_sort_plain]
 have hob:=ho
 refine Ya (listItems_at hob rfl (Ya ?_))
 refine listUpdate_at hob rfl (Ya (seqEpoch_at oc1 rfl (Ya ?_))) (by rw[z1,sizeLine_eq];omega) (Yq _)
 refine wpAny_newTuple (Ya ?_) (Yr (show vs.length<=64 by omega) nofun)
 refine wpAny_newList (YH ?_) (Yq _)
 show wpAny (model prog w) A _ P E {s with heap:=(((s.heap.update a (Obj.mapSeq λ_=>#[])).push (seqObj "tuple" vs.toArray 0)).push (seqObj "list" #[] 0))}
 dsimp only
 by_cases h2:vs.toArray.size<2
 .rw[Yd h2,Yd h2]
  refine Ya (Ye ?_)
  rw[StateT.run_pure]
  refine Ya (Ye ?_)
  have hB:Bd vs.length (List.range vs.length).toArray:=Array.Perm.refl _
  have e:=kas_range (vs.toArray.zip vs.toArray)
  rw[show(vs.toArray.zip vs.toArray).size=vs.length by simp]at e
  have eo:(arrOf (SortSt.mk' general' (vs.toArray.zip vs.toArray) #[] 7 none)).map (·.2)=Zcn vs (List.range vs.length).toArray:=kat_snds (ks:=vs) (vs:=vs) rfl e.symm
  dsimp only
  rw[eo]
  refine Ya (seqEpoch_at oc6 rfl (Ya (listUpdate_at oc6 rfl ?_ (Yq _) (Nat.le_succ_of_le (za _ hB)))))
  simp only[bne_self_eq_false,Bool.false_eq_true,if_false]
  exact Ye (fin _ hB λi j h1 hj=>by rw[show i=j by omega];exact Int.le_refl _)
 .rw[Yb h2,Yb h2]
  have h2':2<=vs.length:= ⋯
  obtain⟨hk1,hk2⟩:=hk {s with heap:=(((s.heap.update a (Obj.mapSeq λ_=>#[])).push (seqObj "tuple" vs.toArray 0)).push (seqObj "list" #[] 0))} kp h2'
  refine Ya (hk1 _ (Ya (YJ (kat_run (ks:=vs) (vs:=vs) (Q:=λst s'=>∃p:Array Nat,Bd vs.length p/\SoT key p vs.length/\arrOf st=p.map (kas_item (vs.toArray.zip vs.toArray))/\failedOf st=none/\s'={s with heap:=(((s.heap.update a (Obj.mapSeq λ_=>#[])).push (seqObj "tuple" vs.toArray 0)).push (seqObj "list" #[] 0))})
   (G:=λp s'=>Bd vs.length p/\SoT key p vs.length/\s'={s with heap:=(((s.heap.update a (Obj.mapSeq λ_=>#[])).push (seqObj "tuple" vs.toArray 0)).push (seqObj "list" #[] 0))}) rfl h2' h64 (λp st s' _ a2 a3 a4=>⟨p,a4.1,a4.2.1,a2,a3,a4.2.2⟩) (ZuR ⋯ hk2 λp b1 b2=>⟨b1,b2,rfl⟩)) ?_ λ_ _ z=>z)))
  rintro⟨⟨⟩,st⟩ s' ⟨p,b1,b2,har,hf,rfl⟩
  have eo:(arrOf st).map (·.2)=Zcn vs p:=kat_snds (ks:=vs) (vs:=vs) rfl har
  dsimp only
  rw[eo]
  refine Ya (seqEpoch_at oc6 rfl (Ya (listUpdate_at oc6 rfl ?_ (Yq _) (Nat.le_succ_of_le (za _ b1)))))
  rw[hf]
  simp only[bne_self_eq_false,Bool.false_eq_true,if_false]
  exact Ye (fin p b1 b2)
noncomputable def Pr (h:Heap) (v:Value) (x y:Int):Prop:=∃a o n t u,v=.ref a/\h.get? a=some o/\o.cls=.type "tuple"/\o.data=.seq #[.int x t,.int y u] n
theorem Pr.keep {h h':Heap}{v:Value}{x y:Int} (p:Pr h v x y) (k:∀b o,h.get? b=some o->h'.get? b=some o):Pr h' v x y:=by
 obtain⟨a,o,n,t,u,e,g,r⟩:=p
 exact⟨a,o,n,t,u,e,k _ _ g,r⟩
theorem ZpF {h:Heap}:∀{vs:List Value},(∀v∈vs,∃x y,Pr h v x y)->∃fs,KatTups h vs fs/\fs.length=vs.length/\∀f∈fs,∃x t,f=Value.int x t
 |[],_=>⟨[],trivial,rfl,λf hf=>by cases hf⟩
 |v::vs,hv=>by
  obtain⟨fs,h1,h2,h3⟩:=ZpF (λu hu=>hv u (Yu _ hu))
  obtain⟨x,y,a,o,n,t,u,rfl,e,c,d⟩:=hv v Yv
  refine⟨.int x t::fs,KatTups.cons e c d rfl h1,by simp[h2],λf hf=>?_⟩
  rcases Yk.mp hf with rfl|hf
  .exact⟨x,t,rfl⟩
  .exact h3 f hf
theorem Zoh {A:Around}{vs:List Value}{Q:SortKind->Shared->Prop} (h2:2<=vs.length) (hv:∀v∈vs,∃x y,Pr s.heap v x y) (h:Q (tuples' true) s):wpAny (model prog w) A (keyKind' vs.toArray) Q E s:=by
 obtain⟨fs,h1,hl,h3⟩:=ZpF hv
 refine kat_kind h1 ⋯ (T:=.type "int") (λf hf=>?_) nofun ?_
 .obtain⟨x,t,rfl⟩:=h3 f hf
  exact .now
 .rw[show(Value.type "int" != Value.type "tuple")=true by decide];exact h
theorem Zr7 {A:Around}{v v':Value}{x y x' y':Int}{C:Bool->Shared->Prop} (p:Pr s.heap v x y) (p':Pr s.heap v' x' y') (h:C (decide (x<x'\/(x=x'/\y<y'))) s):wpAny (model prog w) A (keyLt' (tuples' true) v v') C E s:=by
 obtain⟨a,o,n,t,u,rfl,e,c,d⟩:=p
 obtain⟨a',o',n',t',u',rfl,e',c',d'⟩:=p'
 refine kat_lt e d e' d' ?_
 show KatLex prog w A true _ C [(.int x t,.int x' t'),(.int y u,.int y' u')] 0 s
 refine kat_cons (wpAny_eqBool_int ?_)
 by_cases ex:x=x'
 .rw[show(x==x')=true from beq_iff_eq.mpr ex]
  refine kat_yes (kat_cons (wpAny_eqBool_int ?_))
  by_cases ey:y=y'
  .rw[show(y==y')=true from beq_iff_eq.mpr ey]
   refine kat_yes (kat_nil ?_)
   have:decide (x<x'\/(x=x'/\y<y'))=false:=Yz ⋯
   rw[this]at h
   exact h
  .rw[show(y==y')=false from beq_eq_false_iff_ne.mpr ey]
   refine kat_no (kat_one _ _ (PyProof.Rows.lt_int (show C (decide (y<y')) s from ?_)))
   have:decide (x<x'\/(x=x'/\y<y'))=decide (y<y'):=decide_eq_decide.mpr ⋯
   rw[this]at h
   exact h
 .rw[show(x==x')=false from beq_eq_false_iff_ne.mpr ex]
  refine kat_no (oneLt_int ?_)
  have:decide (x<x'\/(x=x'/\y<y'))=decide (x<x'):=decide_eq_decide.mpr ⋯
  rw[this]at h
  exact h
end
section
variable {X:Cx}
noncomputable def Zem (r:List Int):Int:=r.getD 0 0*100000+r.getD 1 0
end
theorem Zo.keep {H H':Hp}{l:Addr}{rs:List (List Int)} (R:Zo H l rs) (h1:∀xs,H l=some (.lst xs)->H' l=some (.lst xs)) (h2:∀a xs,H a=some (.tup xs)->H' a=some (.tup xs)):Zo H' l rs:=by
 obtain⟨as,e,hl,h⟩:=R
 exact⟨as,h1 _ e,hl,λi i1 i2=>h2 _ _ (h i i1 i2)⟩
theorem Zk1 {ns T:List Int} (hT:Zp ns T):∀k p o,p<ns.length->(way T p).length=k->o∈way T p->∃X,way T p=X++o::way T o:=by
 intro k
 induction k with
 |zero =>
  intro p o hp hk ho
  rw[List.length_eq_zero_iff.mp hk]at ho
  cases ho
 |succ k ih =>
  intro p o hp hk ho
  rcases Zca hT hp with z|⟨q,e,hq,_,_⟩
  .rw[ZlQ z]at ho;cases ho
  .have hw:=ZcQ hT hp e
   rw[hw]at ho hk⊢
   rcases Yk.mp ho with rfl|ho
   .exact⟨[],rfl⟩
   .obtain⟨X,hX⟩:=ih q o hq (by simpa using hk) ho
    exact⟨q::X,by rw[hX];rfl⟩
theorem Zk2 (Y:List Int) (m:Int):atI ((Y++[m]).map V.int) (-1)=some (V.int m):=atI_m1 (by simp) (by simp)
theorem ZuS (f:Nat->Int) (n p:Nat):ZbE f n p\/∃r,Z8 f n p r:=by
 by_cases h:∀j,j<n-(p+1)->f p<=f (p+1+j)
 .exact .inl λr h1 h2=>by
   have:=h (r-(p+1)) ⋯
   rwa [show p+1+(r-(p+1))=r by omega]at this
 .obtain⟨j,hj,h1,h2⟩:=ZkZ _ h
  refine .inr ⟨p+1+j,⋯,⋯,⋯,λs s1 s2=>?_⟩
  have:=h2 (s-(p+1)) ⋯
  rwa [show p+1+(s-(p+1))=s by omega]at this
noncomputable def Zr8 (f:Nat->Int) (p k:Nat):Prop:=p<k/\f k<f p/\∀s,p<s->s<k->f p<=f s
open Classical in
noncomputable def ZlT (f:Nat->Int) (k:Nat):Nat:=(List.range k).countP λp=>decide (Zr8 f p k)
theorem ZqD {B:List Nat}{n:Nat} (hB:B.Nodup) (hlt:∀q∈B,q<n):(List.range n).countP (λp=>decide (p∈B))=B.length:=by
 rw[List.countP_eq_length_filter]
 refine List.Perm.length_eq ((List.perm_ext_iff_of_nodup (List.nodup_range.filter _) hB).mpr λa=>?_)
 rw[YQ,Yy,decide_eq_true_iff]
 exact⟨λh=>h.2,λh=>⟨hlt a h,h⟩⟩
theorem Zoi {f:Nat->Int}{i:Nat}{A B:List Nat} (hs:Zjh f i (A++B)) (hA:∀q∈A,f q<=f i) (hB:∀q∈B,f i<f q):ZlT f i=B.length:=by
 have hm:∀p,Zr8 f p i↔p∈B:=λp=>by
  constructor
  .rintro⟨h1,h2,h3⟩
   rcases YB.mp ((hs.2 p).mpr ⟨h1,h3⟩)with z|z
   .have:=hA p z;omega
   .exact z
  .intro z
   obtain⟨h1,h2⟩:=(hs.2 p).mp (Yn _ z)
   exact⟨h1,hB p z,h2⟩
 have nd:B.Nodup:=(List.pairwise_append.mp hs.1).2.1.imp λh=>Yo h
 have hlt:∀q∈B,q<i:=λq hq=>((hs.2 q).mp (Yn _ hq)).1
 unfold ZlT
 rw[<-ZqD nd hlt]
 refine List.countP_congr λp _=>?_
 simp[hm p]
noncomputable def Zan (ds:List Nat):Nat->List Nat×List Int
 |0=>([],List.replicate ds.length (-1))
 |i+1=>(((Zan ds i).1.take ((Zan ds i).1.length-ds.getD i 0))++[i],Zgk (Zan ds i).2 ((Zan ds i).1.take ((Zan ds i).1.length-ds.getD i 0)) ((Zan ds i).1.drop ((Zan ds i).1.length-ds.getD i 0)) i)
theorem ZmW {ds:List Nat}{i:Nat}{A B:List Nat} (h:(Zan ds i).1=A++B) (hB:B.length=ds.getD i 0):Zan ds (i+1)=(A++[i],Zgk (Zan ds i).2 A B i):=by
 have e:(Zan ds i).1.length-ds.getD i 0=A.length:=by rw[h,YS];omega
 show(((Zan ds i).1.take ((Zan ds i).1.length-ds.getD i 0))++[i],Zgk (Zan ds i).2 ((Zan ds i).1.take ((Zan ds i).1.length-ds.getD i 0)) ((Zan ds i).1.drop ((Zan ds i).1.length-ds.getD i 0)) i)=_
 rw[e,h,List.take_left,List.drop_left]
noncomputable def Zfy (f:Nat->Int) (n:Nat):List Nat:=(List.range n).map (ZlT f)
theorem Zjp (f:Nat->Int) (n:Nat):(Zfy f n).length=n:=by simp[Zfy]
theorem ZqE {f:Nat->Int}{n k:Nat} (h:k<n):(Zfy f n).getD k 0=ZlT f k:=by simp[Zfy,Yh,h]
end Lake
namespace Lake
open PySem PySem.Spec PyProof.Rows PySem.W
theorem Zjq (ns:List Int):∀i,i<=ns.length->∃S es,Zan (Zfy (nth ns) ns.length) i=(S,es)/\Zjh (nth ns) i S/\es.length=ns.length/\(∀p,p<i->Zx (nth ns) i p (es.getD p 0))/\∀p,i<=p->p<ns.length->es.getD p 0=-1
 |0,_=>⟨[],List.replicate (Zfy (nth ns) ns.length).length (-1),rfl,⟨List.Pairwise.nil,λq=>by simp⟩,by simp[Zjp],λp hp=>⋯,λp _ hp=>by simp[Yh,Zjp,hp]⟩
 |i+1,hi=>by
  obtain⟨S,es,h1,hS,hl,hE,hE2⟩:=Zjq ns i ⋯
  obtain⟨A,B,rfl,hA,hB⟩:=ZmT (f:=nth ns) (nth ns i) S hS.mono
  have SS:=Zji hS hA hB
  have hB':B.length=(Zfy (nth ns) ns.length).getD i 0:=by rw[ZqE ⋯,Zoi hS hA hB]
  have st:=ZmW (ds:=Zfy (nth ns) ns.length) (i:=i) (A:=A) (B:=B) (by rw[h1]) hB'
  rw[h1]at st
  have hmem:∀q∈A++B,q<i:=λq hq=>((hS.2 q).mp hq).1
  have hbi:∀b,B.head?=some b->b≠i:=λb hb=>by
   have:=hmem b (Yn _ (List.mem_of_head? hb));omega
  refine⟨A++[i],Zgk es A B i,st,SS.1,by rw[ZmN];exact hl,λp hp=>?_,λp hp1 hp2=>?_⟩
  .rw[ZiU _ _ _ _ _ ⋯ hbi]
   by_cases z:p=i
   .subst z
    rw[Yd rfl,hE2 p (Yc _) ⋯]
    exact SS.2.1
   .rw[Yb z]
    exact SS.2.2 p _ ⋯ (hE p ⋯)
  .rw[ZiU _ _ _ _ _ ⋯ hbi,Yb ⋯,Yb (λz=>?_)]
   .exact hE2 p ⋯ hp2
   .have:=hmem p (Yn _ (List.mem_of_head? z));omega
theorem ZpG (ns:List Int):∃T,Zp ns T:=by
 obtain⟨S,es,_,_,hl,hE,_⟩:=Zjq ns ns.length (Yc _)
 exact⟨es,hl,λp hp=>hE p hp⟩
end Lake
namespace Lake
noncomputable def Ok:Nat->List Nat->Prop
 |_,[]=>True
 |st,d::ds=>d<=st/\Ok (st-d+1) ds
end Lake
namespace Lake
open PySem PySem.Spec PyProof.Rows PySem.W
end Lake
namespace Lake
open PySem PySem.Spec PyProof.Rows
end Lake
namespace Lake
open PySem PySem.Spec PyProof.Rows PySem.W PySem.Calls
theorem ZlU {prog:Program}{w:World}{A:Around}{E:Value->Shared->Prop}{s:Shared}{T:String}{r d:Addr}{n:Nat}{P:Nat->Value->Prop}{OK:Heap->Prop}{R:List Value->Shared->Prop} (S:KdlSrc prog w T r d n P OK) (hh:A.handled=none) (ok:OK s.heap) (hn:n<=sizeLine)
  (k:∀(h':Heap) (tk:Nat) (acc:Array Value),(∀b o,s.heap.get? b=some o->h'.get? b=some o)->s.heap.objs.size<h'.objs.size->ItemsOf P acc n->R acc.toList {s with heap:=h',toks:=tk}):wpAny (model prog w) A (collect (.ref r)) R E s:=by
 obtain⟨lr,ld⟩:=S.there _ ok
 unfold collect;refine Ya (wpAny_runValue (codeAny_builtin entry_proto_collect' ?_));rw[Around.under_plainId PySem.F.plain_proto_collect _]
 show wpAny _ A.in1 (newList [] >>= λz=>again (.builtin "list.__iadd__" ⟨[z,.ref r],[]⟩)) _ _ s
 refine Ya (wpAny_newObj_type (Ye ⟨plainId_quiet PySem.F.plain_list_iadd _,codeAny_builtin entry_list_iadd' ?_⟩));rw[Around.under_plainId PySem.F.plain_list_iadd _]
 have g0:(s.heap.push {cls:=.type "list",data:=.seq ([]:List Value).toArray}).get? s.heap.objs.size=some {cls:=.type "list",data:=.seq #[]} :=
  YC _ rfl
 show wpAny _ A.in1 (Builtin.List.listExtendWith (.ref s.heap.objs.size) (.ref r) (.ref s.heap.objs.size)) _ E
  {s with heap:=s.heap.push {cls:=.type "list",data:=.seq ([]:List Value).toArray}}
 have main:=kdl_extend (A:=A) (s:={s with heap:=s.heap.push {cls:=.type "list",data:=.seq ([]:List Value).toArray}}) (R:=λ(q:Result) (z:Shared)=>∃(h':Heap) (tk:Nat) (acc:Array Value) (c:Nat),q=.ok (.ret (.ref s.heap.objs.size))/\z={s with heap:=h',toks:=tk}/\(∀b o,s.heap.get? b=some o->h'.get? b=some o)/\h'.get? s.heap.objs.size=some {cls:=.type "list",dict:=none,data:=.seq acc c,slots:=#[]}/\ItemsOf P acc n)
  S hh (S.keep _ _ ok λb _ o e=>Ym _ e) s.heap.objs.size (Nat.ne_of_gt lr) (Nat.ne_of_gt ld) (.ref s.heap.objs.size) 0 g0 (λh' tk acc c e1 e2 e3=>⟨h',tk,acc,c,rfl,rfl,λb o e=>e1 b o (Yo (Yl e)) (Ym _ e),e2,e3⟩) hn
 refine YJ main (λfin z x=>?_) λe z x=>by obtain⟨_,_,_,_,q,_⟩:=x;cases q
 cases fin with
 |done f =>
  obtain⟨h',tk,acc,c,e,rfl,e1,e2,e3⟩:=x;cases e
  exact Ya (m:=load s.heap.objs.size) (wpAny_load e2 (Ye (k h' tk acc e1 (Yl e2) e3)))
 |again c₁ =>
  refine⟨x.1,codeAny_mono x.2 λq z y=>?_⟩
  obtain⟨h',tk,acc,c,rfl,rfl,e1,e2,e3⟩:=y
  exact Ya (m:=load s.heap.objs.size) (wpAny_load e2 (Ye (k h' tk acc e1 (Yl e2) e3)))
end Lake
namespace Lake
open PySem PySem.Spec PyProof.Rows PySem.W
theorem ZuT {M:Program}{w:World}{A:Around}{E:Value->Shared->Prop}{s:Shared}{t b:Addr}{vs ws:List Value}{Q:Value->Shared->Prop} (ht:IsTup s.heap t vs.toArray) (hb:IsTup s.heap b ws.toArray) (hv:vs=[]) (h:Q (.ref b) s):wpAny (model M w) A (binaryOp .Add (.ref t) (.ref b)) Q E s:=by
 obtain⟨⟨k1,d1,x1,l1⟩,e1,c1,n1,y1⟩:=id ht
 obtain⟨⟨k2,d2,x2,l2⟩,e2,c2,n2,y2⟩:=id hb
 simp only at c1 y1 c2 y2
 subst c1 y1 c2 y2
 exact concat_meets ⟨_,e1,rfl⟩ ⟨_,e2,rfl⟩ noFill_tuple_add seq_tuple_add PySem.F.slot_tuple_add PySem.F.entry_tuple_add (PySem.F.args_tuple_add_2 _ _) (tuple_addW0 t b vs.toArray ws.toArray n1 n2 d1 d2 l1 l2 (by simp[hv])) ⟨e1,e2,h⟩
section
variable {X:Cx}
noncomputable def ZmX:R2:=λx y H Q=>∃(a b:Addr) (xs ys:List V),x=.ref a/\y=.ref b/\H a=some (.tup xs)/\H b=some (.tup ys)/\xs.length+ys.length<=sizeLine/\∀(p:Addr) H',Zd H H'->H' p=some (.tup (xs++ys))->Q (.ref p) H'
theorem ZuU:OpR X (binaryOp .Add) ZmX:=by
 intro pins s σ H x y v u Q I rx ry h
 obtain⟨a,b,xs,ys,rfl,rfl,ha,hb,hz,q⟩:=h
 cases rx
 cases ry
 obtain⟨its,r1,p1,_⟩:=I.tuple (SqT.of ha)
 obtain⟨its2,r2,p2,_⟩:=I.tuple (SqT.of hb)
 by_cases hx:xs=[]
 .exact ZuT p1 p2 (r1.Zlw.mpr hx) ⟨.ref b,H,I,rfl,q b H (Zd.refl H) (by rw[hx];exact hb)⟩
 refine HT.ZuD p1 p2 (λz=>hx (r1.Zlw.mp z)) (λz=>⟨.ref a,H,I,rfl,q a H (Zd.refl H) (by rw[r2.Zlw.mp z,List.append_nil];exact ha)⟩) (λz=>?_) (by rw[<-r1.length,<-r2.length];exact hz)
 refine⟨.ref s.heap.objs.size,_,I.laid (t':=s.toks) (o:=.tup (xs++ys)) (λb ob q=>Ym _ q) (Yc _) ?_,rfl,q _ _ ((Zd.refl H).upd (I.hok.fresh (Yc _))) Zc⟩
 exact⟨by rw[YS];exact hz,_,r1.append r2,IsTup.new _ _⟩
noncomputable def Zr9 (K:Frag):R2:=λx y H Q=>∃(a b:Addr) (xs ys:List V),x=.ref a/\y=.ref b/\SqL K H a xs/\SqL K H b ys/\xs.length+ys.length<=sizeLine/\∀p,H p=none->Q (.ref p) (upd H p (.lst (xs++ys)))
theorem ZuV {K:Frag} (hK:X.K=K):OpR X (binaryOp .Add) (Zr9 K):=by
 subst hK
 intro pins s σ H x y v u Q I rx ry h
 obtain⟨a,b,xs,ys,rfl,rfl,ha,hb,hz,q⟩:=h
 cases rx
 cases ry
 obtain⟨its,r1,p1,_⟩:=I.list ha
 obtain⟨its2,r2,p2,_⟩:=I.list hb
 obtain⟨⟨c1,d1,x1,l1⟩,e1,k1,n1,y1⟩:=p1.isList
 obtain⟨⟨c2,d2,x2,l2⟩,e2,k2,n2,y2⟩:=p2.isList
 simp only at k1 y1 k2 y2
 subst k1 y1 k2 y2
 refine concat_meets ⟨_,e1,rfl⟩ ⟨_,e2,rfl⟩ noFill_list_add seq_list_add PySem.F.slot_list_add PySem.F.entry_list_add (PySem.F.args_list_add_2 _ _) (list_addW a b its.toArray its2.toArray n1 n2 d1 d2 l1 l2 (by rw[Ys,Ys,<-r1.length,<-r2.length];exact hz)) ⟨e1,e2,?_⟩
 have ea:its.toArray++its2.toArray=(its++its2).toArray:=by simp
 rw[ea]
 exact⟨.ref _,_,I.lnew (t':=s.toks) (r1.append r2) (by rw[YS];exact hz),rfl,q _ I.fresh⟩
end
noncomputable abbrev itO (l:Addr):Obj:={cls:=.type "list_iterator",data:=.fields #[.ref l,.int 0 0]}
noncomputable abbrev zA (h:Heap) (a:Addr):Heap:=h.push (itO a)
noncomputable abbrev zB (h:Heap) (a b:Addr):Heap:=(zA h a).push (itO b)
section
variable {X:Cx}
theorem ZqF (hc:X.calm=true):Za1 X (.builtin "max") (λxs H Q=>∃(p:Addr) (ns:List Int),xs=[.ref p]/\SqL X.K H p (ns.map V.int)/\ns≠[]/\∀m,m∈ns->(∀a∈ns,a<=m)->Q (.int m) H):=by
 intro pins s σ H xs us Q I r h
 obtain⟨p,ns,rfl,hp,hne,q⟩:=h
 obtain⟨u,rfl,ru⟩:=r.one
 cases(show u=Value.ref p from ru)
 obtain⟨its,rv,pl,hz⟩:=I.list hp
 obtain⟨ys,e1,e2⟩:=ZlJ rv
 have hsz:0<ys.size:=by
  have:=congrArg List.length e2
  rw[Yi,Yp]at this
  cases ns with
  |nil=>exact absurd rfl hne
  |cons=>simp at this;omega
 refine max_intList (xs:=ys) (I.ok.hd hc) (e1▸pl.isList) hsz λv h' tk hv k=>?_
 obtain⟨tq,rfl⟩:=intItems_at hv
 obtain⟨h1,h2⟩:=argBest_gt (numAt ys) (ys.size-1)
 refine⟨.int _,H,I.kept k,⟨tq,rfl⟩,q _ ?_ λa ha=>?_⟩
 .rw[numAt_eq,e2];exact getD_mem (by rw[<-e2,Yi,Yp];omega)
 .obtain⟨jq,hj,rfl⟩:=mem_getD ha
  rw[<-e2,Yi,Yp]at hj
  rw[<-e2,<-numAt_eq];exact h2 jq ⋯
end
section
variable {X:Cx}
theorem pe_bmK {K:Frag}{T:String}{id:String}{name:Str}{r:V->List V->Hp->VK->Prop}{o e:Expr}{es:List Expr}{to:TE}{t:TA}{apos cpos:Pos} (hK:X.K=K) (pa:PlainAttrs T) (slot:Slot T name id) (hty:typeOf (.builtin id)=pure (.type "method_descriptor")) (hm:MtM X id r) (ho:PE X o to) (ha:PA X (e::es) t)
  (hbase:attributeBase o name X.env (eval o X.env)=eval o X.env:=by rfl)
  (hfew:((backTo cpos (starEach (e::es) X.env)).all (λx=>!x.1)&&(backToKw cpos (keywordEach [] X.env)).all (λx=>x.1.isSome)
   && decide ((e::es).length+([]:List Keyword).length+(if ([]:List Keyword).isEmpty then 0 else 1)<30))=true:=by rfl)
  (hline:(apos.endLine==cpos.line)=true:=by rfl) (hs:starEach (e::es) X.env=(false,eval e X.env)::starEach es X.env:=by rfl) (hplain:(backTo cpos (starEach es X.env)).any (·.1)=false:=by rfl) :
  PE X (.Call (.Attribute o name apos) (e::es) [] cpos) (tBM K T r to t):=by
 subst hK
 exact Zdb pa slot hty hm ho ha hbase hfew hline hs hplain
end
end Lake
namespace Lake
open PySem PySem.Spec PyProof.Rows PySem.W PySem.Calls
noncomputable def Zsa (K:Frag):R2:=λx y H Q=>∃(q p:Addr) (as:List Addr) (e:Addr->Bool),x=.ref q/\y=.ref p/\SqL K H p (as.map V.ref)/\(∀a∈as,EqD K H 3 (.ref a) x (e a))/\Q (.bl (!as.any e)) H
theorem ZqG {X:Cx}{K:Frag} (hK:X.K=K) {k:Nat} (hr:Room k X.A):OpR X (compareOp .NotIn) (Zsa K):=by
 subst hK
 have hu0:=hr.un
 intro pins s σ H x y v u Q I rx ry h
 obtain⟨q,p,as,e,rfl,rfl,hp,he,hQ⟩:=h
 cases rx
 cases ry
 obtain⟨its,r,pl,hz⟩:=I.list hp
 have hi:=ZhW r
 subst hi
 refine SeqAt.notIn_listAt (eU e) pl.isList (λw hw=>?_) ⟨.bl _,H,I,rfl,?_⟩
 .have hw':w∈as.map Value.ref:=by simpa using hw
  obtain⟨a,ha,rfl⟩:=YK.mp hw'
  exact ZhP I (he a ha) X.A.in1 _ _ (by show X.A.units+1+3<cLine;omega) rfl rfl
 .have:(as.map Value.ref).toArray.any (eU e)=as.any e:=by
   simp[List.any_map,Function.comp_def,eU]
  rw[this];exact hQ
end Lake
namespace Lake
open PySem PySem.Spec PyProof.Rows PySem.W
noncomputable def ZqH (K:Frag) (f:Addr):Option Addr:=match K.lookup f with
 |some ⟨_,_,.func fd,_⟩=>(match fd.code with|.ref c=>some c|_=>none)
 |_=>none
noncomputable def tabOf (K:Frag) (c:Addr):Addr:=match K.lookup c with
 |some ⟨_,_,.fields vs,_⟩=>(match (vs[11]?:Option Value)with|some (.ref P)=>P|_=>0)
 |_=>0
noncomputable def Zfo (K:Frag) (mg:Str->Option Value) (x:Str):Addr:=match mg x with
 |some (.ref f)=>(match ZqH K f with|some c=>tabOf K c|none=>0)
 |_=>0
noncomputable def ZiG (q:Str):HO:=.tbl #[.str q 0]
noncomputable def BM (mg:Str->Option Value) (base:Heap):Prop :=
 ∃bm o,mg "__builtins__"=some (.ref bm)/\bm≠builtinsNs/\bm≠mainGlobals/\base.get? bm=some o/\o.cls=.type "module"/\o.dict=some builtinsNs/\o.data=.plain
noncomputable def Zkh (env:Env) (P:Addr) (q:Str) (params:Arguments) (body:Expr) (scope:Scope) (H:Hp) (f:Addr):Prop :=
 ∃c oc vs t cl pm ctv,H f=some (.frz (kla_obj "<lambda>" q params body scope cl pm c ctv) (.own f))/\H c=some (.frz oc (.own P))/\oc.data=.fields vs/\vs[1]?=some (.str q t) /\
  (∀x c,cl.lookup x=some c->env.cells.lookup x=some c)/\(∀y∈scope.names,y.2=.free->∃c,cl.lookup y.1=some c/\env.cells.lookup y.1=some c)
theorem Zkh.same {env:Env}{P:Addr}{q:Str}{params:Arguments}{body:Expr}{scope:Scope}{H H':Hp}{f:Addr} (h:Zkh env P q params body scope H f) (s:Zd H H'):Zkh env P q params body scope H' f:=by
 obtain⟨c,oc,vs,t,cl,pm,ctv,e1,e2,r⟩:=h
 exact⟨c,oc,vs,t,cl,pm,ctv,s _ _ e1,s _ _ e2,r⟩
structure LamIn (X:Cx) (P:Addr) (q:Str):Prop where
 code:∃c,X.env.code=.ref c/\codeHdIn X.K c P=true
 bm:BM X.mg X.base
 ql:X.env.qual++"<lambda>"=q
theorem Zoj {pos:Pos}{a b:Int}{c cv:Value}:∀(l:List Value),TriplesOk l->codeAmong pos (l++[rawInt a,rawInt b,c])=some cv->codeAmong pos l=some cv\/cv=c:=by
 intro l h e
 fun_induction TriplesOk l with
 |case1 =>
  simp only[List.nil_append,codeAmong,rawInt]at e
  split at e
  .cases e;exact .inr rfl
  .cases e
 |case2 a' t b' u x rest ih =>
  simp only[List.cons_append,codeAmong]at e⊢
  split at e
  .rename_i hc;rw[Yd hc];exact .inl e
  .rename_i hc;rw[Yb hc];exact ih h e
 |case3 l h1 h2=>exact h.elim
section
variable {X:Cx}
theorem Inv.lam {pins:List (Addr×Obj)}{σ:St}{H:Hp}{s:Shared}{h':Heap}{t':Nat}{P c f:Addr}{q:Str}{oc fo:Obj}{ts:Array Value}{vs:Array Value}{tq:Tok}
  (I:Inv X pins σ H s) (hP:H P=some (ZiG q)) (k:∀b o,b≠P->s.heap.get? b=some o->h'.get? b=some o) (hts:h'.get? P=some (tabObj ts)) (h3:TriplesOk ts.toList)
  (hc:H c=some (.frz oc (.own P))\/s.heap.objs.size<=c) (hcP:c≠P) (hoc:h'.get? c=some oc) (hd:oc.data=.fields vs) (hv:vs[1]?=some (.str q tq)) (hf:s.heap.objs.size<=f) (hfc:f≠c) (hfo:h'.get? f=some fo)
  (hcodes:∀pos cv,codeAmong pos ts.toList=some cv->cv=.ref c\/∃c2 oc vs t t',cv=.ref c2/\H c2=some (.frz oc (.own P))/\oc.data=.fields vs/\vs[1]?=some (.str q t)/\t'=(0:Tok)) :
  Inv X pins σ (upd (upd H c (.frz oc (.own P))) f (.frz fo (.own f))) {s with heap:=h',toks:=t'}:=by
 have hPlt:P<s.heap.objs.size:=I.hok.lt hP
 have hfP:f≠P:=λz=>by rw[z]at hf;exact absurd (YD hPlt hf) (YA _)
 have hfn:H f=none:=I.hok.fresh hf
 have up:∀b o,H b=some o->upd (upd H c (.frz oc (.own P))) f (.frz fo (.own f)) b=some o:=λb o e=>by
  have nf:b≠f:=Zw e hfn
  rw[Zh nf]
  rcases hc with hc|hc
  .by_cases z:b=c
   .subst z;rw[Zc,<-e,hc]
   .rw[Zh z];exact e
  .rw[Zh (Zw e (I.hok.fresh hc))];exact e
 have un:Un X.fs [] H (upd (upd H c (.frz oc (.own P))) f (.frz fo (.own f))) s.heap h':=by
  have nP:∀b,H b=none->b≠P:=λb n z=>by rw[z,hP]at n;cases n
  refine⟨λb o e n _ _=>k b o (nP b n) e,λb o e n _ _=>⟨o.slots,k b o (nP b n) e⟩,λb o e n _=>?_,λb o e _=>?_,λb xs e=>up _ _ e,λb o u e=>up _ _ e,λb ps e=>⟨#[],by rw[up _ _ e];simp⟩⟩
  .have lt:=Yl e
   have nf:b≠f:=λz=>by rw[z]at lt;exact absurd (YD lt hf) (YA _)
   have nc:b≠c:=λz=>by
    rcases hc with hc|hc
    .rw[z,hc]at n;cases n
    .rw[z]at lt;exact absurd (YD lt hc) (YA _)
   rw[Zh nf,Zh nc];exact n
  .by_cases z:b=P
   .subst z;exact⟨_,hts⟩
   .exact⟨o,k b o z e⟩
 refine I.un un λb o e=>?_
 by_cases zf:b=f
 .subst zf
  rw[Zc]at e;cases e
  exact⟨hfo,_,hfo⟩
 rw[Zh zf]at e
 by_cases zc:b=c
 .subst zc
  rw[Zc]at e;cases e
  exact⟨hoc,_,hoc⟩
 rw[Zh zc]at e
 by_cases zP:b=P
 .subst zP
  rw[hP]at e;cases e
  refine⟨ts,hts,h3,λpos cv hcv=>?_⟩
  rcases hcodes pos cv hcv with rfl|⟨c2,oc2,vs2,t2,t2',e1,e2,e3,e4,_⟩
  .exact⟨c,oc,vs,q,0,tq,rfl,by rw[Zh (Ne.symm hfc),Zc],hd,rfl,hv⟩
  .exact⟨c2,oc2,vs2,q,0,t2,e1,up _ _ e2,e3,rfl,e4⟩
 .refine(I.hok b o e).ZiE (λb2 u hb z=>k b2 u ?_ z) (λb2 z=>up _ _ z) (λb2 xs z=>up _ _ z) λb2 o2 u2 z=>up _ _ z
  rcases hb with rfl|hb
  .exact zP
  .intro z;rw[z,hP]at hb;cases hb
noncomputable def tLam (env:Env) (P:Addr) (q:Str) (params:Arguments) (body:Expr) (scope:Scope):TE:=λ_ H Q=>H P=some (ZiG q)/\∀f H',H f=none->Zd H H'->Zkh env P q params body scope H' f->Q (.ref f) H'
theorem ZlV {P:Addr}{q:Str}{params:Arguments}{body:Expr}{scope:Scope}{pos:Pos} (L:LamIn X P q) (hok:compOk X.env.scope scope=true) (hdef:defaultsOf params X.env=([],[]):=by rfl) :
  PE X (.Lambda params body scope pos) (tLam X.env P q params body scope):=by
 intro pins s σ H Q I h
 obtain⟨hP,h⟩:=h
 obtain⟨c0,hc0,hcd⟩:=L.code
 have C:CodeHd s.heap c0 P:=codeHd_of_K I.kIn hcd
 obtain⟨bm,ob,b1,b2,b3,b4,b5,b6,b7⟩:=L.bm
 have hbm:=I.bs bm ob b4
 have bP:bm≠P:=λz=>by rw[z,hP]at hbm;cases hbm.2
 have gP:mainGlobals≠P:=λz=>by
  obtain⟨o,es,ep,e,_⟩:=I.ok.mod.glob
  have:=(I.bs _ _ e).2
  rw[z,hP]at this;cases this
 have hg:s.heap.Ns mainGlobals X.mg:=I.ok.mod.glob.keeps I.bk
 have hb:s.heap.BuiltinsAt X.mg P:=⟨bm,ob,b1,b2,b3,bP,hbm.1,b5,b6,b7⟩
 obtain⟨ts,hts,h3,hco⟩:=I.hok P _ hP
 obtain⟨cl,hcl,up,hfr⟩:=Zjd (env:=X.env) (scope:=scope) λy hy hf=>I.ok.has y.1 ((Zde hok y hy hf).elim (λz=>.inl z) λz=>.inr z)
 have hco':∀pos cv,codeAmong pos ts.toList=some cv->∃c2 oc vs t t',cv=.ref c2/\H c2=some (.frz oc (.own P))/\oc.data=.fields vs/\vs[1]?=some (.str q t)/\t'=(0:Tok):=λpos cv e=>by
  obtain⟨c,oc,vs,q',t,t',e1,e2,e3,e4,e5⟩:=hco pos cv e
  have e4':some (Value.str q (0:Tok))=some (Value.str q' t):=e4
  cases e4'
  exact⟨c,oc,vs,t',0,e1,e2,e3,e5,rfl⟩
 refine kla_eval hdef ?_
 rw[L.ql]
 cases hca:codeAmong pos ts.toList with
 |some cv =>
  obtain⟨c,oc,vs,tq,t',rfl,e2,e3,e4,_⟩:=hco' pos cv hca
  refine kla_makeFunctionHit (mg:=X.mg) hcl I.ok.glob hg hc0 C hts h3 hca hb λctv h' tk hk hsz=>?_
  have hoc:s.heap.get? c=some oc:=(I.hok c _ e2).1
  have hcP:c≠P:=λz=>by rw[z,hP]at e2;cases e2
  have lt:=Yl hoc
  have kk:∀b o,s.heap.get? b=some o->(h'.push {cls:=.type "function",data:=.func (kla_fn "<lambda>" q params body scope cl ((X.mg "__name__").getD .none) (.ref c) ctv)}).get? b=some o:=λb o e=>Ym _ (hk b o e)
  have J:=I.lam (t':=tk) (f:=h'.objs.size) hP (λb o _ e=>kk b o e) (kk _ _ hts) h3 (.inl e2) hcP (kk _ _ hoc) e3 e4 hsz (λz=>by rw[<-z]at lt;exact absurd (YD lt hsz) (YA _)) (YC _ rfl) λp2 cv2 z=>.inr (hco' p2 cv2 z)
  have hfn:H h'.objs.size=none:=I.hok.fresh hsz
  have ne:c≠h'.objs.size:=Yo (YD lt hsz)
  refine⟨.ref h'.objs.size,_,J,rfl,h _ _ hfn (λb o e=>?_) ⟨c,oc,vs,tq,cl,_,ctv,Zc,by rw[Zh ne,Zc],e3,e4,up,hfr⟩⟩
  rw[Zh (Zw e hfn)]
  by_cases z:b=c
  .subst z;rw[Zc,<-e,e2]
  .rw[Zh z];exact e
 |none =>
  refine kla_makeFunction (mg:=X.mg) hcl I.ok.glob hg hc0 C hts h3 hca gP hb λc ctv h' tk hx hge hlt hrec htb=>?_
  obtain⟨c2,oc,vs,tq,e2,hoc,e3,e4⟩:=hrec
  cases e2
  have hsz:s.heap.objs.size<=h'.objs.size:=Yr hge (Y7 hlt)
  have kk:∀b o,h'.get? b=some o->(h'.push (kla_obj "<lambda>" q params body scope cl ((X.mg "__name__").getD .none) c ctv)).get? b=some o:=λb o e=>Ym _ e
  have hPlt:P<s.heap.objs.size:=I.hok.lt hP
  have hcP:c≠P:=λz=>by rw[z]at hge;exact absurd (YD hPlt hge) (YA _)
  have tl:(ts++#[rawInt pos.line,rawInt pos.col,Value.ref c]).toList=ts.toList++[rawInt pos.line,rawInt pos.col,Value.ref c]:=by simp
  have J:=I.lam (t':=tk) (f:=h'.objs.size) (ts:=ts++#[rawInt pos.line,rawInt pos.col,.ref c]) hP (λb o nb e=>kk b o (hx b o nb e)) (kk _ _ htb) (by rw[tl];exact TriplesOk_snoc _ _ _ _ h3) (.inr hge) hcP (kk _ _ hoc) e3 e4 hsz (Nat.ne_of_gt hlt) (YC _ rfl) λp2 cv2 z=>by
   rw[tl]at z
   rcases Zoj ts.toList h3 z with y|y
   .exact .inr (hco' p2 cv2 y)
   .exact .inl y
  have hfn:H h'.objs.size=none:=I.hok.fresh hsz
  have hcn:H c=none:=I.hok.fresh hge
  refine⟨.ref h'.objs.size,_,J,rfl,h _ _ hfn (λb o e=>?_) ⟨c,oc,vs,tq,cl,_,ctv,Zc,by rw[Zh (Yo hlt),Zc],e3,e4,up,hfr⟩⟩
  rw[Zh (Zw e hfn),Zh (Zw e hcn)];exact e
end
noncomputable def Zil (X:Cx) (A':Around) (Nc:List Str) (q:Str) (scope:Scope) (cl:List (Str×Addr)) (L f c:Addr) (s:Shared) (H:Hp):Cx where
 prog:=X.prog
 w:=X.w
 K:=X.K
 mg:=X.mg
 base:=X.base
 A:=A'.deeper (envX q scope L f (.ref c) cl)
 N:=Nc
 s₀:=s
 H₀:=H
 env:=envX q scope L f (.ref c) cl
 outer:=X.stack
 stack:=envX q scope L f (.ref c) cl::X.stack
 ex:=[]
 fn:=λ_=>false
 calm:=X.calm
 pn:=[]
 xe:=λ_ _=>False
section
variable {X:Cx}
theorem ZqI {pins:List (Addr×Obj)}{σ:St}{H:Hp}{s:Shared}{A':Around}{Nc:List Str}{js:List (Option Nat)}{q pn:Str}{scope:Scope}{cl:List (Str×Addr)}{h1:Heap}{tk:Nat}{f c:Addr}{v:V}{u:Value}
  (I:Inv X pins σ H s) (hA:A'.frames=some X.stack) (hh:X.calm=true->A'.handled=none) (hok:compOk X.env.scope scope=true) (htk:takesC X.N Nc scope js 0=true) (hp0:Nc[0]?=some pn) (hj0:js[0]?=some none) (hpl:scope.names.lookup pn=some .local)
  (up:∀x c,cl.lookup x=some c->X.env.cells.lookup x=some c) (hfr:∀y∈scope.names,y.2=.free->∃c,cl.lookup y.1=some c/\X.env.cells.lookup y.1=some c)
  (r:RelV v u) (old:∀b o,s.heap.get? b=some o->h1.get? b=some o) (hns:h1.Ns s.heap.objs.size λy=>[(pn,u)].reverse.lookup y) :
  Inv (Zil X A' Nc q scope cl s.heap.objs.size f c s H) [] ((ZO js σ).set 0 (some v)) H {s with heap:=h1,toks:=tk}:=by
 have noA:∀b:Addr,b∉(Zil X A' Nc q scope cl s.heap.objs.size f c s H).ex:=λb z=>absurd (show b∈([]:List Addr)from z) (by simp)
 have kf:∀x,((envX q scope s.heap.objs.size f (.ref c) cl).kindOf x=some .cell\/(envX q scope s.heap.objs.size f (.ref c) cl).kindOf x=some .free)->∃c,cl.lookup x=some c:=λx hx=>by
  rcases hx with z|z
  .exact absurd rfl (Zdd hok _ (lookup_mem (show scope.names.lookup x=some .cell from z)))
  .obtain⟨c,q,_⟩:=hfr _ (lookup_mem (show scope.names.lookup x=some .free from z)) rfl
   exact⟨c,q⟩
 refine⟨⟨I.ok.mod,Zdc hok,rfl,rfl,Yc _,λx y c e1 e2=>I.ok.inj x y c (up _ _ e1) (up _ _ e2),λx hx=>kf x hx,(λx c e=>nomatch e),hh,Around.frames_deeper hA,.inr ⟨rfl,rfl⟩,λb z=>absurd z (noA b),I.bs,Yr I.ok.bsz I.sz,λb _ _=>noA b,λb z=>absurd z (noA b),I.stack,I.Zg4⟩,
  rfl,I.bare,Un.kept old,⟨_,hns,λi x v' e1 e2 e3=>?_⟩,λx c e=>?_,I.hok.fresh (Yc _),λx c e=>I.freeC x c (up _ _ e),λp hp=>absurd (show p∈([]:List (Addr×Obj))from hp) (by simp),I.hok.kept old,?_⟩
 .by_cases hi:i=0
  .subst hi
   have ex:x=pn:=YM ((show Nc[0]?=some x from e1).symm.trans hp0)
   subst ex
   have hl:0<(ZO js σ).length:=by
    unfold ZO
    rw[Yi]
    exact(Yw.mp hj0).1
   rw[List.getElem?_set_self hl]at e2
   cases e2
   exact⟨u,r,.inl ⟨hpl,by simp⟩⟩
  .rw[List.getElem?_set_ne (Ne.symm hi)]at e2
   have e2':(ZO js σ)[i]?=some (some v'):=e2
   unfold ZO at e2'
   rw[YE]at e2'
   cases hq:js[i]? with
   |none=>rw[hq]at e2';cases e2'
   |some j0 =>
    cases j0 with
    |none=>rw[hq]at e2';cases e2'
    |some j =>
     rw[hq]at e2'
     simp only[Option.map_some,Option.some.injEq]at e2'
     have e4:σ[j]?=some (some v'):=by
      cases z:σ[j]? with
      |none=>rw[z]at e2';cases e2'
      |some o=>rw[z]at e2';simp only[Option.join_some]at e2';rw[e2']
     obtain⟨y,y1,y2,y3⟩:=Zeh htk hq
     rw[Nat.zero_add]at y1
     have:x=y:=YM ((show Nc[i]?=some x from e1).symm.trans y1)
     subst this
     have hm:=lookup_mem y3
     obtain⟨c1,h1',h2'⟩:=hfr _ hm rfl
     have hk:=Zde hok _ hm rfl
     obtain⟨m0,hn0,hl0⟩:=I.loc
     obtain⟨u',r',l⟩:=hl0 j x v' y2 e4 (hk.elim (λz=>.inr (.inl z)) λz=>.inr (.inr z))
     refine⟨u',r',.inr ⟨.inr y3,c1,h1',?_⟩⟩
     rcases l with⟨lk,_⟩|⟨_,c',c3,c4⟩
     .rcases hk with z|z
      .rw[show X.env.kindOf x=some .cell from z]at lk;cases lk
      .rw[show X.env.kindOf x=some .free from z]at lk;cases lk
     .rw[h2']at c3;cases c3
      obtain⟨oc,w1,w2⟩:=c4
      exact⟨oc,old _ _ w1,w2⟩
 .obtain⟨v,oc,w1,w2⟩:=I.cell x c (up _ _ e)
  exact⟨v,oc,old _ _ w1,w2⟩
 .show((ZO js σ).set 0 (some v)).length=Nc.length
  unfold ZO
  have:=ZcM htk
  rw[List.length_set,Yi]
  omega
structure LamSc (X:Cx) (Nc:List Str) (js:List (Option Nat)) (params:Arguments) (body:Expr) (scope:Scope) (pn:Str):Prop where
 ok:compOk X.env.scope scope=true
 tk:takesC X.N Nc scope js 0=true
 p0:Nc[0]?=some pn
 j0:js[0]?=some none
 pl:scope.names.lookup pn=some .local
 co:scope.isCoroutine=false
 gen:scope.isGenerator=false
 bd:∀(q:Str) (cl:List (Str×Addr)) (pm cd ctv u:Value),bindArgs (kla_fn "<lambda>" q params body scope cl pm cd ctv) ⟨[u],[]⟩=pure [(pn,u)]
theorem Zjr {pins:List (Addr×Obj)}{σ:St}{H:Hp}{s:Shared}{A':Around}{Nc:List Str}{js:List (Option Nat)}{q pn:Str}{params:Arguments}{body:Expr}{scope:Scope}{P f:Addr}{v:V}{u:Value}{tb:TE}{Q:VK}{E:Value->Shared->Prop}
  (S:LamSc X Nc js params body scope pn) (hbody:∀cl L f c s H,PE (Zil X A' Nc q scope cl L f c s H) body tb) (I:Inv X pins σ H s) (hA:A'.frames=some X.stack) (hh:X.calm=true->A'.handled=none) (hroom:A'.depth<recursionLimit) (L:Zkh X.env P q params body scope H f)
  (r:RelV v u) (h:tb ((ZO js σ).set 0 (some v)) H Q):wpAny (model X.prog X.w) A' (call (.ref f) [u]) (EP X pins σ Q) E s:=by
 obtain⟨c,oc,vs,t,cl,pm,ctv,e1,e2,e3,e4,up,hfr⟩:=L
 have hfo:=(I.hok f _ e1).1
 have hoc:=(I.hok c _ e2).1
 refine wpAny_call (codeAny_mono (R:=λr s'=>∃u',r=.ok (.ret u')/\EP X pins σ Q u' s') (kla_callFunE hroom hfo rfl S.co S.gen rfl ⟨c,oc,vs,t,rfl,hoc,e3,e4⟩ ?_) λr s' ⟨u',hr,z⟩=>by subst hr;exact z)
 show wpAny _ _ (bindArgs (kla_fn "<lambda>" q params body scope cl pm (.ref c) ctv) ⟨[u],[]⟩) _ _ _
 rw[S.bd]
 refine Ye (wpAny_newFunctionEnv (λx hx=>Zdd S.ok x hx) (λx hx=>?_) (λh₁ hns hsb=>⟨I.nolimit.fresh _ hsb,?_⟩) (Zdc S.ok))
 .have:x=(pn,u):=by simpa using hx
  subst this;exact S.pl
 show codeAny _ _ (.expr body (envX q scope s.heap.objs.size f (.ref c) cl)) _ _
 have old:∀b o,s.heap.get? b=some o->h₁.get? b=some o:=λb o e=>hsb.extBut b o (Yo (Yl e)) (Ym _ e)
 have J:=ZqI (q:=q) (f:=f) (c:=c) (tk:=s.toks+[(pn,u)].length) I hA hh S.ok S.tk S.p0 S.j0 S.pl up hfr r old hns
 refine kla_codeExpr (YJ (hbody cl _ f c s H [] _ _ H Q J h) (λv' s' ⟨x,H',J',r',q'⟩=>⟨v',rfl,x,H',?_,r',q'⟩) λ_ _ z=>z.elim)
 exact I.Zrx (ch:=[]) J'.os J'.base J'.hok J'.bare λb z=>absurd z (by simp)
end
section
variable {prog:Program}{w:World}{A:Around}{E:Value->Shared->Prop}{s:Shared}
noncomputable def Zsb (b:Bool) (st:SortSt):Array Value:=if b then ((arrOf st).map (·.2)).reverse else (arrOf st).map (·.2)
noncomputable def Zok (h:Heap) (kS a:Addr) (out:Array Value):Heap:=(h.update kS (Obj.mapSeq λ_=>(#[]:Array Value))).update a (Obj.mapSeq λ_=>out)
theorem ZuW {a kS:Addr}{b:Bool}{e e1:Nat}{keys:Array Value}{st:SortSt}{R:PySem.Fin->Shared->Prop} (ok:s.heap.get? kS=some (seqObj "list" keys e)) (oa:s.heap.get? a=some (seqObj "list" #[] e1)) (ne:a≠kS) (z1:keys.size<=1000) (z2:(arrOf st).size<=1000) (hf:failedOf st=none)
  (h:R (.done (.ret .none)) {s with heap:=Zok s.heap kS a (Zsb b st)}):wpAny (model prog w) A (ksk_tail a b e1 (.ref kS) st) R E s:=by
 have oa1:(s.heap.update kS (Obj.mapSeq λ_=>(#[]:Array Value))).get? a=some (seqObj "list" #[] e1):=(Heap.get?_update_ne _ _ _ _ ne).trans oa
 have zo:(Zsb b st).size<=sizeLine+1:=by
  unfold Zsb
  cases b
  .rw[Yb YW,Array.size_map];exact Nat.le_succ_of_le (Yr z2 nofun)
  .rw[Yd rfl,Array.size_reverse,Array.size_map];exact Nat.le_succ_of_le (Yr z2 nofun)
 unfold ksk_tail
 dsimp only
 refine Ya (listUpdate_at ok rfl (Ya (wpAny_letGo (Ya (seqEpoch_at oa1 rfl (Ya (listUpdate_at oa1 rfl ?_ (Yq _) zo)))))) (Yr z1 nofun) (Yq _))
 rw[hf]
 simp only[bne_self_eq_false,Bool.false_eq_true,if_false]
 exact Ye h
theorem sk_end {a kS:Addr}{b:Bool}{e e1:Nat}{keys:Array Value}{vs:List Value}{kz:List Int}{R:PySem.Fin->Shared->Prop} (ok:s.heap.get? kS=some (seqObj "list" keys e)) (oa:s.heap.get? a=some (seqObj "list" #[] e1)) (ne:a≠kS) (hk:IntsAre keys.toList kz) (hl:kz.length=vs.length) (h64:vs.length<64)
  (h:∀out:Array Value,KskOut b kz vs out.toList->R (.done (.ret .none)) {s with heap:=Zok s.heap kS a out}):wpAny (model prog w) A (ksk_end a b vs.toArray e1 (.ref kS) keys) R E s:=by
 have hz:keys.size=vs.length:=by
  have q:=hk.length
  rw[Yp]at q;omega
 have hzz:(keys.zip vs.toArray).size=vs.length:=by rw[Array.size_zip,hz,Ys,Nat.min_self]
 have go:∀t:Sem PySem.Fin,wpAny (model prog w) A t R E s->wpAny (model prog w) A (if b=true then (rule "list.sort.reverse" >>= λ_=>t)else t) R E s:=λt ht=>by
  cases b
  .exact ht
  .exact Ya (wpAny_rule ht)
 have hst:(if b=true then (keys.zip vs.toArray).reverse else keys.zip vs.toArray).Perm (keys.zip vs.toArray):=by
  cases b
  .exact .refl _
  .exact Array.perm_iff_toList_perm.mpr (by rw[Yd rfl,Array.toList_reverse];exact List.reverse_perm _)
 have done:∀st:SortSt,(arrOf st).Perm (keys.zip vs.toArray)->failedOf st=none->SortedTo (arrOf st) (arrOf st).size->wpAny (model prog w) A (ksk_tail a b e1 (.ref kS) st) R E s:=λst q1 q2 q3 =>
  ZuW ok oa ne ⋯ (by rw[q1.size_eq,hzz];omega) q2 (h _ (ksk_out hk q1 q3))
 unfold ksk_end
 refine go _ ?_
 by_cases h2:vs.length<2
 .have h2':vs.toArray.size<2:=by rw[Ys];exact h2
  rw[Yd h2',Yd h2']
  refine Ya (Ye ?_)
  dsimp only
  rw[StateT.run_pure]
  refine Ya (Ye (done (SortSt.mk' general' (if b=true then (keys.zip vs.toArray).reverse else keys.zip vs.toArray) #[] 7 none) hst rfl λi j hij hj=>?_))
  have hj':j<(if b=true then (keys.zip vs.toArray).reverse else keys.zip vs.toArray).size:=hj
  rw[hst.size_eq,hzz]at hj'
  rw[show i=j by omega]
  exact Int.le_refl _
 .have h2':¬ vs.toArray.size<2:=by rw[Ys];exact h2
  rw[Yb h2',Yb h2',ksk_kind hk ⋯]
  refine Ya (Ye (Ya (YJ (wpS_sortRuns (a₀:=keys.zip vs.toArray) (st:=SortSt.mk' oneType' (if b=true then (keys.zip vs.toArray).reverse else keys.zip vs.toArray) #[] 7 none)
   (Q:=λ_ st=>(arrOf st).Perm (keys.zip vs.toArray)/\failedOf st=none/\SortedTo (arrOf st) (keys.zip vs.toArray).size) (ksk_intKeys hk) ⟨hst,rfl,rfl,rfl⟩ ⋯ ⋯ λst q1 q2 q3=>⟨q1,q2,q3⟩) ?_ λ_ _ z=>z)))
  rintro⟨⟨⟩,st⟩ s' ⟨rfl,q1,q2,q3⟩
  exact done st q1 q2 (by rw[q1.size_eq];exact q3)
end
section
variable {X:Cx}
theorem Inv.track {pins:List (Addr×Obj)}{σ:St}{H:Hp}{s:Shared}{a:Addr}{o:HO} (I:Inv X pins σ H s) (hn:H a=none) (hL:a≠X.env.locals) (h1:a∈X.ex\/X.s₀.heap.objs.size<=a) (h2:∀x c,X.env.cells.lookup x=some c->c≠a) (h3:∀p∈X.pn++pins,p.1≠a)
  (new:Zak X.prog X.w (upd H a o) s.heap a o):Inv X pins σ (upd H a o) s:=by
 have up:∀b u,H b=some u->upd H a o b=some u:=λb u e=>by rw[Zh (Zw e hn)];exact e
 have J:=I.step (g':=s.gens) (d':=s.drawn) (t':=s.toks) (h':=s.heap) (H':=upd H a o) (ch:=[a]) (λb hb=>?_) (λb o _ _ _ e _=>e) (λb o _ _ _ e _=>⟨o.slots,e⟩) (λb o hb e n=>?_) (λb o _ e=>⟨o,e⟩) (λb xs e=>up _ _ e) (λb o u e=>up _ _ e) (λb ps e=>⟨#[],by rw[up _ _ e];simp⟩) (λm hm=>hm) (λb u e=>?_) I.bare
 .exact J
 .have e:b=a:=by simpa using hb
  subst e
  exact⟨h1,hL,h2,h3⟩
 .rw[Zh (λz=>hb (by simp[z]))];exact n
 .by_cases z:b=a
  .subst z;rw[Zc]at e;cases e;exact new
  .rw[Zh z]at e
   exact(I.hok b u e).ZiE (λc v _ q=>q) (λc q=>up _ _ q) (λc xs q=>up _ _ q) λc o' u' q=>up _ _ q
theorem ZuX {pins:List (Addr×Obj)}{σ:St}{H:Hp}{s:Shared}{A':Around}{E:Value->Shared->Prop}{f:Value}{b:Bool}{a kS:Addr}{e1:Nat}{vs:List Value}{ns:List Int}{kz:Int->Int}{R:PySem.Fin->Shared->Prop}
  (I:Inv X ((kS,seqObj "list" #[] 0)::(a,seqObj "list" #[] e1)::pins) σ H s) (hk0:X.s₀.heap.objs.size<=kS) (ha0:X.s₀.heap.objs.size<=a) (ne:a≠kS) (hp:∀p∈X.pn++pins,p.1≠kS/\p.1≠a) (hv:IntsAre vs ns) (h64:vs.length<64)
  (turn:∀(H':Hp) (s':Shared) (pins':List (Addr×Obj)) (n:Int) (u:Value),n∈ns->Inv X pins' σ H' s'->Zd H H'->RelV (.int n) u->wpAny (model X.prog X.w) A' (call f [u]) (EP X pins' σ λv H2=>v=.int (kz n)/\Zd H' H2) (λ_ _=>False) s')
  (fin:∀(H':Hp) (s':Shared) (out:Array Value) (c:Nat),Inv X pins σ H' s'->Zd H H'->H' a=none->s'.heap.get? a=some (seqObj "list" out c)->KskOut b (ns.map kz) vs out.toList->R (.done (.ret .none)) s') :
  wpAny (model X.prog X.w) A' (ksk_rest a f b vs.toArray e1 (.ref kS)) R E s:=by
 have hlen:vs.length=ns.length:=hv.length
 have facts:∀{H':Hp}{s':Shared}{ps:List (Addr×Obj)}{x:Addr}{xs:Array Value}{c:Nat},Inv X ps σ H' s'->(x,seqObj "list" xs c)∈ps->s'.heap.get? x=some (seqObj "list" xs c)/\H' x=none/\x≠X.env.locals/\x∉X.fs/\∀y cc,X.env.cells.lookup y=some cc->cc≠x:=λ{H' s' ps x xs c} J hm=>by
  obtain⟨q1,q2,q3,q4,_⟩:=J.pin _ (Yn _ hm)
  refine⟨q1,q2,q3,q4,λy cc hc z=>?_⟩
  obtain⟨v,oc,w1,w2⟩:=J.cell y cc hc
  rw[z,q1]at w1;cases w1;cases w2
 unfold ksk_rest
 refine Ya (wpAny_rule ?_)
 first
  |rw[List.forIn_toArray]
  |(rw[<-Array.forIn_toList];simp only[List.toList_toArray])
 refine Ya (ksk_fold (λi s'=>∃H' kA e,Inv X ((kS,seqObj "list" kA e)::(a,seqObj "list" #[] e1)::pins) σ H' s'/\Zd H H'/\IntsAre kA.toList ((ns.take i).map kz)) vs 0 s ⟨H,#[],0,I,Zd.refl H,by simpa using IntsAre.nil⟩ ?step ?done)
 case step =>
  rintro j x s' hx ⟨H',kA,e,J,sm,hk⟩
  simp only[Nat.zero_add]at hk⊢
  have hj:j<vs.length:=(Yw.mp hx).1
  have hnj:ns[j]?=some ns[j]:=Yf ⋯
  obtain⟨t,ht⟩:=hv.get j _ hnj
  rw[hx]at ht
  cases ht
  have hz:kA.size<=64:=by
   have h1:=hk.length
   rw[Yp,Yi,Y9]at h1
   omega
  refine Ya (wpAny_attempt (YJ (turn H' s' _ ns[j] _ (YF _) J sm ⟨t,rfl⟩) (λv s'' he=>?_) λ_ _ hF=>hF.elim))
  obtain⟨x2,H2,J2,r2,rfl,sm2⟩:=he
  obtain⟨t2,rfl⟩:=r2
  obtain⟨o1,n1,l1,_,c1⟩:=facts J2 (Yv ..)
  try dsimp only
  obtain⟨c2,hc2⟩:∃c2,(s''.heap.update kS (Obj.mapSeq (·.push (.int (kz ns[j]) t2)))).get? kS=some (seqObj "list" (kA.push (.int (kz ns[j]) t2)) c2):=⟨_,get?_update_seq o1 (·.push (.int (kz ns[j]) t2))⟩
  refine Ya (listUpdate_at o1 rfl ?_ (Yr hz nofun) (Yr (Ji (Array.size_push ..)) (Nat.le_succ_of_le (Yr (Nat.succ_le_succ hz) nofun))))
  have J3:Inv X ((a,seqObj "list" #[] e1)::pins) σ H2 s'':=J2.ZG λp hp'=>by
   obtain⟨q1,q2,q3,q4,q5⟩:=J2.pin p (Yn _ (Yu _ hp'))
   exact⟨q1,q2,q3,q4,q5⟩
  have J4:=J3.turned (t':=s''.toks) (h':=s''.heap.update kS (Obj.mapSeq (·.push (.int (kz ns[j]) t2)))) (it:=kS) (λb o nb e=>(Heap.get?_update_ne _ _ _ _ nb).trans e) n1 l1 (.inr hk0) c1 (λp hp'=>by
   rcases YB.mp hp' with z|z
   .exact(hp p (YY _ z)).1
   .rcases Yk.mp z with rfl|z
    .exact ne
    .exact(hp p (Yn _ z)).1)
  have o1f:=(facts J2 (Yv ..)).2.2.2.1
  have J5:Inv X ((kS,seqObj "list" (kA.push (.int (kz ns[j]) t2)) c2)::(a,seqObj "list" #[] e1)::pins) σ H2 {s'' with heap:=s''.heap.update kS (Obj.mapSeq (·.push (.int (kz ns[j]) t2)))}:=J4.ZG λp hp'=>by
   rcases Yk.mp hp' with rfl|hp'
   .exact⟨hc2,n1,l1,o1f,λv z=>by cases z⟩
   .exact J4.pin p (Yn _ hp')
  refine Ye ⟨rfl,H2,_,_,J5,sm.trans sm2,?_⟩
  have ek:(ns.take (j+1)).map kz=(ns.take j).map kz++[kz ns[j]]:=by rw[Jd,hnj,Jf];rfl
  have ea:(kA.push (Value.int (kz ns[j]) t2)).toList=kA.toList++[Value.int (kz ns[j]) t2]:=by simp
  rw[ea,ek];exact ksk_snoc hk
 case done =>
  rintro s' ⟨H',kA,e,J,sm,hk⟩
  have hk':IntsAre kA.toList (ns.map kz):=by
   rw[List.take_of_length_le ⋯]at hk
   exact hk
  obtain⟨o1,n1,l1,f1,c1⟩:=facts J (Yv ..)
  obtain⟨o2,n2,l2,f2,c2⟩:=facts J (Yu _ (Yv ..))
  refine Ya (listItems_at o1 rfl ?_)
  refine sk_end o1 o2 ne hk' (by rw[Yi];exact hlen.symm) h64 λout ho=>?_
  have J3:Inv X pins σ H' s':=J.ZG λp hp'=>J.pin p (Yn _ (Yu _ (Yu _ hp')))
  have J4:=J3.turned (t':=s'.toks) (h':=s'.heap.update kS (Obj.mapSeq λ_=>(#[]:Array Value))) (it:=kS) (λb o nb e=>(Heap.get?_update_ne _ _ _ _ nb).trans e) n1 l1 (.inr hk0) c1 λp hp'=>(hp p hp').1
  have J5:=J4.turned (t':=s'.toks) (h':=Zok s'.heap kS a out) (it:=a) (λb o nb e=>(Heap.get?_update_ne _ _ _ _ nb).trans e) n2 l2 (.inr ha0) c2 λp hp'=>(hp p hp').2
  have o3:(s'.heap.update kS (Obj.mapSeq λ_=>(#[]:Array Value))).get? a=some (seqObj "list" #[] e1):=(Heap.get?_update_ne _ _ _ _ ne).trans o2
  exact fin H' _ out _ J5 sm n2 (get?_update_seq o3 λ_=>out) ho
theorem ZuY {pins:List (Addr×Obj)}{σ:St}{H:Hp}{s:Shared}{A':Around}{E:Value->Shared->Prop}{f:Value}{b:Bool}{a:Addr}{e0:Nat}{vs:List Value}{ns:List Int}{kz:Int->Int}{R:PySem.Fin->Shared->Prop}
  (I:Inv X ((a,seqObj "list" vs.toArray e0)::pins) σ H s) (ha0:X.s₀.heap.objs.size<=a) (hp:∀p∈X.pn++pins,p.1≠a) (hv:IntsAre vs ns) (h64:vs.length<64)
  (turn:∀(H':Hp) (s':Shared) (pins':List (Addr×Obj)) (n:Int) (u:Value),n∈ns->Inv X pins' σ H' s'->Zd H H'->RelV (.int n) u->wpAny (model X.prog X.w) A' (call f [u]) (EP X pins' σ λv H2=>v=.int (kz n)/\Zd H' H2) (λ_ _=>False) s')
  (fin:∀(H':Hp) (s':Shared) (out:Array Value) (c:Nat),Inv X pins σ H' s'->Zd H H'->H' a=none->s'.heap.get? a=some (seqObj "list" out c)->KskOut b (ns.map kz) vs out.toList->R (.done (.ret .none)) s') :
  wpAny (model X.prog X.w) A' (ksk_tree a f b) R E s:=by
 obtain⟨oa,na,la,fa,da⟩:=I.pin _ (Yn _ (Yv ..))
 have ca:∀y cc,X.env.cells.lookup y=some cc->cc≠a:=λy cc hc z=>by
  obtain⟨v,oc,w1,w2⟩:=I.cell y cc hc
  rw[z,oa]at w1;cases w1;cases w2
 have lt:=Yl oa
 obtain⟨e1,oa1⟩:∃e1,(s.heap.update a (Obj.mapSeq λ_=>(#[]:Array Value))).get? a=some (seqObj "list" #[] e1):=⟨_,get?_update_seq oa λ_=>#[]⟩
 have I0:Inv X pins σ H s:=I.ZG λp hp'=>I.pin p (Yn _ (Yu _ hp'))
 have I1:=I0.turned (t':=s.toks) (h':=s.heap.update a (Obj.mapSeq λ_=>(#[]:Array Value))) (it:=a) (λb o nb e=>(Heap.get?_update_ne _ _ _ _ nb).trans e) na la (.inr ha0) ca hp
 have sz:(s.heap.update a (Obj.mapSeq λ_=>(#[]:Array Value))).objs.size=s.heap.objs.size:=Heap.size_update ..
 have I2:=I1.kept (h':=((s.heap.update a (Obj.mapSeq λ_=>(#[]:Array Value))).push (seqObj "tuple" vs.toArray 0)).push (seqObj "list" #[] 0)) (t':=s.toks) λb o e=>Ym _ (Ym _ e)
 have sz2:((s.heap.update a (Obj.mapSeq λ_=>(#[]:Array Value))).push (seqObj "tuple" vs.toArray 0)).objs.size=s.heap.objs.size+1:=(size_push' ..).trans (congrArg (·+1) sz)
 have hge:X.s₀.heap.objs.size<=s.heap.objs.size:=I.sz
 have hkL:X.env.locals<s.heap.objs.size:=I.lt
 have nk:H (s.heap.objs.size+1)=none:=I.hok.fresh (Y5 _)
 unfold ksk_tree
 refine Ya (listItems_at oa rfl (Ya (listUpdate_at oa rfl (Ya (seqEpoch_at oa1 rfl (Ya (wpAny_newTuple (Ya (wpAny_newList (YH ?_) (Yq _))) ?_)))) ?_ (Yq _))))
 .rw[sz2]
  refine ZuX (kS:=s.heap.objs.size+1) (e1:=e1) (I2.ZG λp hp'=>?_) (Nat.le_succ_of_le hge) ha0 (Yo (YU lt)) (λp hp'=>⟨?_,hp p hp'⟩) hv h64 turn fin
  .rcases Yk.mp hp' with rfl|hp'
   .exact⟨by rw[<-sz2];exact YC _ rfl,nk,Nat.ne_of_gt (YU hkL),I.Zmx (Y5 _),λv z=>by cases z⟩
   .rcases Yk.mp hp' with rfl|hp'
    .exact⟨Ym _ (Ym _ oa1),na,la,fa,λv z=>by cases z⟩
    .exact I2.pin p (Yn _ hp')
  .have:=Yl (I0.pin p hp').1
   exact Yo (YU this)
 .exact Yr (show vs.length<=64 by omega) nofun
 .rw[Ys];exact Yr (show vs.length<=64 by omega) nofun
end
theorem Zsc {prog:Program}{w:World}{A:Around}{R:Result->Shared->Prop}{s:Shared}{r S:Addr}{a b c:Int}{t u v:Tok}{n c₀:Nat} (hh:A.handled=none) (hr:IsRange s.heap r a b c t u v) (hsmall:Builtin.Range.small a b c=true)
  (hn:Builtin.Range.rangeSize a b c=n) (hlen:n<=2 ^ 24) (hS:s.heap.get? S=some {cls:=.type "list",data:=.seq #[] c₀})
  (hR:∀h' tk acc' c',(∀b o,b≠S->s.heap.get? b=some o->h'.get? b=some o)->h'.get? S=some {cls:=.type "list",dict:=none,data:=.seq acc' c',slots:=#[]}->ItemsOf (λi v=>∃t,v=.int (a+i*c) t) acc' n->R (.ok (.ret (.ref S))) {s with heap:=h',toks:=tk}) :
  codeAny (model prog w) A (.builtin "list.__iadd__" ⟨[.ref S,.ref r],[]⟩) R s :=
 codeAny_builtin entry_list_iadd' (wpAny_extend_range hh hr hsmall hn hlen S (.ref S) c₀ hS hR)
theorem ZmY {prog:Program}{w:World}{A:Around}{E:Value->Shared->Prop}{s:Shared}{r:Addr}{a b c:Int}{t u v:Tok}{n:Nat}{Q:List Value->Shared->Prop} (hh:A.handled=none) (hr:IsRange s.heap r a b c t u v) (hsmall:Builtin.Range.small a b c=true)
  (hn:Builtin.Range.rangeSize a b c=n) (hlen:n<=2 ^ 24) (h:∀(h':Heap) (tk:Nat) (acc:Array Value),(∀b o,s.heap.get? b=some o->h'.get? b=some o)->ItemsOf (λi v=>∃t,v=.int (a+i*c) t) acc n->Q acc.toList {s with heap:=h',toks:=tk}) :
  wpAny (model prog w) A (collect (.ref r)) Q E s:=by
 unfold collect
 refine Ya (wpAny_runValue (codeAny_builtin entry_proto_collect' ?_))
 show wpAny _ _ (newList [] >>= λl=>again (.builtin "list.__iadd__" ⟨[l,.ref r],[]⟩)) _ _ s
 refine Ya (wpAny_newList (Ye ⟨Code.quiet_builtin _ (by decide +kernel),?_⟩))
 refine Zsc (s:={s with heap:=s.heap.push (seqObj "list" #[] 0)}) hh (Ym _ hr) hsmall hn hlen (YC _ rfl) λh' tk acc c' hk hS hacc=>?_
 refine Ya (wpAny_load hS (Ye (h h' tk acc (λb o e=>hk b o (Yo (Yl e)) (Ym _ e)) hacc)))
theorem ZmZ (g:Int->Int):∀vs:List Value,((vs.map numOf).map g).zip vs=vs.map λv=>(g (numOf v),v)
 |[]=>rfl
 |v::vs=>by
  simp only[YR,List.zip_cons_cons]
  rw[ZmZ g vs]
theorem Zol {b:Bool}{g:Int->Int}{vs out:List Value}{ns:List Int} (hv:IntsAre vs ns) (h:KskOut b (ns.map g) vs out):∃ns',IntsAre out ns'/\ns'.Perm ns/\ns'.Pairwise λx y=>if b then g y<=g x else g x<=g y:=by
 obtain⟨ps,hp,rfl,hs⟩:=h
 have en:ns=vs.map numOf:=hv.nums.symm
 rw[en,ZmZ]at hp
 have mem:∀p∈ps,p.1=g (numOf p.2)/\p.2∈vs:=λp hp'=>by
  obtain⟨v,hv',rfl⟩:=YK.mp (hp.mem_iff.mp hp')
  exact⟨rfl,hv'⟩
 refine⟨(ps.map Prod.snd).map numOf,intsAre_map _ λv hv'=>?_,?_,?_⟩
 .obtain⟨p,hp',rfl⟩:=YK.mp hv'
  exact hv.all _ (mem p hp').2
 .have:=(hp.map Prod.snd).map numOf
  rw[Je (l:=vs),show(Prod.snd ∘ λv=>(g (numOf v),v))=(id:Value->Value)from rfl,List.map_id]at this
  rw[en];exact this
 .rw[List.pairwise_map,List.pairwise_map]
  refine hs.imp_of_mem λ{p q} hp' hq' hr=>?_
  rw[<-(mem p hp').1,<-(mem q hq').1]
  exact hr
noncomputable def nats (n:Int):List Int:=(List.range n.toNat).map λ(i:Nat)=>(i:Int)
section
variable {X:Cx}
theorem Zjs {pins:List (Addr×Obj)}{σ:St}{H:Hp}{s:Shared}{kw:List (Str×Value)}{f:Value}{b:Bool}{p:Addr}{n:Int}{kz:Int->Int}{Q:VK} (I:Inv X pins σ H s) (hc:X.calm=true) (hp:H p=some (.rng 0 n)) (h0:0<=n) (h64:n<64)
  (ha1:argsOk "sorted" ⟨[.ref p],kw⟩) (ha2:∀x,argsOk "list.sort" ⟨[.ref x],kw⟩) (ht:∀x,Builtin.«list.sort» ⟨[.ref x],kw⟩=ksk_tree x f b)
  (turn:∀(H':Hp) (s':Shared) (pins':List (Addr×Obj)) (i:Int) (u:Value),0<=i->i<n->Inv X pins' σ H' s'->Zd H H'->RelV (.int i) u->wpAny (model X.prog X.w) X.A.in1.in1 (call f [u]) (EP X pins' σ λv H2=>v=.int (kz i)/\Zd H' H2) (λ_ _=>False) s')
  (fin:∀(ns:List Int) (l:Addr) (H':Hp),ns.Perm (nats n)->(ns.Pairwise λx y=>if b then kz y<=kz x else kz x<=kz y)->Zd H H'->H l=none->H' l=some (.lst (ns.map V.int))->Q (.ref l) H') :
  wpAny (model X.prog X.w) X.A (call (.builtin "sorted") [.ref p] kw) (EP X pins σ Q) X.xe s:=by
 obtain⟨t,u,v,hob⟩:=(show ∃t u v,s.heap.get? p=some {cls:=.type "range",data:=.fields #[.int 0 t,.int n u,.int 1 v]}from I.hok p _ hp)
 refine call_function_entry_kw kind_sorted plain_sorted entry_sorted ha1 ?_
 unfold Builtin.«sorted»
 refine Ya (m:=checkCount "sorted" 1 1 _) (Ye (Ya (ZmY (n:=n.toNat) (I.ok.hd hc) hob (small_one ⋯ ⋯ ⋯ ⋯) (by rw[rangeSize_one];split<;>omega) ⋯ λh1 tk acc k1 hacc=>Ya (wpAny_newList ?_ ?_))))
 case refine_2=>rw[Yp,hacc.1];exact Yr (show n.toNat<=1000 by omega) nofun
 have hia:IntsAre acc.toList (nats n):=by
  have hv:Vals ((nats n).map V.int) acc.toList:=by
   unfold nats
   rw[Je]
   exact ZuK (g:=λ(i:Nat)=>V.int (i:Int)) (P:=λ(i:Nat) v=>∃t,v=.int (0+(i:Int)*1) t) (λi v h=>by obtain⟨t,e⟩:=h;exact⟨t,by rw[e];simp⟩) _ _ (by rw[Yp];exact hacc.1) λk v hk=>hacc.2 k v (by simpa using hk)
  exact intsAre_of hv
 have I1:=I.kept (t':=tk) k1
 show wpAny _ _ _ _ _ {s with heap:=h1.push (seqObj "list" acc.toList.toArray 0),toks:=tk}
 have oa:(h1.push (seqObj "list" acc.toList.toArray 0)).get? h1.objs.size=some (seqObj "list" acc.toList.toArray 0):=YC _ rfl
 have I2:=I1.kept (h':=h1.push (seqObj "list" acc.toList.toArray 0)) (t':=tk) λb o e=>Ym _ e
 have na:H h1.objs.size=none:=I1.hok.fresh (Yc _)
 have la:h1.objs.size≠X.env.locals:=Nat.ne_of_gt I1.lt
 have a0:X.s₀.heap.objs.size<=h1.objs.size:=I1.sz
 have hl:acc.toList.length<64:=by rw[Yp,hacc.1];omega
 refine Ya (YH (wpAny_call_entry_kw slot_list_sort ⟨_,oa,rfl⟩ entry_list_sort ?body (ha2 _)))
 case body =>
  show wpAny (model X.prog X.w) X.A.in1.in1 (Builtin.«list.sort» ⟨[.ref h1.objs.size],kw⟩) _ _ _
  rw[ht]
  refine ZuY (e0:=0) (pins:=pins) (ns:=nats n) (kz:=kz) (I2.ZG λq hq=>?_) a0 (λq hq=>?_) hia hl (λH' s' pins' i u hi J sm r=>?_) λH' s' out c J sm n2 o2 ko=>⟨_,rfl,Ye ⟨_,rfl,?_⟩⟩
  .rcases Yk.mp hq with rfl|hq
   .exact⟨oa,na,la,I1.Zmx (Yc _),λv z=>by cases z⟩
   .exact I2.pin q (Yn _ hq)
  .exact Yo (Yl (I1.pin q hq).1)
  .obtain⟨k,hk,rfl⟩:=YK.mp hi
   have:=Yy.mp hk
   exact turn H' s' pins' _ u ⋯ ⋯ J sm r
  .obtain⟨ns,hi,hpm,hpw⟩:=Zol hia ko
   have ca:∀y cc,X.env.cells.lookup y=some cc->cc≠h1.objs.size:=λy cc hc' z=>by
    obtain⟨v,oc,w1,w2⟩:=I1.cell y cc hc'
    exact absurd (Yl w1) (by rw[z];exact YA _)
   have K:=J.track (a:=h1.objs.size) (o:=.lst (ns.map V.int)) n2 la (.inr a0) ca (λq hq=>Yo (Yl (I1.pin q hq).1)) ⟨?_,out.toList,c,ZhM hi,by rw[Array.toArray_toList];exact o2⟩
   .exact⟨.ref h1.objs.size,_,K,rfl,fin ns _ _ hpm hpw (λb o e=>by rw[Zh (Zw e na)];exact sm _ _ e) na Zc⟩
   .rw[Yi,hpm.length_eq]
    unfold nats
    rw[Yi,Y6]
    exact Yr (show n.toNat<=1000 by omega) nofun
noncomputable def ZlW (ta td:TA) (tb:TE) (js:List (Option Nat)) (env:Env) (P:Addr) (q:Str) (params:Arguments) (body:Expr) (scope:Scope):TE:=fun σ H Q=>ta σ H λvs H1=>td σ H1 λzs H2=>∃(p f:Addr) (n:Int) (kz:Int->Int),
 vs=[.ref p]/\zs=[.ref f]/\H2 p=some (.rng 0 n)/\0<=n/\n<64/\Zkh env P q params body scope H2 f /\
 (∀i H3,0<=i->i<n->Zd H2 H3->tb ((ZO js σ).set 0 (some (.int i))) H3 λv H4=>v=.int (kz i)/\Zd H3 H4) /\
 ∀(ns:List Int) (l:Addr) (H3:Hp),ns.Perm (nats n)->(ns.Pairwise λx y=>kz x<=kz y)->Zd H2 H3->H2 l=none->H3 l=some (.lst (ns.map V.int))->Q (.ref l) H3
noncomputable def ZlX (ta td:TA) (tb:TE) (js:List (Option Nat)) (env:Env) (P:Addr) (q:Str) (params:Arguments) (body:Expr) (scope:Scope):TE:=fun σ H Q=>ta σ H λvs H1=>td σ H1 λzs H2=>∃(p f:Addr) (n:Int) (kz:Int->Int),
 vs=[.ref p]/\zs=[.ref f,.bl true]/\H2 p=some (.rng 0 n)/\0<=n/\n<64/\Zkh env P q params body scope H2 f /\
 (∀i H3,0<=i->i<n->Zd H2 H3->tb ((ZO js σ).set 0 (some (.int i))) H3 λv H4=>v=.int (kz i)/\Zd H3 H4) /\
 ∀(ns:List Int) (l:Addr) (H3:Hp),ns.Perm (nats n)->(ns.Pairwise λx y=>kz y<=kz x)->Zd H2 H3->H2 l=none->H3 l=some (.lst (ns.map V.int))->Q (.ref l) H3
theorem Zm0 {pins':List (Addr×Obj)}{σ:St}{H':Hp}{s':Shared}{Nc:List Str}{js:List (Option Nat)}{q pn:Str}{params:Arguments}{body:Expr}{scope:Scope}{P f:Addr}{tb:TE}{Q:VK}{m:Nat}{i:Int}{u:Value} (hr:Room m X.A)
  (S:LamSc X Nc js params body scope pn) (hbody:∀cl L f c s H,PE (Zil X X.A.in1.in1 Nc q scope cl L f c s H) body tb) (J:Inv X pins' σ H' s') (L:Zkh X.env P q params body scope H' f) (r:RelV (.int i) u)
  (h:tb ((ZO js σ).set 0 (some (.int i))) H' Q):wpAny (model X.prog X.w) X.A.in1.in1 (call (.ref f) [u]) (EP X pins' σ Q) (λ_ _=>False) s' :=
 Zjr S hbody J J.ok.frames J.ok.hd hr.depth L r h
theorem ZqJ {Nc:List Str}{js:List (Option Nat)}{q pn:Str}{params:Arguments}{body:Expr}{scope:Scope}{P:Addr}{ta td:TA}{tb:TE}{m:Nat}{e:Expr}{p pos lpos kp1:Pos} (hc:X.calm=true) (hr:Room m X.A) (S:LamSc X Nc js params body scope pn)
  (hbody:∀cl L f c s H,PE (Zil X X.A.in1.in1 Nc q scope cl L f c s H) body tb) (hg:Gl X "sorted") (hm:X.mg "sorted"=none) (ha:PA X [e] ta) (hd:PK X [⟨some (Str.ofString "key"),.Lambda params body scope lpos,kp1⟩] td)
  (hpl:(backTo pos (starEach [e] X.env)).any (·.1)=false:=by rfl) (hall:(backToKw pos (keywordEach [⟨some (Str.ofString "key"),.Lambda params body scope lpos,kp1⟩] X.env)).all (·.1.isSome)=true:=by rfl)
  (hnn:(backToKw pos (keywordEach [⟨some (Str.ofString "key"),.Lambda params body scope lpos,kp1⟩] X.env)).any (·.1.isNone)=false:=by rfl) (hks:(backToKw pos (keywordEach [⟨some (Str.ofString "key"),.Lambda params body scope lpos,kp1⟩] X.env)).filterMap (·.1)=[Str.ofString "key"]:=by rfl) (hb:backTo pos (starEach [e] X.env)=(false,eval e X.env)::backTo pos (starEach [] X.env):=by rfl) :
  PE X (.Call (.Name "sorted" p) [e] [⟨some (Str.ofString "key"),.Lambda params body scope lpos,kp1⟩] pos) (ZlW ta td tb js X.env P q params body scope):=by
 intro pins s σ H Q I h
 refine wpAny_Call_Name_kw (Zcb I hg hm Zgc ?_)
 refine PyProof.Rows.callWith_kw (thn (ha pos pins s σ H _ I h) λus s1 ⟨vs,H1,I1,r1,q1⟩=>?_) hb hpl hall hnn
 refine thn (hd pos pins s1 σ H1 _ I1 q1) λws s2 hz=>?_
 obtain⟨zs,H2,I2,r2,pp,f,n,kz,e1,e2,hp,h0,h64,L,tn,fin⟩:=hz
 subst e1 e2
 obtain⟨u,rfl,ru⟩:=r1.one
 cases(show u=Value.ref pp from ru)
 rw[hks]
 obtain⟨v,rfl,rv⟩:=r2.one
 cases(show v=Value.ref f from rv)
 exact Zjs (f:=.ref f) (b:=false) (kz:=kz) I2 hc hp h0 h64 (ksk_s1 _ _) (λx=>ksk_l1 _ _) (λx=>ksk_t1 _ _) (λH' s' pins' i u hi0 hi1 J sm r=>Zm0 hr S hbody J (L.same sm) r (tn i H' hi0 hi1 sm)) (λns l H' a1 a2=>fin ns l H' a1 a2)
theorem ZqK {Nc:List Str}{js:List (Option Nat)}{q pn:Str}{params:Arguments}{body:Expr}{scope:Scope}{P:Addr}{ta td:TA}{tb:TE}{m:Nat}{e:Expr}{e2:Expr}{p pos lpos kp1 kp2:Pos} (hc:X.calm=true) (hr:Room m X.A) (S:LamSc X Nc js params body scope pn)
  (hbody:∀cl L f c s H,PE (Zil X X.A.in1.in1 Nc q scope cl L f c s H) body tb) (hg:Gl X "sorted") (hm:X.mg "sorted"=none) (ha:PA X [e] ta) (hd:PK X [⟨some (Str.ofString "key"),.Lambda params body scope lpos,kp1⟩,⟨some (Str.ofString "reverse"),e2,kp2⟩] td)
  (hpl:(backTo pos (starEach [e] X.env)).any (·.1)=false:=by rfl) (hall:(backToKw pos (keywordEach [⟨some (Str.ofString "key"),.Lambda params body scope lpos,kp1⟩,⟨some (Str.ofString "reverse"),e2,kp2⟩] X.env)).all (·.1.isSome)=true:=by rfl)
  (hnn:(backToKw pos (keywordEach [⟨some (Str.ofString "key"),.Lambda params body scope lpos,kp1⟩,⟨some (Str.ofString "reverse"),e2,kp2⟩] X.env)).any (·.1.isNone)=false:=by rfl) (hks:(backToKw pos (keywordEach [⟨some (Str.ofString "key"),.Lambda params body scope lpos,kp1⟩,⟨some (Str.ofString "reverse"),e2,kp2⟩] X.env)).filterMap (·.1)=[Str.ofString "key",Str.ofString "reverse"]:=by rfl) (hb:backTo pos (starEach [e] X.env)=(false,eval e X.env)::backTo pos (starEach [] X.env):=by rfl) :
  PE X (.Call (.Name "sorted" p) [e] [⟨some (Str.ofString "key"),.Lambda params body scope lpos,kp1⟩,⟨some (Str.ofString "reverse"),e2,kp2⟩] pos) (ZlX ta td tb js X.env P q params body scope):=by
 intro pins s σ H Q I h
 refine wpAny_Call_Name_kw (Zcb I hg hm Zgc ?_)
 refine PyProof.Rows.callWith_kw (thn (ha pos pins s σ H _ I h) λus s1 ⟨vs,H1,I1,r1,q1⟩=>?_) hb hpl hall hnn
 refine thn (hd pos pins s1 σ H1 _ I1 q1) λws s2 hz=>?_
 obtain⟨zs,H2,I2,r2,pp,f,n,kz,e1,e2,hp,h0,h64,L,tn,fin⟩:=hz
 subst e1 e2
 obtain⟨u,rfl,ru⟩:=r1.one
 cases(show u=Value.ref pp from ru)
 rw[hks]
 obtain⟨v,v2,rfl,rv,rv2⟩:=r2.two
 cases(show v=Value.ref f from rv)
 cases(show v2=Value.bool true from rv2)
 exact Zjs (f:=.ref f) (b:=true) (kz:=kz) I2 hc hp h0 h64 (ksk_s2 _ _ _) (λx=>ksk_l2 _ _ _) (λx=>ksk_t2 _ _ _) (λH' s' pins' i u hi0 hi1 J sm r=>Zm0 hr S hbody J (L.same sm) r (tn i H' hi0 hi1 sm)) (λns l H' a1 a2=>fin ns l H' a1 a2)
end
noncomputable def ZgH (x:Str):Str:=(x++".<locals>.")++"<lambda>"
noncomputable def ZU (K:Frag) (mg:Str->Option Value) (x:Str) (H:Hp):Prop:=H (Zfo K mg x)=some (ZiG (ZgH x))
theorem ZU.same {K:Frag}{mg:Str->Option Value}{x:Str}{H H':Hp} (h:ZU K mg x H) (s:Zd H H'):ZU K mg x H':=s _ _ h
noncomputable def ZlY (K:Frag) (mg:Str->Option Value) (x:Str) (f:Addr):Prop:=∃c,ZqH K f=some c/\codeHdIn K c (Zfo K mg x)=true
section
variable {P:Program}{w:World}{K:Frag}{mg:Str->Option Value}{base:Heap}
theorem Fun.okL {x qual:Str}{st:Stmt}{f:Addr}{fd:FuncData}{N ps:List Str}{k:Nat}{sp:Sp} (F:Fun K x qual st f fd) (L:ZlY K mg qual f) (B:BM mg base) (S:FnScope N ps (defScope st)) (len:∀vs H Q E,sp vs H Q E->vs.length=ps.length)
  (hbody:∀(cdv:Value) (A:Around) (outer:List Env) (s:Shared) (H:Hp) (vs:List V) (Q:VK) (E:XK),LamIn (ZgB (CXE P w) P w K mg base N qual (defScope st) f cdv A outer s H E) (Zfo K mg qual) (ZgH qual)->Room k (A.deeper (envOfC qual (defScope st) s.heap.objs.size f cdv))->sp vs H Q E ->
   ∃t,PSs (ZgB (CXE P w) P w K mg base N qual (defScope st) f cdv A outer s H E) (defBody st) t/\t {nx:=λ_ H'=>Q .non H',rt:=Q} (start N vs) H):FnOk P w K mg base (CXE P w) (k+1) f fd ps sp:=by
 obtain⟨oc,od,kV,doc,pm,an,cdv,ct,osl,rfl,lk,hcd⟩:=F.ex
 obtain⟨c,h1,h2⟩:=L
 have e:cdv=.ref c:=by
  unfold ZqH at h1
  rw[lk]at h1
  dsimp only at h1
  cases cdv<;>first|(cases h1;rfl)|(cases h1;done)
 exact ZrI lk hcd S len λA outer s H vs Q E hr hsp=>hbody cdv A outer s H vs Q E ⟨⟨c,e,h2⟩,B,rfl⟩ hr hsp
end
theorem Zsd {b:Addr}{q:Str}:∀{l:List (Addr×Str)},l.lookup b=some q->(b,q)∈l
 |[],e=>by cases e
 |(c,y)::r,e=>by
  rw[List.lookup_cons]at e
  cases hb:b==c with
  |true=>rw[hb]at e;cases e;rw[eq_of_beq hb];exact Yv
  |false=>rw[hb]at e;exact Yu _ (Zsd e)
theorem ZiX {K:Frag}{mg:Str->Option Value}{x:Str}{f c T:Addr}{oc1 oc2:Value}{od1 od2:Option Addr}{fd:FuncData}{sl1 sl2:Array (Option Value)}{vs:Array Value} (hm:mg x=some (.ref f)) (l1:K.lookup f=some ⟨oc1,od1,.func fd,sl1⟩) (e:fd.code=.ref c) (l2:K.lookup c=some ⟨oc2,od2,.fields vs,sl2⟩) (h11:vs[11]?=some (.ref T)):Zfo K mg x=T/\ZqH K f=some c:=by
 have h1:ZqH K f=some c:=by
  unfold ZqH
  rw[l1]
  dsimp only
  rw[e]
 refine⟨?_,h1⟩
 unfold Zfo
 rw[hm]
 dsimp only
 rw[h1]
 dsimp only
 unfold tabOf
 rw[l2]
 dsimp only
 rw[h11]
theorem ZqL {P:Program}{w:World}{K:Frag}{mg mb:Str->Option Value}{CX:CXT}{k:Nat}{fa a:Addr}{fd:FuncData}{x:Str}{sp:Sp}{s₁:Shared}{vs:List Value}{ns:List Int}{tabs:List (Addr×Str)}
  (KX:K.In s₁.heap) (hns:s₁.heap.Ns mainGlobals mg) (hb:s₁.heap.Ns builtinsNs mb) (hbb:∀x:Str,x≠"__name__"->mb x=bootBuiltins x) (hlim:s₁.heap.NoLimit) (hg:s₁.gens=#[]) (hbm:BM mg s₁.heap)
  (ha:s₁.heap.get? a=some {cls:=.type "list",data:=.seq vs.toArray}) (hi:IntsAre vs ns) (hl:ns.length<=sizeLine) (hr:Room k callerA)
  (hT:∀p∈tabs,s₁.heap.get? p.1=some (tabObj #[])/\K.lookup p.1=none/\∃c,codeHdIn K c p.1=true) (nd:(tabs.map (·.1)).Nodup)
  (F:∀base:Heap,K.In base->base.Ns mainGlobals mg->BM mg base->FnOk P w K mg base CX k fa fd [x] sp) (hbind:∀(s:Shared) (u:Value),BindsTo s fd ⟨[u],[]⟩ [(x,u)])
  (hsp:∀H:Hp,SqL K H a (ns.map V.int)->(∀p∈tabs,H p.1=some (ZiG p.2))->sp [.ref a] H (λv _=>v=.bl true) λ_ _ _=>False)
  (hCX:∀H e s',CX [] H s₁ (λ_ _ _=>False) e s'->False) :
  codeAny (model P w) callerA (.call (.ref fa) ⟨[.ref a],[]⟩) (λr s'=>r=.ok (.ret (.bool true))/\OldK s₁.heap s'.heap/\s'.os=s₁.os/\AllBare s'.gens) s₁:=by
 have rv:=ZhM hi
 have lenV:=hi.length
 have tmem:∀b q,tabs.lookup b=some q->(b,q)∈tabs:=λb q e=>Zsd e
 have tlook:∀p∈tabs,tabs.lookup p.1=some p.2:=by
  clear hT hsp tmem
  induction tabs with
  |nil=>intro p hp;cases hp
  |cons t r ih =>
   intro p hp
   rw[YR,List.nodup_cons]at nd
   rcases Yk.mp hp with rfl|hp
   .rw[List.lookup_cons,beq_self_eq_true]
   .have:(p.1==t.1)=false:=beq_eq_false_iff_ne.mpr λz=>nd.1 (YK.mpr ⟨p,hp,z⟩)
    rw[List.lookup_cons,this]
    exact ih nd.2 p hp
 have core:∀H:Hp,SqL K H a (ns.map V.int)->HOk P w H s₁.heap->(∀b,H b=none\/(b=a/\K.lookup a=none/\∃o xs,H b=some (.frz o (.lst xs)))\/∃q,(b,q)∈tabs/\H b=some (ZiG q))->(∀p∈tabs,H p.1=some (ZiG p.2)) ->
   codeAny (model P w) callerA (.call (.ref fa) ⟨[.ref a],[]⟩) (λr s'=>r=.ok (.ret (.bool true))/\OldK s₁.heap s'.heap/\s'.os=s₁.os/\AllBare s'.gens) s₁:=by
  intro H hS hok hA hTb
  have base_of:∀{b:Addr}{o:Obj},s₁.heap.get? b=some o->H b=none->(Zkc s₁.heap H).get? b=some o:=λe n=>Zrw e n
  have noA:∀{b:Addr}{o:Obj},s₁.heap.get? b=some o->o.cls≠.type "list"->o.cls≠.none->H b=none:=λ{b o} e d1 d2=>by
   rcases hA b with z|⟨z,_⟩|⟨q,z,_⟩
   .exact z
   .subst z;rw[ha]at e;cases e;exact absurd rfl d1
   .rw[(hT _ z).1]at e;cases e;exact absurd rfl d2
  have noD:∀{b:Addr}{o:Obj}{es:Array DictEntry}{ep:Nat},s₁.heap.get? b=some o->o.data=.dict es ep->H b=none:=λ{b o es ep} e d=>by
   rcases hA b with z|⟨z,_⟩|⟨q,z,_⟩
   .exact z
   .subst z;rw[ha]at e;cases e;cases d
   .rw[(hT _ z).1]at e;cases e;cases d
  have nsK:∀{b:Addr}{m:Str->Option Value},s₁.heap.Ns b m->(Zkc s₁.heap H).Ns b m:=λ{b m} ⟨o,es,ep,e,d,r⟩=>⟨o,es,ep,base_of e (noD e d),d,r⟩
  have hKb:K.In (Zkc s₁.heap H):=λb o e=>base_of (KX b o e) (by
   rcases hA b with z|⟨z,zk,_⟩|⟨q,z,_⟩
   .exact z
   .subst z;rw[zk]at e;cases e
   .rw[(hT _ z).2.1]at e;cases e)
  have hM:Mod K mg (Zkc s₁.heap H):=⟨hKb,nsK hns,⟨mb,nsK hb,hbb⟩,let ⟨mc,h1,h2⟩:=hlim;⟨mc,nsK h1,h2⟩⟩
  have hB:BM mg (Zkc s₁.heap H):=by
   obtain⟨bm,ob,b1,b2,b3,b4,b5,b6,b7⟩:=hbm
   exact⟨bm,ob,b1,b2,b3,base_of b4 (noA b4 (by rw[b5];decide) (by rw[b5];exact λh=>nomatch h)),b5,b6,b7⟩
  have e0:Env0 P w K mg (Zkc s₁.heap H) callerA [] s₁ H:=⟨rfl,hM,λb o e=>Zuy e,Ji (Zqe _ _),trivial,λb hb=>absurd (show b∈([]:List Addr)from hb) (by simp),hok,.of_eq hg⟩
  refine codeAny_mono ((F _ hKb (nsK hns) hB).run callerA [] s₁ H ⟨[.ref a],[]⟩ [.ref a] [.ref a] _ _ hr e0 (hbind s₁ (.ref a)) (.cons rfl .nil) (hsp H hS hTb)) λr s' h=>?_
  cases r with
  |error e=>exact(hCX H e s' h).elim
  |ok fl =>
   cases fl with
   |next=>exact False.elim h
   |brk=>exact False.elim h
   |cont=>exact False.elim h
   |ret u =>
    obtain⟨v,H',os,bare,un,hok',r',q⟩:=h
    have q':v=.bl true:=q
    subst q'
    obtain rfl:u=Value.bool true:=r'
    have old:∀b o,s₁.heap.get? b=some o->asItWas s₁.heap s'.heap b o/\∃o',s'.heap.get? b=some o':=λb o e=>by
     rcases hA b with z|⟨_,_,ob,xs,z⟩|⟨q,zm,z⟩
     .have:=un.keep b o e z (by intro y;exact absurd (show b∈([]:List Addr)from y) (by simp)) (by simp)
      exact⟨.inl this,o,this⟩
     .have z2:=un.frzs b ob _ z
      obtain⟨e1,_⟩:=hok b _ z
      obtain⟨e2,_⟩:=hok' b _ z2
      rw[e]at e1;cases e1
      exact⟨.inl e2,o,e2⟩
     .obtain⟨more,z2⟩:=un.tbls b _ z
      obtain⟨ts,e2,_⟩:=hok' b _ z2
      obtain⟨t1,_,c,t3⟩:=hT _ zm
      have t1':s₁.heap.get? b=some (tabObj #[]):=t1
      rw[e]at t1';cases t1'
      refine⟨.inr (.inl ⟨((codeHd_of_K KX t3).tab t1).isCodeTable,rfl,#[],ts,rfl,by rw[Array.empty_append];exact e2⟩),_,e2⟩
    exact⟨rfl,⟨λb o e=>(old b o e).1,λb o e=>(old b o e).2⟩,os,bare⟩
 have neA:∀q,(a,q)∉tabs:=λq z=>by
  have:=(hT _ z).1
  rw[show((a,q):Addr×Str).1=a from rfl,ha]at this;cases this
 have tabok:∀(H:Hp) (b:Addr) (q:Str),(b,q)∈tabs->Zak P w H s₁.heap b (ZiG q):=λH b q z=>⟨#[],(hT _ z).1,trivial,λpos cv e=>by cases e⟩
 cases hk:K.lookup a with
 |some o =>
  have e:=KX a o hk
  rw[ha]at e
  cases e
  refine core (λb=>(tabs.lookup b).map ZiG) (.inr ⟨_,vs.toArray,_,hk,rfl,rfl,rfl,by rw[Ys,lenV];exact hl,by simpa using rv⟩) (λb u z=>?_) (λb=>?_) λp hp=>by rw[tlook p hp];rfl
  .dsimp only at z
   cases q:tabs.lookup b with
   |none=>rw[q]at z;cases z
   |some y=>rw[q]at z;cases z;exact tabok _ b y (tmem b y q)
  .cases q:tabs.lookup b with
   |none=>exact .inl rfl
   |some y=>exact .inr (.inr ⟨y,tmem b y q,rfl⟩)
 |none =>
  refine core (λb=>if b=a then some (.frz {cls:=.type "list",data:=.seq vs.toArray} (.lst (ns.map V.int)))else (tabs.lookup b).map ZiG) (.inl (.inr ⟨{cls:=.type "list",data:=.seq vs.toArray},Yd rfl⟩)) (λb u z=>?_) (λb=>?_) λp hp=>?_
  .by_cases hb:b=a
   .have z':=(Yd hb).symm.trans z
    cases z'
    subst hb
    exact⟨ha,by rw[Yi];exact hl,vs,_,rv,ha⟩
   .have z':=(Yb hb).symm.trans z
    cases q:tabs.lookup b with
    |none=>rw[q]at z';cases z'
    |some y=>rw[q]at z';cases z';exact tabok _ b y (tmem b y q)
  .by_cases hb:b=a
   .exact .inr (.inl ⟨hb,hk,_,_,Yd hb⟩)
   .cases q:tabs.lookup b with
    |none=>exact .inl (by rw[Yb hb];rfl)
    |some y=>exact .inr (.inr ⟨y,tmem b y q,by rw[Yb hb];rfl⟩)
  .have:p.1≠a:=λz=>neA p.2 (by rw[<-z];exact hp)
   rw[Yb this,tlook p hp];rfl
theorem Zse {l:OpenLaw}{n k:Nat}{q:Program}{loose:List Str}{XP:(Str->Option Value)->Heap->Prop}{YP:World->Heap->Prop}{d:DefRec}{K:Params->Frag}{CX:World->CXT}{sp:World->(Str->Option Value)->Sp}{x:Str}{ts:List Addr}{tabs:Frag->(Str->Option Value)->List (Addr×Str)}
  (hn:l.most=some n) (hn2:n<=sizeLine) (hdf:d.params.defaults=[]) (hr:Room k callerA)
  (hY:∀(w:World) (h:Heap),YP w h->(K w.params).In h) (hY2:∀(w:World) (h:Heap),YP w h->∀P∈ts,h.get? P=some (tabObj #[]))
  (F:∀(w:World) (mg:Str->Option Value) (fa:Addr) (h:Heap),(K w.params).In h->h.Ns mainGlobals mg->mg d.name=some (.ref fa) ->
   ∃fd:FuncData,(∀(s:Shared) (u:Value),BindsTo s fd ⟨[u],[]⟩ [(x,u)])/\(∀p∈tabs (K w.params) mg,p.1∈ts/\(K w.params).lookup p.1=none/\∃c,codeHdIn (K w.params) c p.1=true)/\((tabs (K w.params) mg).map (·.1)).Nodup /\
    ∀base:Heap,(K w.params).In base->base.Ns mainGlobals mg->BM mg base->FnOk l.prog w (K w.params) mg base (CX w) k fa fd [x] (sp w mg))
  (hsp:∀(w:World) (mg:Str->Option Value) (H:Hp) (a:Addr) (ns:List Int),ns.length<=n->SqL (K w.params) H a (ns.map V.int)->(∀p∈tabs (K w.params) mg,H p.1=some (ZiG p.2))->sp w mg [.ref a] H (λv _=>v=.bl true) λ_ _ _=>False)
  (hCX:∀(w:World) (H:Hp) (s:Shared) (e:Value) (s':Shared),CX w [] H s (λ_ _ _=>False) e s'->False) :
  WalkO q loose XP YP l.row.toRowW d [] (λf vs=>PySem.call f vs):=by
 refine Att.ZmH hn hdf λw s₀ s₁ mg mb fa o pm cd doc a vs ns G Y ho hd hcd hmg hobj hints hlen hg=>?_
 have KX:=hY w _ Y
 have TX:=hY2 w _ Y
 obtain⟨fd,hb,hT,nd,hF⟩:=F w mg fa _ KX G.T.g hmg
 have hbm:BM mg s₁.heap:=by
  obtain⟨bm,ob,b1,b2,b3,b4,b5,b6⟩:=G.T.bmain
  have bG:bm≠mainGlobals:=λz=>by
   obtain⟨o,es,ep,e,hd,_⟩:=G.T.g
   rw[z,e]at b3;cases b3;rw[hd]at b6;cases b6
  exact⟨bm,ob,b1,b2,bG,b3,b4,b5,b6⟩
 exact ZqL KX G.T.g G.T.b G.T.builtins G.T.nolimit hg hbm hobj hints (Yr hlen hn2) hr (λp hp=>⟨TX _ (hT p hp).1,(hT p hp).2⟩) nd hF hb (λH hS hTb=>hsp w mg H a ns hlen hS hTb) λH e s'=>hCX w H s₁ e s'
theorem Zom (a v d:Value):argsOk "max" ⟨[a],[(Str.ofString "key",v),(Str.ofString "default",d)]⟩:=by unfold argsOk;kernel_rfl
noncomputable def Zen (kz:Int->Int) (ns:List Int) (m i:Nat):Prop:=∀j,j<m->kz (nth ns j)<=kz (nth ns i)/\(j<i->kz (nth ns j)<kz (nth ns i))
theorem Zen.one (kz:Int->Int) (ns:List Int):Zen kz ns 1 0:=λj hj=>⟨by rw[show j=0 by omega];exact Int.le_refl _,λh=>absurd h ⋯⟩
theorem Zen.take {kz:Int->Int}{ns:List Int}{m i:Nat} (h:Zen kz ns m i) (hi:i<m) (c:kz (nth ns m)>kz (nth ns i)):Zen kz ns (m+1) m:=λj hj=>by
 by_cases e:j=m
 .subst e;exact⟨Int.le_refl _,λh=>absurd h ⋯⟩
 .have:=(h j ⋯).1
  exact⟨⋯,λ_=>⋯⟩
theorem Zen.keep {kz:Int->Int}{ns:List Int}{m i:Nat} (h:Zen kz ns m i) (hi:i<m) (c:¬ kz (nth ns m)>kz (nth ns i)):Zen kz ns (m+1) i:=λj hj=>by
 by_cases e:j=m
 .subst e;exact⟨⋯,λz=>absurd z ⋯⟩
 .exact h j ⋯
section
variable {X:Cx}
theorem ZE {σ:St}{H':Hp}{s':Shared}{ps:List (Addr×Obj)}{x:Addr}{o:Obj} (J:Inv X ps σ H' s') (hm:(x,o)∈ps):s'.heap.get? x=some o/\H' x=none/\x≠X.env.locals/\x∉X.fs/\(∀v,o.data≠.cell v)/\∀y cc,X.env.cells.lookup y=some cc->cc≠x:=by
 obtain⟨q1,q2,q3,q4,q5⟩:=J.pin _ (Yn _ hm)
 refine⟨q1,q2,q3,q4,q5,λy cc hc z=>?_⟩
 obtain⟨v,oc,w1,w2⟩:=J.cell y cc hc
 rw[z,q1]at w1;cases w1;exact q5 _ w2
theorem ZqM {pins:List (Addr×Obj)}{σ:St}{H:Hp}{A:Around}{R:Result->Shared->Prop}{d:Value}{dk:Str}{l I S q:Addr}{ns:List Int}{kz:Int->Int}
  (hh:A.handled=none) (hlI:l≠I) (hSI:S≠I) (hI0:X.s₀.heap.objs.size<=I) (hS0:X.s₀.heap.objs.size<=S) (hp:∀p∈X.pn++pins,p.1≠I/\p.1≠S) (hl:H l=some (.lst (ns.map V.int)))
  (turn:∀(H':Hp) (s':Shared) (pins':List (Addr×Obj)) (n:Int) (u:Value),n∈ns->Inv X pins' σ H' s'->Zd H H'->RelV (.int n) u->wpAny (model X.prog X.w) A.in1 (call (.ref q) [u]) (EP X pins' σ λv H2=>v=.int (kz n)/\Zd H' H2) (λ_ _=>False) s')
  (hR0:ns=[]->∀H' s',Inv X pins σ H' s'->Zd H H'->R (.ok (.ret d)) s')
  (hR:∀(i:Nat) (v:Value) H' s',i<ns.length->RelV (.int (nth ns i)) v->Zen kz ns ns.length i->Inv X pins σ H' s'->Zd H H'->R (.ok (.ret v)) s') :
  ∀(r j:Nat) (H':Hp) (s':Shared) (buf:Array Value) (c:Nat) (oI:Obj),ns.length-j=r->j<=ns.length->Inv X ((S,seqObj "list" buf c)::(I,oI)::pins) σ H' s'->Zd H H'->s'.heap.IsListIter I l j ->
   ((j=0/\buf=#[])\/∃(i:Nat) (vb:Value) (tb:Tok),i<j/\buf=#[vb,.int (kz (nth ns i)) tb]/\RelV (.int (nth ns i)) vb/\Zen kz ns j i) ->
   codeAny (model X.prog X.w) A (.builtin "max.loop" ⟨[.ref I,.ref q,.ref S],[(dk,d)]⟩) R s':=by
 have hname:(toString "max"++toString ".loop":String)="max.loop":=by decide
 intro r
 induction r with
 |zero =>
  intro j H' s' buf c oI hr hj J sm hit hb
  have hjn:j=ns.length:= ⋯
  obtain⟨oS,nS,lS,fS,_,cS⟩:=ZE J (Yv ..)
  obtain⟨oI',nI,lI,fI,dI,cI⟩:=ZE J (Yu _ (Yv ..))
  obtain⟨its,rv,pl,_⟩:=J.list (SqL.of (sm _ _ hl))
  have hlen:its.length=ns.length:=by have:=rv.length;rw[Yi]at this;omega
  have hsz:its.toArray.size=its.length:=Ys ..
  have W:=Walks.list (prog:=X.prog) (w:=X.w) (A:=A.in1) hh I l hlI its.toArray
  have J0:Inv X pins σ H' s':=J.ZG λp hp'=>J.pin p (Yn _ (Yu _ (Yu _ hp')))
  refine codeAny_builtin PySem.F.entry_max_loop ?_
  rw[Around.under_plainId PySem.F.plain_max_loop _]
  show wpAny _ A.in1 (seqItems? (.ref S) >>= _) _ _ _
  refine Ya (wpAny_seqItems oS rfl ?_)
  rcases hb with⟨hj0,rfl⟩|⟨i,vb,tb,hi,rfl,rvb,hB⟩
  .refine Ya (wpAny_tryCatch (W.done _ _ _ ⟨by rw[hsz,hlen,<-hjn];exact hit,pl.isList⟩ λh' tk' hk'=>?_))
   refine Ya (wpAny_rule (Ye ?_))
   exact hR0 (List.length_eq_zero_iff.mp ⋯) H' _ (J0.turned (it:=I) (λb o nb e=>hk' b o (by simpa using nb) e) nI lI (.inr hI0) cI λp hp'=>(hp p hp').1) sm
  .refine Ya (wpAny_tryCatch (W.done _ _ _ ⟨by rw[hsz,hlen,<-hjn];exact hit,pl.isList⟩ λh' tk' hk'=>?_))
   have hS':=hk' S _ (by simpa using hSI) oS
   have J1:=J0.turned (t':=tk') (h':=h') (it:=I) (λb o nb e=>hk' b o (by simpa using nb) e) nI lI (.inr hI0) cI λp hp'=>(hp p hp').1
   refine Ya (wpAny_updateSeq hS' rfl ?_ (show 2<=sizeLine by decide) (Yq _))
   refine Ya (wpAny_letGo (Ye ?_))
   have J2:=J1.turned (t':=tk') (h':=h'.update S (Obj.mapSeq λ_=>(#[]:Array Value))) (it:=S) (λb o nb e=>(Heap.get?_update_ne _ _ _ _ nb).trans e) nS lS (.inr hS0) cS λp hp'=>(hp p hp').2
   exact hR i vb H' _ ⋯ rvb (hjn▸hB) J2 sm
 |succ r ih =>
  intro j H' s' buf c oI hr hj J sm hit hb
  have hlt:j<ns.length:= ⋯
  obtain⟨oS,nS,lS,fS,_,cS⟩:=ZE J (Yv ..)
  obtain⟨oI',nI,lI,fI,dI,cI⟩:=ZE J (Yu _ (Yv ..))
  obtain⟨its,rv,pl,_⟩:=J.list (SqL.of (sm _ _ hl))
  have hlen:its.length=ns.length:=by have:=rv.length;rw[Yi]at this;omega
  have hsz:its.toArray.size=its.length:=Ys ..
  have W:=Walks.list (prog:=X.prog) (w:=X.w) (A:=A.in1) hh I l hlI its.toArray
  have J0:Inv X ((S,seqObj "list" buf c)::pins) σ H' s':=J.ZG λp hp'=>J.pin p (Yn _ (by
   rcases Yk.mp hp' with z|z
   .exact Yk.mpr (.inl z)
   .exact Yu _ (Yu _ z)))
  refine codeAny_builtin PySem.F.entry_max_loop ?_
  rw[Around.under_plainId PySem.F.plain_max_loop _]
  show wpAny _ A.in1 (seqItems? (.ref S) >>= _) _ _ _
  refine Ya (wpAny_seqItems oS rfl ?_)
  have step:∀(v:Value) (h':Heap) (tk':Nat),its.toArray[j]?=some v->h'.IsListIter I l (j+1)/\h'.IsList l its.toArray->(∀b o,b∉[I]->s'.heap.get? b=some o->h'.get? b=some o)->RelV (.int (nth ns j)) v/\∃oI2,h'.get? I=some oI2/\Inv X ((S,seqObj "list" buf c)::(I,oI2)::pins) σ H' {s' with heap:=h',toks:=tk'}:=λv h' tk' hP hst hk'=>by
   refine⟨?_,?_⟩
   .obtain⟨v',e1,e2⟩:=rv.get (i:=j) (x:=V.int (nth ns j)) (by unfold nth;rw[YE,Yh,Yf hlt];rfl)
    have:its[j]?=some v:=by simpa using hP
    rw[e1]at this;cases this;exact e2
   .obtain⟨oI2,g2,hcls,hdat⟩:=id hst.1
    have J1:=J0.turned (t':=tk') (h':=h') (it:=I) (λb o nb e=>hk' b o (by simpa using nb) e) nI lI (.inr hI0) cI λp hp'=>by
     rcases YB.mp hp' with z|z
     .exact(hp p (YY _ z)).1
     .rcases Yk.mp z with rfl|z
      .exact hSI
      .exact(hp p (Yn _ z)).1
    refine⟨oI2,g2,J1.ZG λp hp'=>?_⟩
    rcases Yk.mp hp' with rfl|hp'
    .exact J1.pin _ (Yn _ (Yv ..))
    .rcases Yk.mp hp' with rfl|hp'
     .exact⟨g2,nI,lI,fI,λv z=>by rw[hdat]at z;cases z⟩
     .exact J1.pin _ (Yn _ (Yu _ hp'))
  have write:∀{H2:Hp}{s2:Shared}{oI2:Obj} (v:Value) (t2:Tok) (b2:Array Value) (c0:Nat),Inv X ((S,seqObj "list" b2 c0)::(I,oI2)::pins) σ H2 s2->∃c2,Inv X ((S,seqObj "list" #[v,.int (kz (nth ns j)) t2] c2)::(I,oI2)::pins) σ H2 {s2 with heap:=s2.heap.update S (Obj.mapSeq λ_=>#[v,.int (kz (nth ns j)) t2])}:=λ{H2 s2 oI2} v t2 b2 c0 K=>by
   obtain⟨o2,n2,l2,f2,_,cc2⟩:=ZE K (Yv ..)
   obtain⟨c2,hc2⟩:∃c2,(s2.heap.update S (Obj.mapSeq λ_=>#[v,.int (kz (nth ns j)) t2])).get? S=some (seqObj "list" #[v,.int (kz (nth ns j)) t2] c2):=⟨_,get?_update_seq o2 λ_=>#[v,.int (kz (nth ns j)) t2]⟩
   have K0:Inv X ((I,oI2)::pins) σ H2 s2:=K.ZG λp hp'=>K.pin p (Yn _ (Yu _ hp'))
   have K1:=K0.turned (t':=s2.toks) (h':=s2.heap.update S (Obj.mapSeq λ_=>#[v,.int (kz (nth ns j)) t2])) (it:=S) (λb o nb e=>(Heap.get?_update_ne _ _ _ _ nb).trans e) n2 l2 (.inr hS0) cc2 λp hp'=>by
    rcases YB.mp hp' with z|z
    .exact(hp p (YY _ z)).2
    .rcases Yk.mp z with rfl|z
     .exact hSI.symm
     .exact(hp p (Yn _ z)).2
   refine⟨c2,K1.ZG λp hp'=>?_⟩
   rcases Yk.mp hp' with rfl|hp'
   .exact⟨hc2,n2,l2,f2,λv z=>by cases z⟩
   .exact K1.pin p (Yn _ hp')
  have mem:nth ns j∈ns:=by unfold nth;rw[Yh,Yf hlt];exact YF hlt
  rcases hb with⟨hj0,rfl⟩|⟨i,vb,tb,hi,rfl,rvb,hB⟩
  .refine Ya (wpAny_tryCatch (W.item j _ _ _ (by rw[hsz,hlen];exact hlt) ⟨hit,pl.isList⟩ λv h' tk' hP hst' hk'=>?_))
   obtain⟨rj,oI2,gI,J2⟩:=step v h' tk' hP hst' hk'
   obtain⟨oI3,gI3,hcls,hdat⟩:=id hst'.1
   rw[gI]at gI3;cases gI3
   refine Ya (wpAny_tryCatch (YH (YJ (turn H' _ _ _ v mem J2 sm rj) (λx s'' he=>?_) λ_ _ hF=>hF.elim)))
   obtain⟨x2,H2,J3,r2,rfl,sm2⟩:=he
   obtain⟨t2,rfl⟩:=r2
   obtain⟨oS3,_⟩:=ZE J3 (Yv ..)
   obtain⟨oI4,_⟩:=ZE J3 (Yu _ (Yv ..))
   obtain⟨c2,J4⟩:=write v t2 _ _ J3
   refine Ya (wpAny_updateSeq oS3 rfl ?_ (Yq _) (show 2<=sizeLine+1 by decide))
   rw[hname]
   refine Ye ⟨plainId_quiet PySem.F.plain_max_loop _,ih (j+1) H2 _ _ c2 oI2 ⋯ hlt J4 (sm.trans sm2) ⟨oI2,(Heap.get?_update_ne _ _ _ _ hSI.symm).trans oI4,hcls,hdat⟩ (.inr ⟨j,v,t2,⋯,rfl,rj,?_⟩)⟩
   subst hj0;exact Zen.one kz ns
  .refine Ya (wpAny_tryCatch (W.item j _ _ _ (by rw[hsz,hlen];exact hlt) ⟨hit,pl.isList⟩ λv h' tk' hP hst' hk'=>?_))
   obtain⟨rj,oI2,gI,J2⟩:=step v h' tk' hP hst' hk'
   obtain⟨oI3,gI3,hcls,hdat⟩:=id hst'.1
   rw[gI]at gI3;cases gI3
   refine Ya (wpAny_tryCatch (YH (YJ (turn H' _ _ _ v mem J2 sm rj) (λx s'' he=>?_) λ_ _ hF=>hF.elim)))
   obtain⟨x2,H2,J3,r2,rfl,sm2⟩:=he
   obtain⟨t2,rfl⟩:=r2
   obtain⟨oS3,_⟩:=ZE J3 (Yv ..)
   obtain⟨oI4,_⟩:=ZE J3 (Yu _ (Yv ..))
   refine Ya (wpAny_tryCatch (YH (Ya (CmpOf.ints_gt (prog:=X.prog) (w:=X.w) (A:=A.in1) (P:=λi v=>∃t,v=.int (kz (nth ns i)) t) (λi=>kz (nth ns i)) (λi v h=>h) j i _ _ _ _ _ ⟨t2,rfl⟩ ⟨tb,rfl⟩ ?_))))
   refine Ya (YH (wpAny_truthy_bool ?_))
   refine Ya (wpAny_letGo (Ye ?_))
   by_cases hb':kz (nth ns j)>kz (nth ns i)
   .simp only[hb',decide_true,if_true]
    obtain⟨c2,J4⟩:=write v t2 _ _ J3
    refine Ya (wpAny_updateSeq oS3 rfl (Ya (wpAny_letGo ?_)) (show 2<=sizeLine by decide) (show 2<=sizeLine+1 by decide))
    rw[hname]
    exact Ye ⟨plainId_quiet PySem.F.plain_max_loop _,ih (j+1) H2 _ _ c2 oI2 ⋯ hlt J4 (sm.trans sm2) ⟨oI2,(Heap.get?_update_ne _ _ _ _ hSI.symm).trans oI4,hcls,hdat⟩ (.inr ⟨j,v,t2,⋯,rfl,rj,hB.take hi hb'⟩)⟩
   .simp only[hb',decide_false,Bool.false_eq_true,if_false]
    refine Ya (wpAny_letGo ?_)
    rw[hname]
    exact Ye ⟨plainId_quiet PySem.F.plain_max_loop _,ih (j+1) H2 _ _ c oI2 ⋯ hlt J3 (sm.trans sm2) ⟨oI2,oI4,hcls,hdat⟩ (.inr ⟨i,vb,tb,⋯,rfl,rvb,hB.keep hi hb'⟩)⟩
theorem maxKD {pins:List (Addr×Obj)}{σ:St}{H:Hp}{s:Shared}{l q:Addr}{ns:List Int}{kz:Int->Int}{d:Value}{dv:V}{Q:VK} (I:Inv X pins σ H s) (hc:X.calm=true) (hl:H l=some (.lst (ns.map V.int))) (rd:RelV dv d)
  (turn:∀(H':Hp) (s':Shared) (pins':List (Addr×Obj)) (n:Int) (u:Value),n∈ns->Inv X pins' σ H' s'->Zd H H'->RelV (.int n) u->wpAny (model X.prog X.w) X.A.in1 (call (.ref q) [u]) (EP X pins' σ λv H2=>v=.int (kz n)/\Zd H' H2) (λ_ _=>False) s')
  (fin0:ns=[]->∀H',Zd H H'->Q dv H') (fin:∀i H',i<ns.length->Zen kz ns ns.length i->Zd H H'->Q (.int (nth ns i)) H') :
  wpAny (model X.prog X.w) X.A (call (.builtin "max") [.ref l] [(Str.ofString "key",.ref q),(Str.ofString "default",d)]) (EP X pins σ Q) X.xe s:=by
 have hname:(toString "max"++toString ".loop":String)="max.loop":=by decide
 obtain⟨its,rv,pl,_⟩:=I.list (SqL.of hl)
 obtain⟨ol,hol,_⟩:=id pl.isList
 have hll:l<s.heap.objs.size:=Yl hol
 refine kmk_tree PySem.F.kind_max PySem.F.plain_max PySem.F.entry_max (Zom _ _ _) ?_
 show wpAny _ X.A.in1 (Builtin.Builtins.bindParams "max" ["key","default"] 0 ⟨[],[(Str.ofString "key",.ref q),(Str.ofString "default",d)]⟩ >>= _) _ _ s
 refine Ya (wpAny_of_eq (show Builtin.Builtins.bindParams "max" ["key","default"] 0 ⟨[],[(Str.ofString "key",.ref q),(Str.ofString "default",d)]⟩=pure [some (.ref q),some d]from rfl) ?_)
 refine Ya (Ye ?_)
 refine Ya (wpAny_pyIter_list pl.isList ?_)
 refine Ya (wpAny_newList ?_ (Yq _))
 rw[hname]
 refine Ye ⟨plainId_quiet PySem.F.plain_max_loop _,?_⟩
 have hS:(s.heap.push {cls:=.type "list_iterator",data:=.fields #[.ref l,.int 0 0]}).objs.size=s.heap.objs.size+1:=size_push' ..
 have I2:=I.kept (h':=(s.heap.push {cls:=.type "list_iterator",data:=.fields #[.ref l,.int 0 0]}).push (seqObj "list" #[] 0)) (t':=s.toks) λb o e=>Ym _ (Ym _ e)
 have gI:((s.heap.push {cls:=.type "list_iterator",data:=.fields #[.ref l,.int 0 0]}).push (seqObj "list" #[] 0)).get? s.heap.objs.size=some {cls:=.type "list_iterator",data:=.fields #[.ref l,.int 0 0]}:=Ym _ (YC _ rfl)
 have gS:((s.heap.push {cls:=.type "list_iterator",data:=.fields #[.ref l,.int 0 0]}).push (seqObj "list" #[] 0)).get? (s.heap.objs.size+1)=some (seqObj "list" #[] 0):=by rw[<-hS];exact YC _ rfl
 rw[hS]
 refine ZqM (pins:=pins) (H:=H) (ns:=ns) (kz:=kz) (I.ok.hd hc) (Yo hll) (Nat.ne_of_gt (Nat.lt_succ_self _)) I.sz (Nat.le_succ_of_le I.sz) (λp hp=>?_) hl turn (λz H' s' J sm=>⟨dv,H',J,rd,fin0 z H' sm⟩) (λi v H' s' hi r hB J sm=>⟨.int (nth ns i),H',J,r,fin i H' hi hB sm⟩) _ 0 H _ #[] 0 {cls:=.type "list_iterator",data:=.fields #[.ref l,.int 0 0]} rfl (Yq _) (I2.ZG λp hp=>?_) (Zd.refl H) ⟨_,gI,rfl,rfl⟩ (.inl ⟨rfl,rfl⟩)
 .have:=Yl (I.pin p hp).1
  exact⟨Yo this,Yo (YU this)⟩
 .rcases Yk.mp hp with rfl|hp
  .exact⟨gS,I.hok.fresh (Y5 _),Nat.ne_of_gt (YU I.lt),I.Zmx (Y5 _),λv z=>by cases z⟩
  .rcases Yk.mp hp with rfl|hp
   .exact⟨gI,I.hok.fresh (Yc _),Nat.ne_of_gt I.lt,I.Zmx (Yc _),λv z=>by cases z⟩
   .exact I2.pin p (Yn _ hp)
noncomputable def Zon (ta td:TA) (tb:TE) (js:List (Option Nat)) (env:Env) (P:Addr) (q:Str) (params:Arguments) (body:Expr) (scope:Scope):TE:=fun σ H Q=>ta σ H λvs H1=>td σ H1 λzs H2=>∃(p f:Addr) (dv:V) (ns:List Int) (kz:Int->Int),
 vs=[.ref p]/\zs=[.ref f,dv]/\H2 p=some (.lst (ns.map V.int))/\Zkh env P q params body scope H2 f /\
 (∀n H3,n∈ns->Zd H2 H3->tb ((ZO js σ).set 0 (some (.int n))) H3 λv H4=>v=.int (kz n)/\Zd H3 H4) /\
 (ns=[]->∀H3,Zd H2 H3->Q dv H3)/\∀i H3,i<ns.length->Zen kz ns ns.length i->Zd H2 H3->Q (.int (nth ns i)) H3
theorem Zsf {Nc:List Str}{js:List (Option Nat)}{q pn:Str}{params:Arguments}{body:Expr}{scope:Scope}{P:Addr}{ta td:TA}{tb:TE}{m:Nat}{e:Expr}{e2:Expr}{p pos lpos kp1 kp2:Pos} (hc:X.calm=true) (hr:Room m X.A) (S:LamSc X Nc js params body scope pn)
  (hbody:∀cl L f c s H,PE (Zil X X.A.in1 Nc q scope cl L f c s H) body tb) (hg:Gl X "max") (hm:X.mg "max"=none) (ha:PA X [e] ta) (hd:PK X [⟨some (Str.ofString "key"),.Lambda params body scope lpos,kp1⟩,⟨some (Str.ofString "default"),e2,kp2⟩] td)
  (hpl:(backTo pos (starEach [e] X.env)).any (·.1)=false:=by rfl) (hall:(backToKw pos (keywordEach [⟨some (Str.ofString "key"),.Lambda params body scope lpos,kp1⟩,⟨some (Str.ofString "default"),e2,kp2⟩] X.env)).all (·.1.isSome)=true:=by rfl)
  (hnn:(backToKw pos (keywordEach [⟨some (Str.ofString "key"),.Lambda params body scope lpos,kp1⟩,⟨some (Str.ofString "default"),e2,kp2⟩] X.env)).any (·.1.isNone)=false:=by rfl) (hks:(backToKw pos (keywordEach [⟨some (Str.ofString "key"),.Lambda params body scope lpos,kp1⟩,⟨some (Str.ofString "default"),e2,kp2⟩] X.env)).filterMap (·.1)=[Str.ofString "key",Str.ofString "default"]:=by rfl) (hb:backTo pos (starEach [e] X.env)=(false,eval e X.env)::backTo pos (starEach [] X.env):=by rfl) :
  PE X (.Call (.Name "max" p) [e] [⟨some (Str.ofString "key"),.Lambda params body scope lpos,kp1⟩,⟨some (Str.ofString "default"),e2,kp2⟩] pos) (Zon ta td tb js X.env P q params body scope):=by
 intro pins s σ H Q I h
 refine wpAny_Call_Name_kw (Zcb I hg hm ZnX ?_)
 refine PyProof.Rows.callWith_kw (thn (ha pos pins s σ H _ I h) λus s1 ⟨vs,H1,I1,r1,q1⟩=>?_) hb hpl hall hnn
 refine thn (hd pos pins s1 σ H1 _ I1 q1) λws s2 hz=>?_
 obtain⟨zs,H2,I2,r2,pp,f,dv,ns,kz,e1,e2,hp,L,tn,fin0,fin⟩:=hz
 subst e1 e2
 obtain⟨u,rfl,ru⟩:=r1.one
 cases(show u=Value.ref pp from ru)
 rw[hks]
 obtain⟨v,v2,rfl,rv,rv2⟩:=r2.two
 cases(show v=Value.ref f from rv)
 exact maxKD (kz:=kz) I2 hc hp rv2 (λH' s' pins' n u hn J sm r=>Zjr S hbody J J.ok.frames J.ok.hd hr.depth (L.same sm) r (tn n H' hn sm)) fin0 fin
end
theorem Zoo (a v d:Value):argsOk "min" ⟨[a],[(Str.ofString "key",v),(Str.ofString "default",d)]⟩:=by unfold argsOk;kernel_rfl
noncomputable def ZbG (kz:Int->Int) (ns:List Int) (m i:Nat):Prop:=∀j,j<m->kz (nth ns i)<=kz (nth ns j)/\(j<i->kz (nth ns i)<kz (nth ns j))
theorem ZbG.one (kz:Int->Int) (ns:List Int):ZbG kz ns 1 0:=λj hj=>⟨by rw[show j=0 by omega];exact Int.le_refl _,λh=>absurd h ⋯⟩
theorem ZbG.take {kz:Int->Int}{ns:List Int}{m i:Nat} (h:ZbG kz ns m i) (hi:i<m) (c:kz (nth ns m)<kz (nth ns i)):ZbG kz ns (m+1) m:=λj hj=>by
 by_cases e:j=m
 .subst e;exact⟨Int.le_refl _,λh=>absurd h ⋯⟩
 .have:=(h j ⋯).1
  exact⟨⋯,λ_=>⋯⟩
theorem ZbG.keep {kz:Int->Int}{ns:List Int}{m i:Nat} (h:ZbG kz ns m i) (hi:i<m) (c:¬ kz (nth ns m)<kz (nth ns i)):ZbG kz ns (m+1) i:=λj hj=>by
 by_cases e:j=m
 .subst e;exact⟨⋯,λz=>absurd z ⋯⟩
 .exact h j ⋯
section
variable {X:Cx}
theorem ZqN {pins:List (Addr×Obj)}{σ:St}{H:Hp}{A:Around}{R:Result->Shared->Prop}{d:Value}{dk:Str}{l I S q:Addr}{ns:List Int}{kz:Int->Int}
  (hh:A.handled=none) (hlI:l≠I) (hSI:S≠I) (hI0:X.s₀.heap.objs.size<=I) (hS0:X.s₀.heap.objs.size<=S) (hp:∀p∈X.pn++pins,p.1≠I/\p.1≠S) (hl:H l=some (.lst (ns.map V.int)))
  (turn:∀(H':Hp) (s':Shared) (pins':List (Addr×Obj)) (n:Int) (u:Value),n∈ns->Inv X pins' σ H' s'->Zd H H'->RelV (.int n) u->wpAny (model X.prog X.w) A.in1 (call (.ref q) [u]) (EP X pins' σ λv H2=>v=.int (kz n)/\Zd H' H2) (λ_ _=>False) s')
  (hR0:ns=[]->∀H' s',Inv X pins σ H' s'->Zd H H'->R (.ok (.ret d)) s')
  (hR:∀(i:Nat) (v:Value) H' s',i<ns.length->RelV (.int (nth ns i)) v->ZbG kz ns ns.length i->Inv X pins σ H' s'->Zd H H'->R (.ok (.ret v)) s') :
  ∀(r j:Nat) (H':Hp) (s':Shared) (buf:Array Value) (c:Nat) (oI:Obj),ns.length-j=r->j<=ns.length->Inv X ((S,seqObj "list" buf c)::(I,oI)::pins) σ H' s'->Zd H H'->s'.heap.IsListIter I l j ->
   ((j=0/\buf=#[])\/∃(i:Nat) (vb:Value) (tb:Tok),i<j/\buf=#[vb,.int (kz (nth ns i)) tb]/\RelV (.int (nth ns i)) vb/\ZbG kz ns j i) ->
   codeAny (model X.prog X.w) A (.builtin "min.loop" ⟨[.ref I,.ref q,.ref S],[(dk,d)]⟩) R s':=by
 have hname:(toString "min"++toString ".loop":String)="min.loop":=by decide
 intro r
 induction r with
 |zero =>
  intro j H' s' buf c oI hr hj J sm hit hb
  have hjn:j=ns.length:= ⋯
  obtain⟨oS,nS,lS,fS,_,cS⟩:=ZE J (Yv ..)
  obtain⟨oI',nI,lI,fI,dI,cI⟩:=ZE J (Yu _ (Yv ..))
  obtain⟨its,rv,pl,_⟩:=J.list (SqL.of (sm _ _ hl))
  have hlen:its.length=ns.length:=by have:=rv.length;rw[Yi]at this;omega
  have hsz:its.toArray.size=its.length:=Ys ..
  have W:=Walks.list (prog:=X.prog) (w:=X.w) (A:=A.in1) hh I l hlI its.toArray
  have J0:Inv X pins σ H' s':=J.ZG λp hp'=>J.pin p (Yn _ (Yu _ (Yu _ hp')))
  refine codeAny_builtin PySem.F.entry_min_loop ?_
  rw[Around.under_plainId PySem.F.plain_min_loop _]
  show wpAny _ A.in1 (seqItems? (.ref S) >>= _) _ _ _
  refine Ya (wpAny_seqItems oS rfl ?_)
  rcases hb with⟨hj0,rfl⟩|⟨i,vb,tb,hi,rfl,rvb,hB⟩
  .refine Ya (wpAny_tryCatch (W.done _ _ _ ⟨by rw[hsz,hlen,<-hjn];exact hit,pl.isList⟩ λh' tk' hk'=>?_))
   refine Ya (wpAny_rule (Ye ?_))
   exact hR0 (List.length_eq_zero_iff.mp ⋯) H' _ (J0.turned (it:=I) (λb o nb e=>hk' b o (by simpa using nb) e) nI lI (.inr hI0) cI λp hp'=>(hp p hp').1) sm
  .refine Ya (wpAny_tryCatch (W.done _ _ _ ⟨by rw[hsz,hlen,<-hjn];exact hit,pl.isList⟩ λh' tk' hk'=>?_))
   have hS':=hk' S _ (by simpa using hSI) oS
   have J1:=J0.turned (t':=tk') (h':=h') (it:=I) (λb o nb e=>hk' b o (by simpa using nb) e) nI lI (.inr hI0) cI λp hp'=>(hp p hp').1
   refine Ya (wpAny_updateSeq hS' rfl ?_ (show 2<=sizeLine by decide) (Yq _))
   refine Ya (wpAny_letGo (Ye ?_))
   have J2:=J1.turned (t':=tk') (h':=h'.update S (Obj.mapSeq λ_=>(#[]:Array Value))) (it:=S) (λb o nb e=>(Heap.get?_update_ne _ _ _ _ nb).trans e) nS lS (.inr hS0) cS λp hp'=>(hp p hp').2
   exact hR i vb H' _ ⋯ rvb (hjn▸hB) J2 sm
 |succ r ih =>
  intro j H' s' buf c oI hr hj J sm hit hb
  have hlt:j<ns.length:= ⋯
  obtain⟨oS,nS,lS,fS,_,cS⟩:=ZE J (Yv ..)
  obtain⟨oI',nI,lI,fI,dI,cI⟩:=ZE J (Yu _ (Yv ..))
  obtain⟨its,rv,pl,_⟩:=J.list (SqL.of (sm _ _ hl))
  have hlen:its.length=ns.length:=by have:=rv.length;rw[Yi]at this;omega
  have hsz:its.toArray.size=its.length:=Ys ..
  have W:=Walks.list (prog:=X.prog) (w:=X.w) (A:=A.in1) hh I l hlI its.toArray
  have J0:Inv X ((S,seqObj "list" buf c)::pins) σ H' s':=J.ZG λp hp'=>J.pin p (Yn _ (by
   rcases Yk.mp hp' with z|z
   .exact Yk.mpr (.inl z)
   .exact Yu _ (Yu _ z)))
  refine codeAny_builtin PySem.F.entry_min_loop ?_
  rw[Around.under_plainId PySem.F.plain_min_loop _]
  show wpAny _ A.in1 (seqItems? (.ref S) >>= _) _ _ _
  refine Ya (wpAny_seqItems oS rfl ?_)
  have step:∀(v:Value) (h':Heap) (tk':Nat),its.toArray[j]?=some v->h'.IsListIter I l (j+1)/\h'.IsList l its.toArray->(∀b o,b∉[I]->s'.heap.get? b=some o->h'.get? b=some o)->RelV (.int (nth ns j)) v/\∃oI2,h'.get? I=some oI2/\Inv X ((S,seqObj "list" buf c)::(I,oI2)::pins) σ H' {s' with heap:=h',toks:=tk'}:=λv h' tk' hP hst hk'=>by
   refine⟨?_,?_⟩
   .obtain⟨v',e1,e2⟩:=rv.get (i:=j) (x:=V.int (nth ns j)) (by unfold nth;rw[YE,Yh,Yf hlt];rfl)
    have:its[j]?=some v:=by simpa using hP
    rw[e1]at this;cases this;exact e2
   .obtain⟨oI2,g2,hcls,hdat⟩:=id hst.1
    have J1:=J0.turned (t':=tk') (h':=h') (it:=I) (λb o nb e=>hk' b o (by simpa using nb) e) nI lI (.inr hI0) cI λp hp'=>by
     rcases YB.mp hp' with z|z
     .exact(hp p (YY _ z)).1
     .rcases Yk.mp z with rfl|z
      .exact hSI
      .exact(hp p (Yn _ z)).1
    refine⟨oI2,g2,J1.ZG λp hp'=>?_⟩
    rcases Yk.mp hp' with rfl|hp'
    .exact J1.pin _ (Yn _ (Yv ..))
    .rcases Yk.mp hp' with rfl|hp'
     .exact⟨g2,nI,lI,fI,λv z=>by rw[hdat]at z;cases z⟩
     .exact J1.pin _ (Yn _ (Yu _ hp'))
  have write:∀{H2:Hp}{s2:Shared}{oI2:Obj} (v:Value) (t2:Tok) (b2:Array Value) (c0:Nat),Inv X ((S,seqObj "list" b2 c0)::(I,oI2)::pins) σ H2 s2->∃c2,Inv X ((S,seqObj "list" #[v,.int (kz (nth ns j)) t2] c2)::(I,oI2)::pins) σ H2 {s2 with heap:=s2.heap.update S (Obj.mapSeq λ_=>#[v,.int (kz (nth ns j)) t2])}:=λ{H2 s2 oI2} v t2 b2 c0 K=>by
   obtain⟨o2,n2,l2,f2,_,cc2⟩:=ZE K (Yv ..)
   obtain⟨c2,hc2⟩:∃c2,(s2.heap.update S (Obj.mapSeq λ_=>#[v,.int (kz (nth ns j)) t2])).get? S=some (seqObj "list" #[v,.int (kz (nth ns j)) t2] c2):=⟨_,get?_update_seq o2 λ_=>#[v,.int (kz (nth ns j)) t2]⟩
   have K0:Inv X ((I,oI2)::pins) σ H2 s2:=K.ZG λp hp'=>K.pin p (Yn _ (Yu _ hp'))
   have K1:=K0.turned (t':=s2.toks) (h':=s2.heap.update S (Obj.mapSeq λ_=>#[v,.int (kz (nth ns j)) t2])) (it:=S) (λb o nb e=>(Heap.get?_update_ne _ _ _ _ nb).trans e) n2 l2 (.inr hS0) cc2 λp hp'=>by
    rcases YB.mp hp' with z|z
    .exact(hp p (YY _ z)).2
    .rcases Yk.mp z with rfl|z
     .exact hSI.symm
     .exact(hp p (Yn _ z)).2
   refine⟨c2,K1.ZG λp hp'=>?_⟩
   rcases Yk.mp hp' with rfl|hp'
   .exact⟨hc2,n2,l2,f2,λv z=>by cases z⟩
   .exact K1.pin p (Yn _ hp')
  have mem:nth ns j∈ns:=by unfold nth;rw[Yh,Yf hlt];exact YF hlt
  rcases hb with⟨hj0,rfl⟩|⟨i,vb,tb,hi,rfl,rvb,hB⟩
  .refine Ya (wpAny_tryCatch (W.item j _ _ _ (by rw[hsz,hlen];exact hlt) ⟨hit,pl.isList⟩ λv h' tk' hP hst' hk'=>?_))
   obtain⟨rj,oI2,gI,J2⟩:=step v h' tk' hP hst' hk'
   obtain⟨oI3,gI3,hcls,hdat⟩:=id hst'.1
   rw[gI]at gI3;cases gI3
   refine Ya (wpAny_tryCatch (YH (YJ (turn H' _ _ _ v mem J2 sm rj) (λx s'' he=>?_) λ_ _ hF=>hF.elim)))
   obtain⟨x2,H2,J3,r2,rfl,sm2⟩:=he
   obtain⟨t2,rfl⟩:=r2
   obtain⟨oS3,_⟩:=ZE J3 (Yv ..)
   obtain⟨oI4,_⟩:=ZE J3 (Yu _ (Yv ..))
   obtain⟨c2,J4⟩:=write v t2 _ _ J3
   refine Ya (wpAny_updateSeq oS3 rfl ?_ (Yq _) (show 2<=sizeLine+1 by decide))
   rw[hname]
   refine Ye ⟨plainId_quiet PySem.F.plain_min_loop _,ih (j+1) H2 _ _ c2 oI2 ⋯ hlt J4 (sm.trans sm2) ⟨oI2,(Heap.get?_update_ne _ _ _ _ hSI.symm).trans oI4,hcls,hdat⟩ (.inr ⟨j,v,t2,⋯,rfl,rj,?_⟩)⟩
   subst hj0;exact ZbG.one kz ns
  .refine Ya (wpAny_tryCatch (W.item j _ _ _ (by rw[hsz,hlen];exact hlt) ⟨hit,pl.isList⟩ λv h' tk' hP hst' hk'=>?_))
   obtain⟨rj,oI2,gI,J2⟩:=step v h' tk' hP hst' hk'
   obtain⟨oI3,gI3,hcls,hdat⟩:=id hst'.1
   rw[gI]at gI3;cases gI3
   refine Ya (wpAny_tryCatch (YH (YJ (turn H' _ _ _ v mem J2 sm rj) (λx s'' he=>?_) λ_ _ hF=>hF.elim)))
   obtain⟨x2,H2,J3,r2,rfl,sm2⟩:=he
   obtain⟨t2,rfl⟩:=r2
   obtain⟨oS3,_⟩:=ZE J3 (Yv ..)
   obtain⟨oI4,_⟩:=ZE J3 (Yu _ (Yv ..))
   refine Ya (wpAny_tryCatch (YH (Ya (CmpOf.ints_lt (prog:=X.prog) (w:=X.w) (A:=A.in1) (P:=λi v=>∃t,v=.int (kz (nth ns i)) t) (λi=>kz (nth ns i)) (λi v h=>h) j i _ _ _ _ _ ⟨t2,rfl⟩ ⟨tb,rfl⟩ ?_))))
   refine Ya (YH (wpAny_truthy_bool ?_))
   refine Ya (wpAny_letGo (Ye ?_))
   by_cases hb':kz (nth ns j)<kz (nth ns i)
   .simp only[hb',decide_true,if_true]
    obtain⟨c2,J4⟩:=write v t2 _ _ J3
    refine Ya (wpAny_updateSeq oS3 rfl (Ya (wpAny_letGo ?_)) (show 2<=sizeLine by decide) (show 2<=sizeLine+1 by decide))
    rw[hname]
    exact Ye ⟨plainId_quiet PySem.F.plain_min_loop _,ih (j+1) H2 _ _ c2 oI2 ⋯ hlt J4 (sm.trans sm2) ⟨oI2,(Heap.get?_update_ne _ _ _ _ hSI.symm).trans oI4,hcls,hdat⟩ (.inr ⟨j,v,t2,⋯,rfl,rj,hB.take hi hb'⟩)⟩
   .simp only[hb',decide_false,Bool.false_eq_true,if_false]
    refine Ya (wpAny_letGo ?_)
    rw[hname]
    exact Ye ⟨plainId_quiet PySem.F.plain_min_loop _,ih (j+1) H2 _ _ c oI2 ⋯ hlt J3 (sm.trans sm2) ⟨oI2,oI4,hcls,hdat⟩ (.inr ⟨i,vb,tb,⋯,rfl,rvb,hB.keep hi hb'⟩)⟩
theorem minKD {pins:List (Addr×Obj)}{σ:St}{H:Hp}{s:Shared}{l q:Addr}{ns:List Int}{kz:Int->Int}{d:Value}{dv:V}{Q:VK} (I:Inv X pins σ H s) (hc:X.calm=true) (hl:H l=some (.lst (ns.map V.int))) (rd:RelV dv d)
  (turn:∀(H':Hp) (s':Shared) (pins':List (Addr×Obj)) (n:Int) (u:Value),n∈ns->Inv X pins' σ H' s'->Zd H H'->RelV (.int n) u->wpAny (model X.prog X.w) X.A.in1 (call (.ref q) [u]) (EP X pins' σ λv H2=>v=.int (kz n)/\Zd H' H2) (λ_ _=>False) s')
  (fin0:ns=[]->∀H',Zd H H'->Q dv H') (fin:∀i H',i<ns.length->ZbG kz ns ns.length i->Zd H H'->Q (.int (nth ns i)) H') :
  wpAny (model X.prog X.w) X.A (call (.builtin "min") [.ref l] [(Str.ofString "key",.ref q),(Str.ofString "default",d)]) (EP X pins σ Q) X.xe s:=by
 have hname:(toString "min"++toString ".loop":String)="min.loop":=by decide
 obtain⟨its,rv,pl,_⟩:=I.list (SqL.of hl)
 obtain⟨ol,hol,_⟩:=id pl.isList
 have hll:l<s.heap.objs.size:=Yl hol
 refine kmk_tree PySem.F.kind_min PySem.F.plain_min PySem.F.entry_min (Zoo _ _ _) ?_
 show wpAny _ X.A.in1 (Builtin.Builtins.bindParams "min" ["key","default"] 0 ⟨[],[(Str.ofString "key",.ref q),(Str.ofString "default",d)]⟩ >>= _) _ _ s
 refine Ya (wpAny_of_eq (show Builtin.Builtins.bindParams "min" ["key","default"] 0 ⟨[],[(Str.ofString "key",.ref q),(Str.ofString "default",d)]⟩=pure [some (.ref q),some d]from rfl) ?_)
 refine Ya (Ye ?_)
 refine Ya (wpAny_pyIter_list pl.isList ?_)
 refine Ya (wpAny_newList ?_ (Yq _))
 rw[hname]
 refine Ye ⟨plainId_quiet PySem.F.plain_min_loop _,?_⟩
 have hS:(s.heap.push {cls:=.type "list_iterator",data:=.fields #[.ref l,.int 0 0]}).objs.size=s.heap.objs.size+1:=size_push' ..
 have I2:=I.kept (h':=(s.heap.push {cls:=.type "list_iterator",data:=.fields #[.ref l,.int 0 0]}).push (seqObj "list" #[] 0)) (t':=s.toks) λb o e=>Ym _ (Ym _ e)
 have gI:((s.heap.push {cls:=.type "list_iterator",data:=.fields #[.ref l,.int 0 0]}).push (seqObj "list" #[] 0)).get? s.heap.objs.size=some {cls:=.type "list_iterator",data:=.fields #[.ref l,.int 0 0]}:=Ym _ (YC _ rfl)
 have gS:((s.heap.push {cls:=.type "list_iterator",data:=.fields #[.ref l,.int 0 0]}).push (seqObj "list" #[] 0)).get? (s.heap.objs.size+1)=some (seqObj "list" #[] 0):=by rw[<-hS];exact YC _ rfl
 rw[hS]
 refine ZqN (pins:=pins) (H:=H) (ns:=ns) (kz:=kz) (I.ok.hd hc) (Yo hll) (Nat.ne_of_gt (Nat.lt_succ_self _)) I.sz (Nat.le_succ_of_le I.sz) (λp hp=>?_) hl turn (λz H' s' J sm=>⟨dv,H',J,rd,fin0 z H' sm⟩) (λi v H' s' hi r hB J sm=>⟨.int (nth ns i),H',J,r,fin i H' hi hB sm⟩) _ 0 H _ #[] 0 {cls:=.type "list_iterator",data:=.fields #[.ref l,.int 0 0]} rfl (Yq _) (I2.ZG λp hp=>?_) (Zd.refl H) ⟨_,gI,rfl,rfl⟩ (.inl ⟨rfl,rfl⟩)
 .have:=Yl (I.pin p hp).1
  exact⟨Yo this,Yo (YU this)⟩
 .rcases Yk.mp hp with rfl|hp
  .exact⟨gS,I.hok.fresh (Y5 _),Nat.ne_of_gt (YU I.lt),I.Zmx (Y5 _),λv z=>by cases z⟩
  .rcases Yk.mp hp with rfl|hp
   .exact⟨gI,I.hok.fresh (Yc _),Nat.ne_of_gt I.lt,I.Zmx (Yc _),λv z=>by cases z⟩
   .exact I2.pin p (Yn _ hp)
noncomputable def Zop (ta td:TA) (tb:TE) (js:List (Option Nat)) (env:Env) (P:Addr) (q:Str) (params:Arguments) (body:Expr) (scope:Scope):TE:=fun σ H Q=>ta σ H λvs H1=>td σ H1 λzs H2=>∃(p f:Addr) (dv:V) (ns:List Int) (kz:Int->Int),
 vs=[.ref p]/\zs=[.ref f,dv]/\H2 p=some (.lst (ns.map V.int))/\Zkh env P q params body scope H2 f /\
 (∀n H3,n∈ns->Zd H2 H3->tb ((ZO js σ).set 0 (some (.int n))) H3 λv H4=>v=.int (kz n)/\Zd H3 H4) /\
 (ns=[]->∀H3,Zd H2 H3->Q dv H3)/\∀i H3,i<ns.length->ZbG kz ns ns.length i->Zd H2 H3->Q (.int (nth ns i)) H3
theorem Zsg {Nc:List Str}{js:List (Option Nat)}{q pn:Str}{params:Arguments}{body:Expr}{scope:Scope}{P:Addr}{ta td:TA}{tb:TE}{m:Nat}{e:Expr}{e2:Expr}{p pos lpos kp1 kp2:Pos} (hc:X.calm=true) (hr:Room m X.A) (S:LamSc X Nc js params body scope pn)
  (hbody:∀cl L f c s H,PE (Zil X X.A.in1 Nc q scope cl L f c s H) body tb) (hg:Gl X "min") (hm:X.mg "min"=none) (ha:PA X [e] ta) (hd:PK X [⟨some (Str.ofString "key"),.Lambda params body scope lpos,kp1⟩,⟨some (Str.ofString "default"),e2,kp2⟩] td)
  (hpl:(backTo pos (starEach [e] X.env)).any (·.1)=false:=by rfl) (hall:(backToKw pos (keywordEach [⟨some (Str.ofString "key"),.Lambda params body scope lpos,kp1⟩,⟨some (Str.ofString "default"),e2,kp2⟩] X.env)).all (·.1.isSome)=true:=by rfl)
  (hnn:(backToKw pos (keywordEach [⟨some (Str.ofString "key"),.Lambda params body scope lpos,kp1⟩,⟨some (Str.ofString "default"),e2,kp2⟩] X.env)).any (·.1.isNone)=false:=by rfl) (hks:(backToKw pos (keywordEach [⟨some (Str.ofString "key"),.Lambda params body scope lpos,kp1⟩,⟨some (Str.ofString "default"),e2,kp2⟩] X.env)).filterMap (·.1)=[Str.ofString "key",Str.ofString "default"]:=by rfl) (hb:backTo pos (starEach [e] X.env)=(false,eval e X.env)::backTo pos (starEach [] X.env):=by rfl) :
  PE X (.Call (.Name "min" p) [e] [⟨some (Str.ofString "key"),.Lambda params body scope lpos,kp1⟩,⟨some (Str.ofString "default"),e2,kp2⟩] pos) (Zop ta td tb js X.env P q params body scope):=by
 intro pins s σ H Q I h
 refine wpAny_Call_Name_kw (Zcb I hg hm ZnY ?_)
 refine PyProof.Rows.callWith_kw (thn (ha pos pins s σ H _ I h) λus s1 ⟨vs,H1,I1,r1,q1⟩=>?_) hb hpl hall hnn
 refine thn (hd pos pins s1 σ H1 _ I1 q1) λws s2 hz=>?_
 obtain⟨zs,H2,I2,r2,pp,f,dv,ns,kz,e1,e2,hp,L,tn,fin0,fin⟩:=hz
 subst e1 e2
 obtain⟨u,rfl,ru⟩:=r1.one
 cases(show u=Value.ref pp from ru)
 rw[hks]
 obtain⟨v,v2,rfl,rv,rv2⟩:=r2.two
 cases(show v=Value.ref f from rv)
 exact minKD (kz:=kz) I2 hc hp rv2 (λH' s' pins' n u hn J sm r=>Zjr S hbody J J.ok.frames J.ok.hd hr.depth (L.same sm) r (tn n H' hn sm)) fin0 fin
end
section
variable {prog:Program}{w:World}{A:Around}{E:Value->Shared->Prop}{s:Shared}
theorem Zk3 {it t:Addr}{items:Array Value} (hh:A.handled=none) (hne:t≠it):∀(n i:Nat) (s:Shared) (Q:List Value->Shared->Prop),s.heap.IsListIter it t i->s.heap.IsList t items->i+n<=items.size ->
  (∀h' tk,h'.IsListIter it t (i+n)->h'.IsList t items->(∀b o,b≠it->s.heap.get? b=some o->h'.get? b=some o)->Q ((items.toList.drop i).take n) {s with heap:=h',toks:=tk})->wpAny (model prog w) A (draw (.ref it) n) Q E s
 |0,i,s,Q,hit,hl,_,hQ=>by
  show wpAny _ _ (pure []) Q E s
  exact Ye (by simpa using hQ s.heap s.toks hit hl λb o _ e=>e)
 |n+1,i,s,Q,hit,hl,hle,hQ=>by
  have hlt:i<items.size:= ⋯
  have W:=Walks.list (prog:=prog) (w:=w) (A:=A) hh it t hne items
  show wpAny _ _ (pyNext (.ref it) >>= _) Q E s
  refine Ya (W.item i _ _ _ hlt ⟨hit,hl⟩ λv h₁ tk₁ hP hst hk=>?_)
  have hv:items[i]?=some v:=hP
  rw[getElem?_pos items i hlt]at hv
  cases hv
  refine Ya (YH (Zk3 hh hne n (i+1) _ _ hst.1 hst.2 ⋯ λh₂ tk₂ hit₂ hl₂ hk₂=>Ye ?_))
  have hd:items.toList.drop i=items[i]::items.toList.drop (i+1):=by simp[List.drop_eq_getElem_cons,hlt]
  have:=hQ h₂ tk₂ (by rw[show i+(n+1)=i+1+n by omega];exact hit₂) hl₂ λb o hb e=>hk₂ b o hb (hk b o (by simpa using hb) e)
  rw[hd,List.take_succ_cons]at this
  exact this
theorem ZhY {t:Addr}{items:Array Value}{Q:List Value->Shared->Prop} (hh:A.handled=none) (ht:s.heap.IsList t items)
  (hQ:∀h' tk,(∀b o,s.heap.get? b=some o->h'.get? b=some o)->Q items.toList {s with heap:=h',toks:=tk}):wpAny (model prog w) A (unpackItems (.ref t) items.size none) Q E s:=by
 have hlt:t≠s.heap.objs.size:=by obtain⟨o,ho,_⟩:=ht;exact Yo (Yl ho)
 have old:∀b o,s.heap.get? b=some o->b≠s.heap.objs.size:=λb o e=>Yo (Yl e)
 unfold unpackItems
 refine Ya ?_
 .unfold notIterableAtAll
  refine Ya (wpAny_specialOf ht.typeIs slot_list_iter.lookup ?_)
  refine Ye ?_
  simp only[Bool.false_eq_true,if_false]
  refine Ya (YH (wpAny_pyIter_list ht ?_))
  have hl2:(s.heap.push {cls:=.type "list_iterator",data:=.fields #[.ref t,.int 0 0]}).IsList t items:=by
   obtain⟨o,e,r⟩:=ht
   exact⟨o,Ym _ e,r⟩
  refine Ya (YH (Zk3 hh hlt items.size 0 _ _ ⟨_,YC _ rfl,rfl,rfl⟩ hl2 ⋯ λh₁ tk₁ hit₁ hl₁ hk₁=>?_))
  have hall:List.take items.size (List.drop 0 items.toList)=items.toList:=by
   rw[List.drop_zero];exact List.take_of_length_le (by simp)
  rw[hall]
  rw[Yb (by simp)]
  have W:=Walks.list (prog:=prog) (w:=w) (A:=A) hh s.heap.objs.size t hlt items
  refine Ya (YH (W.done _ _ _ ⟨by rw[Nat.zero_add]at hit₁;exact hit₁,hl₁⟩ λh₂ tk₂ hk₂=>?_))
  simp only[Option.isSome_none,Bool.false_eq_true,if_false]
  exact Ye (hQ h₂ tk₂ λb o e=>hk₂ b o (by simpa using old b o e) (hk₁ b o (old b o e) (Ym _ e)))
end
section
variable {X:Cx}
noncomputable def gLst (K:PySem.W.Frag) (n:Nat) (t:TGs):TG:=λv σ H Q=>∃a xs,v=.ref a/\SqL K H a xs/\xs.length=n/\t xs σ H Q
theorem pg_lst {K:Frag}{es:List Expr}{pos:Pos}{k:Nat}{t:TGs}{n:Nat} (hK:X.K=K) (hc:X.calm=true) (h:PGs X es t)
  (hn:(assignEach es X.env).length=n:=by rfl) (hst:(assignEach es X.env).findIdx? (·.1)=none:=by rfl):PG X (.Tuple es k pos) (gLst K n t):=by
 subst hK
 intro pins s σ H v u Q I r hw
 obtain⟨a,xs,e1,hq,hl,hw⟩:=hw
 subst e1
 cases r
 obtain⟨its,rv,pl,hz⟩:=I.list hq
 have hlen:(assignEach es X.env).length=its.toArray.size:=by
  have:=rv.length
  rw[hn,Ys];omega
 rw[assign_Tuple]
 refine Ya (wpAny_standAt ?_)
 unfold unpack
 rw[hlen,hst]
 refine Ya (YH (ZhY (I.ok.hd hc) pl.isList λh' tk kp=>?_))
 exact h pins _ σ H xs _ Q (I.kept kp) (by simpa using rv) hw
noncomputable def Zsh (te:TE) (g g':TG):TS:=λD σ H=>te σ H λx H1=>g x σ H1 fun σ1 H2=>g' x σ1 H2 D.nx
theorem ZuZ {tg tg' e:Expr}{te:TE}{g g':TG}{pos:Pos} (he:PE X e te) (hg:PG X tg g) (hg':PG X tg' g') (h1:(assignEach [tg,tg'] X.env).map (·.2)=[assign tg X.env,assign tg' X.env]:=by rfl) (hw:swappedStores [tg,tg'] e X.env=pure none:=by rfl):PS X (.Assign [tg,tg'] e pos) (Zsh te g g'):=by
 intro pins s σ H D I h
 refine wpAny_Assign_two (thn (he pins s σ H _ I h) λv s1 ⟨x,H1,I1,r1,q1⟩=>?_) h1 hw
 exact thn (hg pins s1 σ H1 x v _ I1 r1 q1) λ_ s2 ⟨σ2,H2,I2,q2⟩=>thn (hg' pins s2 σ2 H2 x v _ I2 r1 q2) λ_ s3 q=>q
end
section
variable {prog:Program}{w:World}{A:Around}{E:Value->Shared->Prop}{s:Shared}{κ:SortKind}{P:Keyed->Prop}{ky:Keyed->Int}
noncomputable def Zfz (prog:Program) (w:World) (A:Around) (s:Shared) (κ:SortKind) (P:Keyed->Prop) (ky:Keyed->Int):Prop :=
 ∀x y,P x->P y->∀C:Bool->Shared->Prop,C (decide (ky x<ky y)) s->wpAny (model prog w) A (keyLt' κ x.1 y.1) C (λ_ _=>False) s
theorem Zm1 (hc:Zfz prog w A s κ P ky) {x y:Keyed}{st:SortSt}{Q:Option Bool->SortSt->Prop} (hk:PyProof.Rows.kindOf st=κ) (hx:P x) (hy:P y) (h:Q (some (decide (ky x<ky y))) st):wpS (model prog w) A E s (lt' x y) Q st:=by
 rw[lt'_eq]
 refine Yg (wpS_get ?_)
 refine Yg (wpS_lift ?_)
 refine wpAny_attempt ?_
 rw[hk]
 refine YJ (hc x y hx hy (λb s'=>s'=s/\b=decide (ky x<ky y)) ⟨rfl,rfl⟩) ?_ (λ_ _ z=>z.elim)
 rintro b s' ⟨rfl,rfl⟩
 exact⟨rfl,Yj h⟩
theorem ZJ {arr:Array Keyed}{i:Nat}{st:SortSt}{Q:Keyed->SortSt->Prop} (hi:i<arr.size) (h:Q (arr[i]'hi) st):wpS (model prog w) A E s (elem' arr i) Q st:=by
 rw[elem'_eq,getElem?_pos arr i hi]
 exact Yj h
noncomputable def Zu0:Bool->Keyed->Array Keyed->Nat->Nat->Nat->StateT SortSt Sem (Option Nat):=sortPriv% PySem.Builtin.gallop
theorem ZcH {left:Bool}{key:Keyed}{arr:Array Keyed}{base n hint:Nat}{st:SortSt}{Q:Option Nat->SortSt->Prop}{f:Nat->Bool}
  (hc:Zfz prog w A s κ P ky) (hk:PyProof.Rows.kindOf st=κ) (hkey:P key) (hP:∀i,(h:i<arr.size)->P arr[i]) (hn:base+n<=arr.size) (hh:hint<n)
  (hf:∀i,(h:base+i<arr.size)->f i=if left then decide (ky arr[base+i]<ky key)else !decide (ky key<ky arr[base+i]))
  (hm:∀i j,i<=j->j<n->f j=true->f i=true)
  (hQ:∀r,r<=n->(∀i,i<r->f i=true)->(∀i,r<=i->i<n->f i=false)->Q (some r) st) :
  wpS (model prog w) A E s (Zu0 left key arr base n hint) Q st:=by
 have hb:∀i,i<n->∀{R:Option Bool->SortSt->Prop},R (some (f i)) st->wpS (model prog w) A E s (do
   let x <-elem' arr (base+i)
   if left=true then lt' x key else do
    let c <-lt' key x
    pure (Option.map (λx=>!x) c)) R st:=by
  intro i hi R hR
  have hlt:base+i<arr.size:= ⋯
  refine Yg (ZJ hlt ?_)
  rw[hf i hlt]at hR
  cases left with
  |true=>exact Zm1 hc hk (hP _ hlt) hkey hR
  |false=>exact Yg (Zm1 hc hk hkey (hP _ hlt) (Yj hR))
 have hbin:∀lo hi,lo<=hi->hi<=n->(∀i,i<lo->f i=true)->(∀i,hi<=i->i<n->f i=false)->∀(body:Nat->Option (Option Nat)×Nat×Nat->StateT SortSt Sem (ForInStep (Option (Option Nat)×Nat×Nat))) (R:Option (Option Nat)×Nat×Nat->SortSt->Prop),
   (∀x c,body x c=if c.2.1 ≥ c.2.2 then pure (ForInStep.done (none,c.2.1,c.2.2))else do
    let r <-(do
     let x <-elem' arr (base+(c.2.1+(c.2.2-c.2.1) / 2))
     if left=true then lt' x key else do
      let c <-lt' key x
      pure (Option.map (λx=>!x) c))
    match r with
    |some more=>if more=true then pure (ForInStep.yield (none,c.2.1+(c.2.2-c.2.1) / 2+1,c.2.2))else pure (ForInStep.yield (none,c.2.1,c.2.1+(c.2.2-c.2.1) / 2))
    |x=>pure (ForInStep.done (some none,c.2.1,c.2.2))) ->
   (∀r,r<=n->(∀i,i<r->f i=true)->(∀i,r<=i->i<n->f i=false)->R (none,r,r) st)->wpS (model prog w) A E s (forIn [:n] (none,lo,hi) body) R st:=by
  intro lo hi hlh hhn h1 h2 body R hbody hR
  refine wpS_forRange (λt c st'=>st'=st/\c.1=none/\c.2.1<=c.2.2/\c.2.2<=n/\(∀i,i<c.2.1->f i=true)/\(∀i,c.2.2<=i->i<n->f i=false)/\c.2.2-c.2.1<=n-t) ?_ ?_ ⟨rfl,rfl,hlh,hhn,h1,h2,by show hi-lo<=n-0;omega⟩
  .rintro t ⟨r,lo,hi⟩ st' _ ht ⟨rfl,e,a1,a2,a3,a4,a5⟩
   rw[hbody]
   simp only at e a1 a2 a3 a4 a5⊢
   by_cases hge:lo ≥ hi
   .rw[Yd hge]
    have:lo=hi:= ⋯
    subst this
    exact Yj (hR lo a2 a3 a4)
   .rw[Yb hge]
    refine Yg (hb _ ⋯ ?_)
    cases hv:f (lo+(hi-lo) / 2)with
    |true =>
     refine Yj ⟨rfl,rfl,?_,a2,?_,a4,?_⟩
     .show lo+(hi-lo) / 2+1<=hi;omega
     .intro i hi2;exact hm i (lo+(hi-lo) / 2) (by simp only at hi2;omega) ⋯ hv
     .show hi-(lo+(hi-lo) / 2+1)<=n-(t+1);omega
    |false =>
     refine Yj ⟨rfl,rfl,?_,?_,a3,?_,?_⟩
     .show lo<=lo+(hi-lo) / 2;omega
     .show lo+(hi-lo) / 2<=n;omega
     .intro i hi2 hi3
      cases hz:f i with
      |false=>rfl
      |true=>rw[hm (lo+(hi-lo) / 2) i hi2 hi3 hz]at hv;cases hv
     .show lo+(hi-lo) / 2-lo<=n-(t+1);omega
  .rintro⟨r,lo,hi⟩ st' ⟨rfl,e,a1,a2,a3,a4,a5⟩
   simp only at e a1 a2 a3 a4 a5
   have:lo=hi:=by
    have:max 0 n=n:= ⋯
    rw[this]at a5;omega
   subst this;subst e
   exact hR lo a2 a3 a4
 refine Yg (hb hint hh ?_)
 cases hv:f hint with
 |true =>
  refine Yg (wpS_mono (Q:=λ(c:Option (Option Nat)×Nat×Nat) (st':SortSt)=>st'=st/\c.1=none/\hint+c.2.1<n/\c.2.1<c.2.2/\f (hint+c.2.1)=true/\(n-hint<=c.2.2\/(hint+c.2.2<n/\f (hint+c.2.2)=false))) (wpS_forRange (λ(t:Nat) (c:Option (Option Nat)×Nat×Nat) (st':SortSt)=>st'=st/\c.1=none/\c.2.1<c.2.2/\hint+c.2.1<n/\f (hint+c.2.1)=true/\t+1<=c.2.2) ?_ ?_ ⟨rfl,rfl,Nat.zero_lt_one,by show hint+0<n;omega,hv,Yc _⟩) ?_)
  .rintro t ⟨r,lo,of⟩ st' _ ht ⟨rfl,e,a1,a2,a3,a4⟩
   simp only at e a1 a2 a3 a4⊢
   split
   .rename_i hge
    exact Yj ⟨rfl,rfl,a2,a1,a3,.inl hge⟩
   .rename_i hge
    refine Yg (hb (hint+of) ⋯ ?_)
    cases hw:f (hint+of)with
    |true=>exact Yj ⟨rfl,rfl,by show of<2*of+1;omega,by show hint+of<n;omega,hw,by show t+1+1<=2*of+1;omega⟩
    |false=>exact Yj ⟨rfl,rfl,a2,a1,a3,.inr ⟨by show hint+of<n;omega,hw⟩⟩
  .rintro⟨r,lo,of⟩ st' ⟨rfl,e,a1,a2,a3,a4⟩
   simp only at e a1 a2 a3 a4
   exact⟨rfl,e,a2,a1,a3,.inl (by show n-hint<=of;omega)⟩
  .rintro⟨r,lo,of⟩ st' ⟨rfl,e,a1,a2,a3,a4⟩
   simp only at e a1 a2 a3 a4⊢
   subst e
   refine Yg (hbin (hint+lo+1) (hint+min of (n-hint)) ⋯ ⋯ ?_ ?_ _ _ (λx c=>rfl) ?_)
   .intro i hi;exact hm i (hint+lo) ⋯ a1 a3
   .intro i h1 h2
    cases hz:f i with
    |false=>rfl
    |true =>
     rcases a4 with a4|⟨a4,a5⟩
     .omega
     .rw[hm (hint+of) i ⋯ h2 hz]at a5;cases a5
   .intro r h1 h2 h3
    exact Yj (hQ r h1 h2 h3)
 |false =>
  refine Yg (wpS_mono (Q:=λ(c:Option (Option Nat)×Nat×Nat) (st':SortSt)=>st'=st/\c.1=none/\c.2.1<=hint/\c.2.1<c.2.2/\f (hint-c.2.1)=false/\(hint+1<=c.2.2\/(c.2.2<=hint/\f (hint-c.2.2)=true))) (wpS_forRange (λ(t:Nat) (c:Option (Option Nat)×Nat×Nat) (st':SortSt)=>st'=st/\c.1=none/\c.2.1<c.2.2/\c.2.1<=hint/\f (hint-c.2.1)=false/\t+1<=c.2.2) ?_ ?_ ⟨rfl,rfl,Nat.zero_lt_one,Yq _,hv,Yc _⟩) ?_)
  .rintro t ⟨r,lo,of⟩ st' _ ht ⟨rfl,e,a1,a2,a3,a4⟩
   simp only at e a1 a2 a3 a4⊢
   split
   .rename_i hge
    exact Yj ⟨rfl,rfl,a2,a1,a3,.inl hge⟩
   .rename_i hge
    refine Yg (hb (hint-of) ⋯ ?_)
    cases hw:f (hint-of)with
    |false=>exact Yj ⟨rfl,rfl,by show of<2*of+1;omega,by show of<=hint;omega,hw,by show t+1+1<=2*of+1;omega⟩
    |true=>exact Yj ⟨rfl,rfl,a2,a1,a3,.inr ⟨by show of<=hint;omega,hw⟩⟩
  .rintro⟨r,lo,of⟩ st' ⟨rfl,e,a1,a2,a3,a4⟩
   simp only at e a1 a2 a3 a4
   exact⟨rfl,e,a2,a1,a3,.inl (by show hint+1<=of;omega)⟩
  .rintro⟨r,lo,of⟩ st' ⟨rfl,e,a1,a2,a3,a4⟩
   simp only at e a1 a2 a3 a4⊢
   subst e
   refine Yg (hbin (hint+1-min of (hint+1)) (hint-lo) ⋯ ⋯ ?_ ?_ _ _ (λx c=>rfl) ?_)
   .intro i hi
    rcases a4 with a4|⟨a4,a5⟩
    .omega
    .exact hm i (hint-of) ⋯ ⋯ a5
   .intro i h1 h2
    cases hz:f i with
    |false=>rfl
    |true=>rw[hm (hint-lo) i ⋯ h2 hz]at a3;cases a3
   .intro r h1 h2 h3
    exact Yj (hQ r h1 h2 h3)
end
section
variable {ky:Keyed->Int}
noncomputable def Srt (ky:Keyed->Int) (l:List Keyed):Prop:=l.Pairwise (λx y=>ky x<=ky y)
structure Mg (ky:Keyed->Int) (a b:List Keyed) (out:List Keyed) (ia ib:Nat):Prop where
 perm:out.Perm (a.take ia++b.take ib)
 srt:Srt ky out
 le:∀x,x∈out->∀y,y∈a.drop ia\/y∈b.drop ib->ky x<=ky y
variable {a b out:List Keyed}{ia ib:Nat}
theorem Mg.swap (h:Mg ky a b out ia ib):Mg ky b a out ib ia:=⟨h.perm.trans List.perm_append_comm,h.srt,λx hx y hy=>h.le x hx y hy.symm⟩
theorem Mg.ZpH (ha:Srt ky a) (h:Mg ky a b out ia ib) (hia:ia<a.length) (hle:∀y,y∈b.drop ib->ky a[ia]<=ky y):Mg ky a b (out++[a[ia]]) (ia+1) ib:=by
 have e:a.drop ia=a[ia]::a.drop (ia+1):=List.drop_eq_getElem_cons hia
 have hs:∀y,y∈a.drop (ia+1)->ky a[ia]<=ky y:=by
  have:Srt ky (a.drop ia):=List.Pairwise.sublist (List.drop_sublist _ _) ha
  rw[e]at this
  exact(Jb.mp this).1
 refine⟨?_,?_,?_⟩
 .have et:a.take (ia+1)=a.take ia++[a[ia]]:=by rw[Jd,Yf hia];rfl
  rw[et,YX]
  refine(List.Perm.append_right [a[ia]] h.perm).trans ?_
  rw[YX]
  exact List.Perm.append_left _ List.perm_append_comm
 .refine List.pairwise_append.mpr ⟨h.srt,List.pairwise_singleton _ _,?_⟩
  intro x hx y hy
  rw[Y2]at hy;subst hy
  exact h.le x hx _ (.inl (by rw[e];exact Yv))
 .intro x hx y hy
  rcases YB.mp hx with hx|hx
  .refine h.le x hx y ?_
   rcases hy with hy|hy
   .exact .inl (by rw[e];exact Yu _ hy)
   .exact .inr hy
  .rw[Y2]at hx;subst hx
   rcases hy with hy|hy
   .exact hs y hy
   .exact hle y hy
theorem Mg.ZpI (ha:Srt ky a) (h:Mg ky a b out ia ib):∀k,ia+k<=a.length->(∀i,(hi:ia+i<a.length)->i<k->∀y,y∈b.drop ib->ky a[ia+i]<=ky y)->Mg ky a b (out++(a.drop ia).take k) (ia+k) ib
 |0,_,_=>by simpa using h
 |k+1,hk,hle=>by
  have h2:=(Mg.ZpI ha h k ⋯ λi hi hik=>hle i hi ⋯).ZpH ha ⋯ (hle k ⋯ ⋯)
  have:(a.drop ia).take (k+1)=(a.drop ia).take k++[a[ia+k]]:=by
   rw[Jd,List.getElem?_drop,Yf (by omega:ia+k<a.length)];rfl
  rw[this,<-YX]
  exact h2
theorem Mg.stepB (hb:Srt ky b) (h:Mg ky a b out ia ib) (hib:ib<b.length) (hle:∀y,y∈a.drop ia->ky b[ib]<=ky y):Mg ky a b (out++[b[ib]]) ia (ib+1):=(h.swap.ZpH hb hib hle).swap
theorem Mg.bulkB (hb:Srt ky b) (h:Mg ky a b out ia ib) (k:Nat) (hk:ib+k<=b.length) (hle:∀i,(hi:ib+i<b.length)->i<k->∀y,y∈a.drop ia->ky b[ib+i]<=ky y):Mg ky a b (out++(b.drop ib).take k) ia (ib+k):=(h.swap.ZpI hb k hk hle).swap
theorem Zjt (ha:Srt ky a) (hi:ia<a.length) {y:Keyed} (hy:y∈a.drop ia):ky a[ia]<=ky y:=by
 have:Srt ky (a.drop ia):=List.Pairwise.sublist (List.drop_sublist _ _) ha
 rw[List.drop_eq_getElem_cons hi]at this hy
 rcases Yk.mp hy with hy|hy
 .subst hy;exact Int.le_refl _
 .exact(Jb.mp this).1 y hy
noncomputable def Gd (ky:Keyed->Int) (a b res:List Keyed):Prop:=res.Perm (a++b)/\Srt ky res
theorem Mg.Zm2 (ha:Srt ky a) (h:Mg ky a b out ia ib) (hib:b.length<=ib):Gd ky a b (out++a.drop ia):=by
 refine⟨?_,List.pairwise_append.mpr ⟨h.srt,List.Pairwise.sublist (List.drop_sublist _ _) ha,λx hx y hy=>h.le x hx y (.inl hy)⟩⟩
 refine(List.Perm.append_right _ h.perm).trans ?_
 rw[List.take_of_length_le hib,YX]
 refine(List.Perm.append_left _ List.perm_append_comm).trans ?_
 rw[<-YX,Jh]
theorem Mg.ZpJ (hb:Srt ky b) (h:Mg ky a b out ia ib) (hia:a.length<=ia):Gd ky a b (out++b.drop ib):=by
 have:=h.swap.Zm2 hb hia
 exact⟨this.1.trans List.perm_append_comm,this.2⟩
theorem Mg.lastA (ha:Srt ky a) (hb:Srt ky b) (h:Mg ky a b out ia ib) (hl:∀y,y∈b.drop ib->∀z,z∈a.drop ia->ky y<=ky z):Gd ky a b (out++b.drop ib++a.drop ia):=by
 refine⟨?_,?_⟩
 .refine(List.Perm.append_right _ (List.Perm.append_right _ h.perm)).trans ?_
  rw[YX,YX]
  have e1:a++b=a.take ia++(a.drop ia++(b.take ib++b.drop ib)):=by rw[<-YX,Jh,Jh]
  rw[e1]
  refine List.Perm.append_left _ ?_
  rw[<-YX]
  exact List.perm_append_comm
 .refine List.pairwise_append.mpr ⟨List.pairwise_append.mpr ⟨h.srt,List.Pairwise.sublist (List.drop_sublist _ _) hb,λx hx y hy=>h.le x hx y (.inr hy)⟩,List.Pairwise.sublist (List.drop_sublist _ _) ha,?_⟩
  intro x hx y hy
  rcases YB.mp hx with hx|hx
  .exact h.le x hx y (.inl hy)
  .exact hl x hx y hy
variable {prog:Program}{w:World}{A:Around}{E:Value->Shared->Prop}{s:Shared}{κ:SortKind}{P:Keyed->Prop}
theorem Zq {σ α:Type}{c:Prop} [Decidable c] {m1 m2:StateT σ Sem α}{Q:α->σ->Prop}{st:σ}{M:Model} (h1:c->wpS M A E s m1 Q st) (h2:¬c->wpS M A E s m2 Q st):wpS M A E s (if c then m1 else m2) Q st:=by
 by_cases h:c
 .rw[Yd h];exact h1 h
 .rw[Yb h];exact h2 h
noncomputable def Zsi:Array Keyed->Array Keyed->StateT SortSt Sem (Array Keyed):=sortPriv% PySem.Builtin.mergeLo
theorem Zoq {a b:Array Keyed}{arr:Array Keyed}{pd:Array (Nat×Nat×Nat)}{g:Nat}{fl:Option Value}{Q:Array Keyed->SortSt->Prop}
  (hc:Zfz prog w A s κ P ky) (hPa:∀i,(h:i<a.size)->P a[i]) (hPb:∀i,(h:i<b.size)->P b[i]) (ha:Srt ky a.toList) (hb:Srt ky b.toList)
  (ha0:0<a.size) (hb0:0<b.size) (h0:ky b[0]<=ky a[0]) (hl:∀j,(h:j<b.size)->ky b[j]<=ky (a[a.size-1]'⋯))
  (hQ:∀res g',Gd ky a.toList b.toList res.toList->Q res (SortSt.mk' κ arr pd g' fl)) :
  wpS (model prog w) A E s (Zsi a b) Q (SortSt.mk' κ arr pd g fl):=by
 refine Yg (wpS_lift (wpAny_rule ⟨rfl,?_⟩))
 refine Yg (ZJ hb0 ?_)
 have m0:Mg ky a.toList b.toList [] 0 0:=⟨by simp,List.Pairwise.nil,λx hx=>by cases hx⟩
 have hdA:∀i,(h:i<a.size)->∀y,y∈a.toList.drop i->ky a[i]<=ky y:=λi h y hy=>Zjt ha (by simpa using h) hy
 have hdB:∀i,(h:i<b.size)->∀y,y∈b.toList.drop i->ky b[i]<=ky y:=λi h y hy=>Zjt hb (by simpa using h) hy
 have m1:Mg ky a.toList b.toList #[b[0]].toList 0 1:=by
  have:=m0.stepB hb (by simpa using hb0) (λy hy=>Int.le_trans h0 (hdA 0 ha0 y hy))
  simpa using this
 have exA:∀i,(a.extract i).toList=a.toList.drop i:=λi=>by simp[Array.toList_extract,List.extract];exact List.take_of_length_le (by simp)
 have exB:∀i,(b.extract i).toList=b.toList.drop i:=λi=>by simp[Array.toList_extract,List.extract];exact List.take_of_length_le (by simp)
 have exA2:∀i k,(a.extract i (i+k)).toList=(a.toList.drop i).take k:=λi k=>by simp[Array.toList_extract,List.extract]
 have exB2:∀i k,(b.extract i (i+k)).toList=(b.toList.drop i).take k:=λi k=>by simp[Array.toList_extract,List.extract]
 have hdone:∀(out:Array Keyed) ia ib,Mg ky a.toList b.toList out.toList ia ib->b.size<=ib->Gd ky a.toList b.toList (out++a.extract ia++b.extract ib).toList:=by
  intro out ia ib m h
  rw[Array.toList_append,Array.toList_append,exA,exB,List.drop_of_length_le (l:=b.toList) (by simpa using h),List.append_nil]
  exact m.Zm2 ha (by simpa using h)
 have hdone2:∀(out:Array Keyed) ia ib,Mg ky a.toList b.toList out.toList ia ib->a.size<=ia->Gd ky a.toList b.toList (out++a.extract ia++b.extract ib).toList:=by
  intro out ia ib m h
  rw[Array.toList_append,Array.toList_append,exA,exB,List.drop_of_length_le (by simpa using h),List.append_nil]
  exact m.ZpJ hb (by simpa using h)
 have hlast:∀(out:Array Keyed) ia ib,Mg ky a.toList b.toList out.toList ia ib->ia+1=a.size->Gd ky a.toList b.toList (out++b.extract ib++a.extract ia).toList:=by
  intro out ia ib m h
  rw[Array.toList_append,Array.toList_append,exA,exB]
  refine m.lastA ha hb ?_
  intro y hy z hz
  have hz2:z=a[ia]'⋯:=by
   rw[List.drop_eq_getElem_cons (by simp;omega),List.drop_of_length_le (by simp;omega)]at hz
   simpa using hz
  subst hz2
  obtain⟨j,hj,e⟩:=List.mem_iff_getElem.mp (List.mem_of_mem_drop hy)
  rw[<-e]
  have:=hl j (by simpa using hj)
  have e2:a.size-1=ia:= ⋯
  simp only[e2]at this
  simpa using this
 have sA:∀(out:Array Keyed) ia ib,Mg ky a.toList b.toList out.toList ia ib->(h:ia<a.size)->(∀y,y∈b.toList.drop ib->ky a[ia]<=ky y)->Mg ky a.toList b.toList (out.push a[ia]).toList (ia+1) ib:=λout ia ib m h hle=>by
  rw[Array.toList_push];exact m.ZpH ha (by simpa using h) hle
 have sB:∀(out:Array Keyed) ia ib,Mg ky a.toList b.toList out.toList ia ib->(h:ib<b.size)->(∀y,y∈a.toList.drop ia->ky b[ib]<=ky y)->Mg ky a.toList b.toList (out.push b[ib]).toList ia (ib+1):=λout ia ib m h hle=>by
  rw[Array.toList_push];exact m.stepB hb (by simpa using h) hle
 have bA:∀(out:Array Keyed) ia ib k,Mg ky a.toList b.toList out.toList ia ib->ia+k<=a.size->(∀i,(h:ia+i<a.size)->i<k->∀y,y∈b.toList.drop ib->ky a[ia+i]<=ky y)->Mg ky a.toList b.toList (out++a.extract ia (ia+k)).toList (ia+k) ib:=λout ia ib k m h hle=>by
  rw[Array.toList_append,exA2];exact m.ZpI ha k (by simpa using h) (λi hi hik=>hle i (by simpa using hi) hik)
 have bB:∀(out:Array Keyed) ia ib k,Mg ky a.toList b.toList out.toList ia ib->ib+k<=b.size->(∀i,(h:ib+i<b.size)->i<k->∀y,y∈a.toList.drop ia->ky b[ib+i]<=ky y)->Mg ky a.toList b.toList (out++b.extract ib (ib+k)).toList ia (ib+k):=λout ia ib k m h hle=>by
  rw[Array.toList_append,exB2];exact m.bulkB hb k (by simpa using h) (λi hi hik=>hle i (by simpa using hi) hik)
 have moA:∀i j,(hij:i<=j)->(h:j<a.size)->ky (a[i]'⋯)<=ky a[j]:=λi j hij h=>hdA i ⋯ _ (by rw[List.mem_drop_iff_getElem];exact⟨j-i,by simp;omega,by simp;congr 1;omega⟩)
 have moB:∀i j,(hij:i<=j)->(h:j<b.size)->ky (b[i]'⋯)<=ky b[j]:=λi j hij h=>hdB i ⋯ _ (by rw[List.mem_drop_iff_getElem];exact⟨j-i,by simp;omega,by simp;congr 1;omega⟩)
 refine Zq (λh1=>?_) (λh1=>Zq (λh2=>?_) (λh2=>?_))
 .exact Yj (hQ _ _ (hdone _ 0 1 m1 (by simp at h1⊢;omega)))
 .exact Yj (hQ _ _ (hlast _ 0 1 m1 (by simpa using h2)))
 .have h1':b.size≠1:=λz=>h1 (by simp[z])
  have h2':a.size≠1:=λz=>h2 (by simp[z])
  refine Yg (wpS_get ?_)
  refine Yg (wpS_mono (Q:=λ(c:Option (Array Keyed)×Array Keyed×Nat×Nat×Nat) (st':SortSt)=>(∃g',st'=SortSt.mk' κ arr pd g' fl)/\∃res,c.1=some res/\Gd ky a.toList b.toList res.toList) (wpS_forRange (λ(t:Nat) (c:Option (Array Keyed)×Array Keyed×Nat×Nat×Nat) (st':SortSt)=>(∃g',st'=SortSt.mk' κ arr pd g' fl)/\c.1=none/\Mg ky a.toList b.toList c.2.1.toList c.2.2.1 c.2.2.2.1/\c.2.2.1+1<a.size/\c.2.2.2.1<b.size/\t<c.2.2.1+c.2.2.2.1) ?_ ?_ ⟨⟨g,rfl⟩,rfl,m1,by show 0+1<a.size;omega,by show 1<b.size;omega,by show 0<0+1;omega⟩) ?_)
  .rintro t ⟨r,out,ia,ib,mg⟩ st' _ ht ⟨⟨g1,rfl⟩,e,m,hia,hib,hti⟩
   simp only at e m hia hib hti
   subst e
   refine Yg (wpS_mono (Q:=λ(c:Option (Array Keyed)×Array Keyed×Nat×Nat×Nat×Nat) (st':SortSt)=>(∃g',st'=SortSt.mk' κ arr pd g' fl)/\((∃res,c.1=some res/\Gd ky a.toList b.toList res.toList)\/(c.1=none/\Mg ky a.toList b.toList c.2.1.toList c.2.2.1 c.2.2.2.1/\c.2.2.1+1<a.size/\c.2.2.2.1<b.size/\t<c.2.2.1+c.2.2.2.1))) (wpS_forRange (λ(u:Nat) (c:Option (Array Keyed)×Array Keyed×Nat×Nat×Nat×Nat) (st':SortSt)=>(∃g',st'=SortSt.mk' κ arr pd g' fl)/\c.1=none/\Mg ky a.toList b.toList c.2.1.toList c.2.2.1 c.2.2.2.1/\c.2.2.1+1<a.size/\c.2.2.2.1<b.size/\t<c.2.2.1+c.2.2.2.1) ?_ ?_ ⟨⟨g1,rfl⟩,rfl,m,hia,hib,hti⟩) ?_)
   .rintro u ⟨r,out,ia,ib,ac,bc⟩ st' _ hu ⟨⟨g1,rfl⟩,e,m,hia,hib,hti⟩
    simp only at e m hia hib hti
    subst e
    refine Yg (ZJ hib ?_)
    refine Yg (ZJ (by omega:ia<a.size) ?_)
    refine Yg (Zm1 hc rfl (hPb _ _) (hPa _ _) ?_)
    refine Zq (λhv=>?_) (λhv=>?_)
    .have hv:=YT hv
     refine Yg (ZJ hib ?_)
     have m2:=sB _ _ _ m hib (λy hy=>Int.le_trans (Int.le_of_lt hv) (hdA ia ⋯ y hy))
     refine Zq (λh3=>?_) (λh3=>?_)
     .exact Yj ⟨⟨_,rfl⟩,.inl ⟨_,rfl,hdone _ _ _ m2 (by simp at h3⊢;omega)⟩⟩
     .have h3':ib+1≠b.size:=λz=>h3 (by simp[z])
      refine Zq (λh4=>?_) (λh4=>?_)
      .exact Yj ⟨⟨_,rfl⟩,.inr ⟨rfl,m2,hia,by simp only;omega,by simp only;omega⟩⟩
      .exact Yj ⟨⟨_,rfl⟩,rfl,m2,hia,by simp only;omega,by simp only;omega⟩
    .have hv:¬ ky b[ib]<ky a[ia]:=λz=>hv (Yt z)
     refine Yg (ZJ (by omega:ia<a.size) ?_)
     have m2:=sA _ _ _ m ⋯ (λy hy=>Int.le_trans (Int.not_lt.mp hv) (hdB ib hib y hy))
     refine Zq (λh3=>?_) (λh3=>?_)
     .exact Yj ⟨⟨_,rfl⟩,.inl ⟨_,rfl,hlast _ _ _ m2 (by simpa using h3)⟩⟩
     .have h3':ia+1+1≠a.size:=λz=>h3 (by simp[z])
      refine Zq (λh4=>?_) (λh4=>?_)
      .exact Yj ⟨⟨_,rfl⟩,.inr ⟨rfl,m2,by simp only;omega,hib,by simp only;omega⟩⟩
      .exact Yj ⟨⟨_,rfl⟩,rfl,m2,by simp only;omega,hib,by simp only;omega⟩
   .rintro⟨r,out,ia,ib,ac,bc⟩ st' ⟨hg,e,m,hia,hib,hti⟩
    exact⟨hg,.inr ⟨e,m,hia,hib,hti⟩⟩
   .rintro⟨r,out,ia,ib,ac,bc⟩ st' ⟨⟨g2,rfl⟩,hor⟩
    rcases hor with⟨res,e,hgd⟩|⟨e,m,hia,hib,hti⟩
    .simp only at e
     subst e
     exact Yj ⟨⟨_,rfl⟩,res,rfl,hgd⟩
    .simp only at e m hia hib hti
     subst e
     refine Yg (wpS_lift (wpAny_rule ⟨rfl,?_⟩))
     refine Yg (wpS_mono (Q:=λ(c:Option (Array Keyed)×Array Keyed×Nat×Nat×Nat×Nat×Nat) (st':SortSt)=>(∃g',st'=SortSt.mk' κ arr pd g' fl)/\((∃res,c.1=some res/\Gd ky a.toList b.toList res.toList)\/(c.1=none/\Mg ky a.toList b.toList c.2.1.toList c.2.2.1 c.2.2.2.1/\c.2.2.1+1<a.size/\c.2.2.2.1<b.size/\t+1<c.2.2.1+c.2.2.2.1))) (wpS_forRange (λ(u:Nat) (c:Option (Array Keyed)×Array Keyed×Nat×Nat×Nat×Nat×Nat) (st':SortSt)=>(∃g',st'=SortSt.mk' κ arr pd g' fl)/\c.1=none/\Mg ky a.toList b.toList c.2.1.toList c.2.2.1 c.2.2.2.1/\c.2.2.1+1<a.size/\c.2.2.2.1<b.size/\t+u<c.2.2.1+c.2.2.2.1) ?_ ?_ ⟨⟨g2,rfl⟩,rfl,m,hia,hib,hti⟩) ?_)
     .rintro u c st' _ hu ⟨⟨g1,rfl⟩,e,m,hia,hib,hti⟩
      refine Zq (λ_=>?_) (λ_=>?_)
      all_goals
       refine Yg (wpS_modify ?_)
       refine Yg (ZJ hib ?_)
       refine Yg (ZcH (f:=λi=>!decide (ky b[c.2.2.2.1]<ky (a.getD (c.2.2.1+i) (Value.none,Value.none)))) hc rfl (hPb _ _) hPa ⋯ ⋯ (λi h=>by simp[Array.getD,h]) ?_ ?_)
       .intro i j hij hj hfj
        simp only[Bool.not_eq_true',decide_eq_false_iff_not,Int.not_lt]at hfj⊢
        have:=moA (c.2.2.1+i) (c.2.2.1+j) ⋯ ⋯
        simp only[Array.getD,(by omega:c.2.2.1+i<a.size),(by omega:c.2.2.1+j<a.size),dif_pos]at hfj⊢
        exact Int.le_trans this hfj
       .intro k hk1 hk2 hk3
        have hA1:∀i,(h:c.2.2.1+i<a.size)->i<k->ky a[c.2.2.1+i]<=ky b[c.2.2.2.1]:=by
         intro i h hi
         have:=hk2 i hi
         simp only[Bool.not_eq_true',decide_eq_false_iff_not,Int.not_lt,Array.getD,h,dif_pos]at this
         exact this
        have hA2:(h:c.2.2.1+k<a.size)->ky b[c.2.2.2.1]<ky a[c.2.2.1+k]:=by
         intro h
         have:=hk3 k (Yc _) ⋯
         simp only[Bool.not_eq_false',decide_eq_true_eq,Array.getD,h,dif_pos]at this
         exact this
        have m2:=bA _ _ _ k m ⋯ (λi h hi y hy=>Int.le_trans (hA1 i h hi) (hdB _ hib y hy))
        refine Zq (λhk0=>Zq (λh3=>Yj ⟨⟨_,rfl⟩,.inl ⟨_,rfl,hlast _ _ _ m2 (by simpa using h3)⟩⟩) (λh3=>Zq (λh4=>Yj ⟨⟨_,rfl⟩,.inl ⟨_,rfl,hdone2 _ _ _ m2 (by simp at h4⊢;omega)⟩⟩) (λh4=>?_))) (λhk0=>?_)
        focus
         have h3':c.2.2.1+k+1≠a.size:=λz=>h3 (by simp[z])
         have h4':c.2.2.1+k≠a.size:=λz=>h4 (by simp[z])
         have m':=m2
         have hlt:c.2.2.1+k<a.size:= ⋯
         have hlt2:c.2.2.1+k+1<a.size:= ⋯
         have hx':=hA2 hlt
         have ht':t+u<c.2.2.1+k+c.2.2.2.1:= ⋯
         have hd':=hdA _ hlt
         obtain⟨y,hy⟩:∃y,y=ky a[c.2.2.1+k]:=⟨_,rfl⟩
        rotate_left
        focus
         have hk0':k=0:= ⋯
         subst hk0'
         have m':=m
         have hlt:c.2.2.1<a.size:= ⋯
         have hlt2:c.2.2.1+1<a.size:= ⋯
         have hx':=hA2 hlt
         have ht':t+u<c.2.2.1+c.2.2.2.1:= ⋯
         have hd':=hdA _ hlt
         obtain⟨y,hy⟩:∃y,y=ky a[c.2.2.1]:=⟨_,rfl⟩
        all_goals
         refine Yg (ZJ hib ?_)
         have m3:=sB _ _ _ m' hib (λz hz=>Int.le_trans (Int.le_of_lt hx') (hd' z hz))
         refine Zq (λh5=>Yj ⟨⟨_,rfl⟩,.inl ⟨_,rfl,hdone _ _ _ m3 (by simp at h5⊢;omega)⟩⟩) (λh5=>?_)
         have h5':c.2.2.2.1+1≠b.size:=λz=>h5 (by simp[z])
         refine Yg (ZJ hlt ?_)
         refine Yg (ZcH (f:=λi=>decide (ky (b.getD (c.2.2.2.1+1+i) (Value.none,Value.none))<y)) hc rfl (hPa _ _) hPb ⋯ ⋯ (λi h=>by simp[Array.getD,h,hy]) ?_ ?_)
         .intro i j hij hj hfj
          simp only[decide_eq_true_eq]at hfj⊢
          have:=moB (c.2.2.2.1+1+i) (c.2.2.2.1+1+j) ⋯ ⋯
          simp only[Array.getD,(by omega:c.2.2.2.1+1+i<b.size),(by omega:c.2.2.2.1+1+j<b.size),dif_pos]at hfj⊢
          exact Int.lt_of_le_of_lt this hfj
         .intro k2 q1 q2 q3
          have hB1:∀i,(h:c.2.2.2.1+1+i<b.size)->i<k2->ky b[c.2.2.2.1+1+i]<y:=by
           intro i h hi
           have:=q2 i hi
           simp only[decide_eq_true_eq,Array.getD,h,dif_pos]at this
           exact this
          have hB2:(h:c.2.2.2.1+1+k2<b.size)->y<=ky b[c.2.2.2.1+1+k2]:=by
           intro h
           have:=q3 k2 (Yc _) ⋯
           simp only[decide_eq_false_iff_not,Int.not_lt,Array.getD,h,dif_pos]at this
           exact this
          have m4:=bB _ _ _ k2 m3 ⋯ (λi h hi z hz=>Int.le_trans (Int.le_of_lt (hB1 i h hi)) (hy▸hd' z hz))
          refine Zq (λq0=>Zq (λh6=>Yj ⟨⟨_,rfl⟩,.inl ⟨_,rfl,hdone _ _ _ m4 (by simp at h6⊢;omega)⟩⟩) (λh6=>?_)) (λq0=>?_)
          focus
           have h6':c.2.2.2.1+1+k2≠b.size:=λz=>h6 (by simp[z])
           have hl2:c.2.2.2.1+1+k2<b.size:= ⋯
           have m5:=sA _ _ _ m4 hlt (λz hz=>Int.le_trans (hy▸hB2 hl2) (hdB _ hl2 z hz))
          rotate_left
          focus
           have q0':k2=0:= ⋯
           subst q0'
           have hl2:c.2.2.2.1+1<b.size:= ⋯
           have m5:=sA _ _ _ m3 hlt (λz hz=>Int.le_trans (hy▸hB2 hl2) (hdB _ hl2 z hz))
          all_goals
           refine Yg (ZJ hlt ?_)
           refine Zq (λh7=>Yj ⟨⟨_,rfl⟩,.inl ⟨_,rfl,hlast _ _ _ m5 (by simpa using h7)⟩⟩) (λh7=>?_)
           simp only[beq_iff_eq]at h7
           refine Zq (λh8=>Yj ⟨⟨_,rfl⟩,.inr ⟨rfl,m5,by simp only;omega,hl2,by simp only;omega⟩⟩) (λh8=>Yj ⟨⟨_,rfl⟩,rfl,m5,by simp only;omega,hl2,by simp only;omega⟩)
     .rintro⟨r,out,ia,ib,mg,ac,bc⟩ st' ⟨hg,e,m,hia,hib,hti⟩
      exact⟨hg,.inr ⟨e,m,hia,hib,by simp only at hti⊢;omega⟩⟩
     .rintro⟨r,out,ia,ib,mg,ac,bc⟩ st' ⟨⟨g3,rfl⟩,hor⟩
      rcases hor with⟨res,e,hgd⟩|⟨e,m,hia,hib,hti⟩
      .simp only at e
       subst e
       exact Yj ⟨⟨_,rfl⟩,res,rfl,hgd⟩
      .simp only at e m hia hib hti
       subst e
       exact Yg (wpS_modify (Yj ⟨⟨_,rfl⟩,rfl,m,hia,hib,hti⟩))
  .rintro⟨r,out,ia,ib,mg⟩ st' ⟨_,e,m,hia,hib,hti⟩
   simp only at hia hib hti
   omega
  .rintro⟨r,out,ia,ib,mg⟩ st' ⟨⟨g2,rfl⟩,res,e,hgd⟩
   simp only at e
   subst e
   exact Yj (hQ res g2 hgd)
end
section
variable {ky:Keyed->Int}
theorem ZeA {l:List Keyed}:Srt (λx=>- ky x) l.reverse↔Srt ky l:=by
 unfold Srt
 rw[List.pairwise_reverse]
 constructor
 .exact λh=>h.imp λz=>by simp only at z;omega
 .exact λh=>h.imp λz=>by simp only;omega
theorem Zor {a b l:List Keyed} (h:Gd (λx=>- ky x) a.reverse b.reverse l):Gd ky a b l.reverse:=by
 refine⟨(List.reverse_perm l).trans (h.1.trans (List.Perm.append (List.reverse_perm a) (List.reverse_perm b))),?_⟩
 rw[<-ZeA,List.reverse_reverse]
 exact h.2
theorem Zk4 {a:Array Keyed}{na:Nat} (h:na<=a.size):a.toList.reverse.drop (a.size-na)=(a.toList.take na).reverse:=by
 rw[List.drop_reverse]
 congr 2
 simp;omega
theorem rmem {a:Array Keyed}{na:Nat} (h:na<=a.size) {y:Keyed} (hy:y∈a.toList.reverse.drop (a.size-na)):∃i,∃hi:i<a.size,i<na/\y=a[i]:=by
 rw[Zk4 h,List.mem_reverse,List.mem_take_iff_getElem]at hy
 obtain⟨i,hi,e⟩:=hy
 exact⟨i,by simp at hi;omega,by simp at hi;omega,by simpa using e.symm⟩
noncomputable def MM (ky:Keyed->Int) (a b out:Array Keyed) (na nb:Nat):Prop:=Mg (λx=>- ky x) a.toList.reverse b.toList.reverse out.toList (a.size-na) (b.size-nb)
variable {a b out:Array Keyed}{na nb:Nat}
theorem MM.swap (h:MM ky a b out na nb):MM ky b a out nb na:=Mg.swap h
theorem MM.sA (ha:Srt ky a.toList) (m:MM ky a b out na nb) (h1:1<=na) (h2:na<=a.size) (hb:nb<=b.size) (hle:∀i,(h:i<b.size)->i<nb->ky b[i]<=ky (a[na-1]'⋯)):MM ky a b (out.push (a[na-1]'⋯)) (na-1) nb:=by
 have hl:a.size-na<a.toList.reverse.length:=by simp;omega
 have e:a.toList.reverse[a.size-na]=a[na-1]'⋯:=by
  rw[List.getElem_reverse]
  simp only[Yp,Array.getElem_toList]
  congr 1;omega
 have:=Mg.ZpH (ZeA.mpr ha) m hl (by
  intro y hy
  obtain⟨i,hi,hin,rfl⟩:=rmem hb hy
  rw[e]
  have:=hle i hi hin
  show-ky _<=- ky _;omega)
 rw[e]at this
 unfold MM
 rw[Array.toList_push,(by omega:a.size-(na-1)=a.size-na+1)]
 exact this
theorem MM.bA (ha:Srt ky a.toList) (m:MM ky a b out na nb) {at_:Nat} (h1:at_<=na) (h2:na<=a.size) (hb:nb<=b.size) (hle:∀j,(hj:j<a.size)->at_<=j->j<na->∀i,(h:i<b.size)->i<nb->ky b[i]<=ky a[j]):MM ky a b (out++(a.extract at_ na).reverse) at_ nb:=by
 have:=Mg.ZpI (ZeA.mpr ha) m (na-at_) (by simp;omega) (by
  intro i hi hik y hy
  obtain⟨j,hj,hjn,rfl⟩:=rmem hb hy
  have e:a.toList.reverse[a.size-na+i]=a[na-1-i]'⋯:=by
   rw[List.getElem_reverse]
   simp only[Yp,Array.getElem_toList]
   congr 1;omega
  rw[e]
  have:=hle (na-1-i) ⋯ ⋯ ⋯ j hj hjn
  show-ky _<=- ky _;omega)
 unfold MM
 rw[Array.toList_append,(by omega:a.size-at_=a.size-na+(na-at_))]
 have e2:(a.extract at_ na).reverse.toList=(a.toList.reverse.drop (a.size-na)).take (na-at_):=by
  rw[Zk4 h2,List.take_reverse]
  simp only[Array.toList_reverse,Array.toList_extract,List.extract_eq_drop_take,Y9,Yp]
  rw[List.drop_take]
  congr 2
  .omega
  .congr 1;omega
 rw[e2]
 exact this
theorem MM.ZpJ (hb:Srt ky b.toList) (m:MM ky a b out 0 nb) (hn:nb<=b.size):Gd ky a.toList b.toList (a.extract 0 0++b.extract 0 nb++out.reverse).toList:=by
 have:=Zor (Mg.ZpJ (ZeA.mpr hb) m (by simp))
 rw[Zk4 hn,List.reverse_append,List.reverse_reverse]at this
 simpa using this
theorem MM.Zm2 (ha:Srt ky a.toList) (m:MM ky a b out na 0) (hn:na<=a.size):Gd ky a.toList b.toList (a.extract 0 na++b.extract 0 0++out.reverse).toList:=by
 have:=Zor (Mg.Zm2 (ZeA.mpr ha) m (by simp))
 rw[Zk4 hn,List.reverse_append,List.reverse_reverse]at this
 simpa using this
theorem MM.firstB (ha:Srt ky a.toList) (hb:Srt ky b.toList) (m:MM ky a b out na 1) (hn:na<=a.size) (hb1:1<=b.size) (h0:∀i,(h:i<a.size)->ky b[0]<=ky a[i]):Gd ky a.toList b.toList (b.extract 0 1++a.extract 0 na++out.reverse).toList:=by
 have:=Mg.lastA (ZeA.mpr hb) (ZeA.mpr ha) (Mg.swap m) (by
  intro y hy z hz
  obtain⟨i,hi,_,rfl⟩:=rmem hn hy
  obtain⟨j,hj,hj1,rfl⟩:=rmem hb1 hz
  have hj0:j=0:= ⋯
  subst hj0
  have:=h0 i hi
  show-ky _<=- ky _;omega)
 have:=Zor ⟨this.1.trans List.perm_append_comm,this.2⟩
 rw[Zk4 hn,Zk4 hb1,List.reverse_append,List.reverse_append,List.reverse_reverse,List.reverse_reverse,<-YX]at this
 simpa using this
variable {prog:Program}{w:World}{A:Around}{E:Value->Shared->Prop}{s:Shared}{κ:SortKind}{P:Keyed->Prop}
noncomputable def Zsj:Array Keyed->Array Keyed->StateT SortSt Sem (Array Keyed):=sortPriv% PySem.Builtin.mergeHi
theorem Zsk {a:Array Keyed} (ha:Srt ky a.toList) {i j:Nat} (hij:i<=j) (h:j<a.size):ky (a[i]'⋯)<=ky a[j]:=by
 have:=Zjt (ia:=i) ha (by simp;omega) (y:=a[j]) (by rw[List.mem_drop_iff_getElem];exact⟨j-i,by simp;omega,by simp;congr 1;omega⟩)
 simpa using this
theorem Zos {arr:Array Keyed}{pd:Array (Nat×Nat×Nat)}{g:Nat}{fl:Option Value}{Q:Array Keyed->SortSt->Prop}
  (hc:Zfz prog w A s κ P ky) (hPa:∀i,(h:i<a.size)->P a[i]) (hPb:∀i,(h:i<b.size)->P b[i]) (ha:Srt ky a.toList) (hb:Srt ky b.toList)
  (ha0:0<a.size) (hb0:0<b.size) (h0:ky b[0]<=ky a[0]) (hl:∀j,(h:j<b.size)->ky b[j]<=ky (a[a.size-1]'⋯))
  (hQ:∀res g',Gd ky a.toList b.toList res.toList->Q res (SortSt.mk' κ arr pd g' fl)) :
  wpS (model prog w) A E s (Zsj a b) Q (SortSt.mk' κ arr pd g fl):=by
 refine Yg (wpS_lift (wpAny_rule ⟨rfl,?_⟩))
 refine Yg (ZJ (by omega:a.size-1<a.size) ?_)
 have moA:∀i j,(hij:i<=j)->(h:j<a.size)->ky (a[i]'⋯)<=ky a[j]:=λi j hij h=>Zsk ha hij h
 have moB:∀i j,(hij:i<=j)->(h:j<b.size)->ky (b[i]'⋯)<=ky b[j]:=λi j hij h=>Zsk hb hij h
 have h0':∀i,(h:i<a.size)->ky b[0]<=ky a[i]:=λi h=>Int.le_trans h0 (moA 0 i ⋯ h)
 have m0:MM ky a b #[] a.size b.size:=by
  refine⟨by simp,List.Pairwise.nil,λx hx=>by cases hx⟩
 have m1:MM ky a b #[a[a.size-1]] (a.size-1) b.size:=m0.sA ha ha0 (Yc _) (Yc _) (λi h _=>hl i h)
 have dA:∀(out:Array Keyed) na nb,MM ky a b out na nb->nb<=b.size->na=0->Gd ky a.toList b.toList (a.extract 0 na++b.extract 0 nb++out.reverse).toList:=by
  rintro out na nb m h rfl;exact m.ZpJ hb h
 have dB:∀(out:Array Keyed) na nb,MM ky a b out na nb->na<=a.size->nb=0->Gd ky a.toList b.toList (a.extract 0 na++b.extract 0 nb++out.reverse).toList:=by
  rintro out na nb m h rfl;exact m.Zm2 ha h
 have fB:∀(out:Array Keyed) na nb,MM ky a b out na nb->na<=a.size->nb=1->Gd ky a.toList b.toList (b.extract 0 nb++a.extract 0 na++out.reverse).toList:=by
  rintro out na nb m h rfl;exact m.firstB ha hb h hb0 h0'
 refine Zq (λh1=>?_) (λh1=>Zq (λh2=>?_) (λh2=>?_))
 .exact Yj (hQ _ _ (dA _ _ _ m1 (Yc _) (by simpa using h1)))
 .exact Yj (hQ _ _ (fB _ _ _ m1 ⋯ (by simpa using h2)))
 .simp only[beq_iff_eq]at h1 h2
  refine Yg (wpS_get ?_)
  refine Yg (wpS_mono (Q:=λ(c:Option (Array Keyed)×Nat×Nat×Array Keyed×Nat) (st':SortSt)=>(∃g',st'=SortSt.mk' κ arr pd g' fl)/\∃res,c.1=some res/\Gd ky a.toList b.toList res.toList) (wpS_forRange (λ(t:Nat) (c:Option (Array Keyed)×Nat×Nat×Array Keyed×Nat) (st':SortSt)=>(∃g',st'=SortSt.mk' κ arr pd g' fl)/\c.1=none/\MM ky a b c.2.2.2.1 c.2.1 c.2.2.1/\(1<=c.2.1/\c.2.1<=a.size)/\(2<=c.2.2.1/\c.2.2.1<=b.size)/\t+c.2.1+c.2.2.1<a.size+b.size) ?_ ?_ ⟨⟨g,rfl⟩,rfl,m1,by simp only;omega,by simp only;omega,by simp only;omega⟩) ?_)
  .rintro t c0 st' _ ht ⟨⟨g1,rfl⟩,e,m,hia,hib,hti⟩
   refine Yg (wpS_mono (Q:=λ(c:Option (Array Keyed)×Nat×Nat×Array Keyed×Nat×Nat) (st':SortSt)=>(∃g',st'=SortSt.mk' κ arr pd g' fl)/\((∃res,c.1=some res/\Gd ky a.toList b.toList res.toList)\/(c.1=none/\MM ky a b c.2.2.2.1 c.2.1 c.2.2.1/\(1<=c.2.1/\c.2.1<=a.size)/\(2<=c.2.2.1/\c.2.2.1<=b.size)/\t+c.2.1+c.2.2.1<a.size+b.size))) (wpS_forRange (λ(u:Nat) (c:Option (Array Keyed)×Nat×Nat×Array Keyed×Nat×Nat) (st':SortSt)=>(∃g',st'=SortSt.mk' κ arr pd g' fl)/\c.1=none/\MM ky a b c.2.2.2.1 c.2.1 c.2.2.1/\(1<=c.2.1/\c.2.1<=a.size)/\(2<=c.2.2.1/\c.2.2.1<=b.size)/\t+c.2.1+c.2.2.1<a.size+b.size) ?_ ?_ ⟨⟨g1,rfl⟩,rfl,m,hia,hib,hti⟩) ?_)
   .rintro u c st' _ hu ⟨⟨g1,rfl⟩,e,m,hia,hib,hti⟩
    have l1:c.2.1-1<a.size:= ⋯
    have l2:c.2.2.1-1<b.size:= ⋯
    refine Yg (ZJ l2 ?_)
    refine Yg (ZJ l1 ?_)
    refine Yg (Zm1 hc rfl (hPb _ _) (hPa _ _) ?_)
    refine Zq (λhv=>?_) (λhv=>?_)
    .have hv:=YT hv
     refine Yg (ZJ l1 ?_)
     have m2:=m.sA ha hia.1 hia.2 hib.2 (λi h hi=>Int.le_trans (moB i (c.2.2.1-1) ⋯ l2) (Int.le_of_lt hv))
     refine Zq (λh3=>?_) (λh3=>?_)
     .exact Yj ⟨⟨_,rfl⟩,.inl ⟨_,rfl,dA _ _ _ m2 hib.2 (by simpa using h3)⟩⟩
     .simp only[beq_iff_eq]at h3
      refine Zq (λh4=>?_) (λh4=>?_)
      .exact Yj ⟨⟨_,rfl⟩,.inr ⟨rfl,m2,by simp only;omega,hib,by simp only;omega⟩⟩
      .exact Yj ⟨⟨_,rfl⟩,rfl,m2,by simp only;omega,hib,by simp only;omega⟩
    .have hv:¬ ky b[c.2.2.1-1]<ky a[c.2.1-1]:=λz=>hv (Yt z)
     refine Yg (ZJ l2 ?_)
     have m2:=(m.swap.sA hb ⋯ hib.2 hia.2 (λi h hi=>Int.le_trans (moA i (c.2.1-1) ⋯ l1) (Int.not_lt.mp hv))).swap
     refine Zq (λh3=>?_) (λh3=>?_)
     .exact Yj ⟨⟨_,rfl⟩,.inl ⟨_,rfl,fB _ _ _ m2 hia.2 (by simpa using h3)⟩⟩
     .simp only[beq_iff_eq]at h3
      refine Zq (λh4=>?_) (λh4=>?_)
      .exact Yj ⟨⟨_,rfl⟩,.inr ⟨rfl,m2,hia,by simp only;omega,by simp only;omega⟩⟩
      .exact Yj ⟨⟨_,rfl⟩,rfl,m2,hia,by simp only;omega,by simp only;omega⟩
   .rintro c st' ⟨hg,e,m,hia,hib,hti⟩
    exact⟨hg,.inr ⟨e,m,hia,hib,hti⟩⟩
   .rintro⟨r,na,nb,out,ac,bc⟩ st' ⟨⟨g2,rfl⟩,hor⟩
    rcases hor with⟨res,e,hgd⟩|⟨e,m,hia,hib,hti⟩
    .simp only at e
     subst e
     exact Yj ⟨⟨_,rfl⟩,res,rfl,hgd⟩
    .simp only at e m hia hib hti
     subst e
     refine Yg (wpS_lift (wpAny_rule ⟨rfl,?_⟩))
     refine Yg (wpS_mono (Q:=λ(c:Option (Array Keyed)×Nat×Nat×Array Keyed×Nat×Nat×Nat) (st':SortSt)=>(∃g',st'=SortSt.mk' κ arr pd g' fl)/\((∃res,c.1=some res/\Gd ky a.toList b.toList res.toList)\/(c.1=none/\MM ky a b c.2.2.2.1 c.2.1 c.2.2.1/\(1<=c.2.1/\c.2.1<=a.size)/\(2<=c.2.2.1/\c.2.2.1<=b.size)/\t+1+c.2.1+c.2.2.1<a.size+b.size))) (wpS_forRange (λ(u:Nat) (c:Option (Array Keyed)×Nat×Nat×Array Keyed×Nat×Nat×Nat) (st':SortSt)=>(∃g',st'=SortSt.mk' κ arr pd g' fl)/\c.1=none/\MM ky a b c.2.2.2.1 c.2.1 c.2.2.1/\(1<=c.2.1/\c.2.1<=a.size)/\(2<=c.2.2.1/\c.2.2.1<=b.size)/\t+u+c.2.1+c.2.2.1<a.size+b.size) ?_ ?_ ⟨⟨g2,rfl⟩,rfl,m,hia,hib,hti⟩) ?_)
     .rintro u c st' _ hu ⟨⟨g1,rfl⟩,e,m,hia,hib,hti⟩
      have l2:c.2.2.1-1<b.size:= ⋯
      refine Zq (λ_=>?_) (λ_=>?_)
      all_goals
       refine Yg (wpS_modify ?_)
       refine Yg (ZJ l2 ?_)
       refine Yg (ZcH (f:=λi=>!decide (ky b[c.2.2.1-1]<ky (a.getD (0+i) (Value.none,Value.none)))) hc rfl (hPb _ _) hPa ⋯ ⋯ (λi h=>by simp only[Array.getD,h,dif_pos];simp) ?_ ?_)
       .intro i j hij hj hfj
        simp only[Bool.not_eq_true',decide_eq_false_iff_not,Int.not_lt]at hfj⊢
        have:=moA (0+i) (0+j) ⋯ ⋯
        simp only[Array.getD,(by omega:0+i<a.size),(by omega:0+j<a.size),dif_pos]at hfj⊢
        exact Int.le_trans this hfj
       .intro k hk1 hk2 hk3
        have hA1:∀i,(h:i<a.size)->i<k->ky a[i]<=ky b[c.2.2.1-1]:=by
         intro i h hi
         have:=hk2 i hi
         simp only[Bool.not_eq_true',decide_eq_false_iff_not,Int.not_lt,Array.getD,Nat.zero_add,h,dif_pos]at this
         exact this
        have hA2:∀i,(h:i<a.size)->k<=i->i<c.2.1->ky b[c.2.2.1-1]<ky a[i]:=by
         intro i h hi1 hi2
         have:=hk3 i hi1 hi2
         simp only[Bool.not_eq_false',decide_eq_true_eq,Array.getD,Nat.zero_add,h,dif_pos]at this
         exact this
        have m2:=m.bA ha hk1 hia.2 hib.2 (λj hj h1 h2 i h hi=>Int.le_trans (moB i (c.2.2.1-1) ⋯ l2) (Int.le_of_lt (hA2 j hj h1 h2)))
        refine Zq (λhk0=>Zq (λh3=>Yj ⟨⟨_,rfl⟩,.inl ⟨_,rfl,dA _ _ _ m2 hib.2 (by simpa using h3)⟩⟩) (λh3=>?_)) (λhk0=>?_)
        focus
         simp only[beq_iff_eq]at h3
         have m':=m2
         have n1:1<=k:= ⋯
         have n2:k<=a.size:= ⋯
         have l1:k-1<a.size:= ⋯
         have hx':∀i,(h:i<a.size)->i<k->ky a[i]<=ky b[c.2.2.1-1]:=hA1
         have ht':t+u+k+c.2.2.1<a.size+b.size:= ⋯
         obtain⟨y,hy⟩:∃y,y=ky a[k-1]:=⟨_,rfl⟩
         have hy2:∀i,(h:i<a.size)->i<k->ky a[i]<=y:=λi h hi=>hy▸moA i (k-1) ⋯ l1
        rotate_left
        focus
         have hk0':k=c.2.1:= ⋯
         subst hk0'
         have m':=m
         have n1:1<=c.2.1:= ⋯
         have n2:c.2.1<=a.size:= ⋯
         have l1:c.2.1-1<a.size:= ⋯
         have hx':∀i,(h:i<a.size)->i<c.2.1->ky a[i]<=ky b[c.2.2.1-1]:=hA1
         have ht':t+u+c.2.1+c.2.2.1<a.size+b.size:= ⋯
         obtain⟨y,hy⟩:∃y,y=ky a[c.2.1-1]:=⟨_,rfl⟩
         have hy2:∀i,(h:i<a.size)->i<c.2.1->ky a[i]<=y:=λi h hi=>hy▸moA i (c.2.1-1) ⋯ l1
        all_goals
         refine Yg (ZJ l2 ?_)
         have m3:=(m'.swap.sA hb ⋯ hib.2 n2 hx').swap
         refine Zq (λh5=>Yj ⟨⟨_,rfl⟩,.inl ⟨_,rfl,fB _ _ _ m3 n2 (by simpa using h5)⟩⟩) (λh5=>?_)
         simp only[beq_iff_eq]at h5
         refine Yg (ZJ l1 ?_)
         refine Yg (ZcH (f:=λi=>decide (ky (b.getD (0+i) (Value.none,Value.none))<y)) hc rfl (hPa _ _) hPb ⋯ ⋯ (λi h=>by simp only[Array.getD,h,dif_pos,hy];simp) ?_ ?_)
         .intro i j hij hj hfj
          simp only[decide_eq_true_eq]at hfj⊢
          have:=moB (0+i) (0+j) ⋯ ⋯
          simp only[Array.getD,(by omega:0+i<b.size),(by omega:0+j<b.size),dif_pos]at hfj⊢
          exact Int.lt_of_le_of_lt this hfj
         .intro k2 q1 q2 q3
          have hB1:∀i,(h:i<b.size)->i<k2->ky b[i]<y:=by
           intro i h hi
           have:=q2 i hi
           simp only[decide_eq_true_eq,Array.getD,Nat.zero_add,h,dif_pos]at this
           exact this
          have hB2:∀i,(h:i<b.size)->k2<=i->i<c.2.2.1-1->y<=ky b[i]:=by
           intro i h hi1 hi2
           have:=q3 i hi1 hi2
           simp only[decide_eq_false_iff_not,Int.not_lt,Array.getD,Nat.zero_add,h,dif_pos]at this
           exact this
          have m4:=(m3.swap.bA hb q1 ⋯ n2 (λj hj h1 h2 i h hi=>Int.le_trans (hy2 i h hi) (hB2 j hj h1 h2))).swap
          refine Zq (λq0=>Zq (λh6=>Yj ⟨⟨_,rfl⟩,.inl ⟨_,rfl,fB _ _ _ m4 n2 (by simpa using h6)⟩⟩) (λh6=>Zq (λh7=>Yj ⟨⟨_,rfl⟩,.inl ⟨_,rfl,dB _ _ _ m4 n2 (by simpa using h7)⟩⟩) (λh7=>?_))) (λq0=>?_)
          focus
           simp only[beq_iff_eq]at h6 h7
           have hl2:2<=k2/\k2<=b.size:= ⋯
           have m5:=m4.sA ha n1 n2 hl2.2 (λi h hi=>Int.le_of_lt (hy▸hB1 i h hi))
           have hlt:k2+1<=c.2.2.1:= ⋯
          rotate_left
          focus
           have q0':k2=c.2.2.1-1:= ⋯
           subst q0'
           have hl2:2<=c.2.2.1-1/\c.2.2.1-1<=b.size:= ⋯
           have m5:=m3.sA ha n1 n2 hl2.2 (λi h hi=>Int.le_of_lt (hy▸hB1 i h hi))
           have hlt:c.2.2.1-1+1<=c.2.2.1:= ⋯
          all_goals
           refine Yg (ZJ l1 ?_)
           refine Zq (λh8=>Yj ⟨⟨_,rfl⟩,.inl ⟨_,rfl,dA _ _ _ m5 hl2.2 (by simpa using h8)⟩⟩) (λh8=>?_)
           simp only[beq_iff_eq]at h8
           refine Zq (λh9=>Yj ⟨⟨_,rfl⟩,.inr ⟨rfl,m5,by simp only;omega,hl2,by simp only;omega⟩⟩) (λh9=>Yj ⟨⟨_,rfl⟩,rfl,m5,by simp only;omega,hl2,by simp only;omega⟩)
     .rintro c st' ⟨hg,e,m,hia,hib,hti⟩
      exact⟨hg,.inr ⟨e,m,hia,hib,⋯⟩⟩
     .rintro⟨r,na,nb,out,mg,ac,bc⟩ st' ⟨⟨g3,rfl⟩,hor⟩
      rcases hor with⟨res,e,hgd⟩|⟨e,m,hia,hib,hti⟩
      .simp only at e
       subst e
       exact Yj ⟨⟨_,rfl⟩,res,rfl,hgd⟩
      .simp only at e m hia hib hti
       subst e
       exact Yg (wpS_modify (Yj ⟨⟨_,rfl⟩,rfl,m,hia,hib,by simp only;omega⟩))
  .rintro c st' ⟨_,e,m,hia,hib,hti⟩
   omega
  .rintro⟨r,na,nb,out,mg⟩ st' ⟨⟨g2,rfl⟩,res,e,hgd⟩
   simp only at e
   subst e
   exact Yj (hQ res g2 hgd)
end
section
variable {ky:Keyed->Int}
noncomputable def kp (ky:Keyed->Int) (a:Array Keyed) (i:Nat):Int:=ky (a.getD i (Value.none,Value.none))
theorem Zju {a:Array Keyed}{i:Nat} (h:i<a.size):kp ky a i=ky a[i]:=by unfold kp;simp[Array.getD,h]
theorem Zeo {a b:Array Keyed}{i j:Nat} (h:a[i]?=b[j]?):kp ky a i=kp ky b j:=by
 unfold kp;rw[YI,YI,h]
noncomputable def SoR (ky:Keyed->Int) (a:Array Keyed) (l r:Nat):Prop:=∀i j,l<=i->i<=j->j<r->kp ky a i<=kp ky a j
noncomputable def DeR (ky:Keyed->Int) (a:Array Keyed) (l r:Nat):Prop:=∀i j,l<=i->i<=j->j<r->kp ky a j<=kp ky a i
theorem SoR.next {a:Array Keyed}{l r:Nat} (h:SoR ky a l r) (hr:l<r) (h2:kp ky a (r-1)<=kp ky a r):SoR ky a l (r+1):=by
 intro i j hi hij hj
 by_cases e:j=r
 .subst e
  by_cases e2:i=j
  .rw[e2];exact Int.le_refl _
  .exact Int.le_trans (h i (j-1) hi ⋯ ⋯) h2
 .exact h i j hi hij ⋯
theorem DeR.next {a:Array Keyed}{l r:Nat} (h:DeR ky a l r) (hr:l<r) (h2:kp ky a r<=kp ky a (r-1)):DeR ky a l (r+1):=by
 intro i j hi hij hj
 by_cases e:j=r
 .subst e
  by_cases e2:i=j
  .rw[e2];exact Int.le_refl _
  .exact Int.le_trans h2 (h i (j-1) hi ⋯ ⋯)
 .exact h i j hi hij ⋯
theorem SoR.congr {a a':Array Keyed}{l r:Nat} (h:SoR ky a l r) (e:∀i,l<=i->i<r->kp ky a' i=kp ky a i):SoR ky a' l r:=by
 intro i j hi hij hj
 rw[e i hi ⋯,e j ⋯ hj]
 exact h i j hi hij hj
theorem DeR.congr {a a':Array Keyed}{l r:Nat} (h:DeR ky a l r) (e:∀i,l<=i->i<r->kp ky a' i=kp ky a i):DeR ky a' l r:=by
 intro i j hi hij hj
 rw[e i hi ⋯,e j ⋯ hj]
 exact h i j hi hij hj
theorem ZhZ {a:Array Keyed}{i j:Nat} (hj:j<=a.size) (x:Nat):kp ky (mirror a i j ((j-i) / 2)) x=if i<=x/\x<j then kp ky a (i+j-1-x)else kp ky a x:=by
 have e:=getElem?_mirror_all (xs:=a) (i:=i) hj x
 by_cases h:i<=x/\x<j
 .rw[Yd h]at e⊢;exact Zeo e
 .rw[Yb h]at e⊢;exact Zeo e
theorem ZeB {a:Array Keyed}{i j:Nat} (hj:j<=a.size) (heq:∀x,i<=x->x<j->kp ky a x=kp ky a (j-1)) (x:Nat):kp ky (mirror a i j ((j-i) / 2)) x=kp ky a x:=by
 rw[ZhZ hj]
 split
 .rw[heq _ ⋯ ⋯,heq x ⋯ ⋯]
 .rfl
theorem Zsl {a:Array Keyed}{src d:Nat} (hs:src<a.size) (hd:d<=src) (x:Nat):kp ky (bubble a src d) x=if x=src-d then kp ky a src else if src-d<x/\x<=src then kp ky a (x-1)else kp ky a x:=by
 have e:=getElem?_bubble hs d hd x
 by_cases h1:x=src-d
 .rw[Yd h1]at e⊢;exact Zeo e
 .rw[Yb h1]at e⊢
  by_cases h2:src-d<x/\x<=src
  .rw[Yd h2]at e⊢;exact Zeo e
  .rw[Yb h2]at e⊢;exact Zeo e
structure Chg (a a':Array Keyed) (l r:Nat):Prop where
 perm:a'.Perm a
 same:∀i,i<l\/r<=i->a'[i]?=a[i]?
theorem Chg.refl (a:Array Keyed) (l r:Nat):Chg a a l r:=⟨Array.Perm.refl _,λ_ _=>rfl⟩
theorem Chg.trans {a b c:Array Keyed}{l r:Nat} (h1:Chg a b l r) (h2:Chg b c l r):Chg a c l r:=⟨h2.perm.trans h1.perm,λi h=>(h2.same i h).trans (h1.same i h)⟩
theorem Chg.wide {a b:Array Keyed}{l r l' r':Nat} (h:Chg a b l r) (h1:l'<=l) (h2:r<=r'):Chg a b l' r':=⟨h.perm,λi hi=>h.same i ⋯⟩
theorem Chg.size {a b:Array Keyed}{l r:Nat} (h:Chg a b l r):b.size=a.size:=by
 have:=(Array.perm_iff_toList_perm.mp h.perm).length_eq;simpa using this
theorem Chg.kp {a b:Array Keyed}{l r:Nat} (h:Chg a b l r) {i:Nat} (hi:i<l\/r<=i):kp ky b i=kp ky a i:=Zeo (h.same i hi)
theorem ZeC (a:Array Keyed) {i j:Nat} (hj:j<=a.size):Chg a (mirror a i j ((j-i) / 2)) i j:=by
 refine⟨mirror_perm a i j _,λk hk=>?_⟩
 rw[getElem?_mirror_all hj,Yb ⋯]
theorem Zu1 (a:Array Keyed) {src d:Nat} (hs:src<a.size) (hd:d<=src):Chg a (bubble a src d) (src-d) (src+1):=by
 refine⟨bubble_perm a src d,λk hk=>?_⟩
 rw[getElem?_bubble hs d hd,Yb ⋯,Yb ⋯]
variable {prog:Program}{w:World}{A:Around}{E:Value->Shared->Prop}{s:Shared}{κ:SortKind}{P:Keyed->Prop}
noncomputable def AllP (P:Keyed->Prop) (a:Array Keyed):Prop:=∀x,x∈a->P x
theorem AllP.at {a:Array Keyed} (h:AllP P a) (i:Nat) (hi:i<a.size):P a[i]:=h _ (Array.getElem_mem hi)
theorem AllP.perm {a b:Array Keyed} (h:AllP P a) (e:b.Perm a):AllP P b:=λx hx=>h x ((Array.Perm.mem_iff e).mp hx)
theorem Zhg (hc:Zfz prog w A s κ P ky) {a:Array Keyed}{pd:Array (Nat×Nat×Nat)}{g:Nat}{fl:Option Value} (hP:AllP P a) {i j:Nat}{Q:Option Bool->SortSt->Prop} (hi:i<a.size) (hj:j<a.size) (h:Q (some (decide (kp ky a i<kp ky a j))) (SortSt.mk' κ a pd g fl)):wpS (model prog w) A E s (ltAt' i j) Q (SortSt.mk' κ a pd g fl):=by
 rw[ltAt'_eq]
 refine Yg (wpS_get ?_)
 refine Yg (ZJ hi ?_)
 refine Yg (ZJ hj ?_)
 rw[Zju hi,Zju hj]at h
 exact Zm1 hc rfl (hP.at _ hi) (hP.at _ hj) h
theorem Zjv {a:Array Keyed}{pd:Array (Nat×Nat×Nat)}{g:Nat}{fl:Option Value}{i j:Nat}{Q:Unit->SortSt->Prop} (h:Q () (SortSt.mk' κ (mirror a i j ((j-i) / 2)) pd g fl)):wpS (model prog w) A E s (reverseSlice' i j) Q (SortSt.mk' κ a pd g fl):=wpS_reverse h
theorem Zm3 (hc:Zfz prog w A s κ P ky) {a:Array Keyed}{pd:Array (Nat×Nat×Nat)}{g:Nat}{fl:Option Value} (hP:AllP P a) {lo nrem:Nat}{Q:Option Nat->SortSt->Prop} (hn:1<=nrem) (hs:lo+nrem<=a.size)
  (hQ:∀m a',1<=m->m<=nrem->Chg a a' lo (lo+nrem)->SoR ky a' lo (lo+m)->Q (some m) (SortSt.mk' κ a' pd g fl)):wpS (model prog w) A E s (countRun' lo nrem) Q (SortSt.mk' κ a pd g fl):=by
 have asc:∀(a:Array Keyed),AllP P a->lo+nrem<=a.size->∀n,1<=n->n<=nrem->SoR ky a lo (lo+n)->∀(body:Nat->Option (Option Nat)×Nat->StateT SortSt Sem (ForInStep (Option (Option Nat)×Nat))) (R:Option (Option Nat)×Nat->SortSt->Prop),
   (∀x c,body x c=do
    let r <-ltAt' (lo+c.2) (lo+c.2-1)
    match r with
    |some smaller=>if smaller=true then pure (ForInStep.done (none,c.2))else pure (ForInStep.yield (none,c.2+1))
    |x=>pure (ForInStep.done (some none,c.2))) ->
   (∀m,n<=m->m<=nrem->SoR ky a lo (lo+m)->(m<nrem->kp ky a (lo+m)<kp ky a (lo+m-1))->R (none,m) (SortSt.mk' κ a pd g fl))->wpS (model prog w) A E s (forIn [n:nrem] (none,n) body) R (SortSt.mk' κ a pd g fl):=by
  intro a hP hs n h1 h2 hS body R hbody hR
  refine wpS_forRange (λ(t:Nat) (c:Option (Option Nat)×Nat) (st':SortSt)=>st'=SortSt.mk' κ a pd g fl/\c=(none,t)/\SoR ky a lo (lo+t)) ?_ ?_ ⟨rfl,rfl,hS⟩
  .rintro t c st' ht1 ht2 ⟨rfl,rfl,hSo⟩
   rw[hbody]
   refine Yg (Zhg hc hP (by simp only;omega) (by simp only;omega) ?_)
   refine Zq (λhv=>?_) (λhv=>?_)
   .exact Yj (hR t ht1 ⋯ hSo (λ_=>YT hv))
   .have hv:=λz=>hv (Yt z)
    exact Yj ⟨rfl,rfl,SoR.next (r:=lo+t) hSo ⋯ (Int.not_lt.mp hv)⟩
  .rintro c st' ⟨rfl,rfl,hSo⟩
   have:max n nrem=nrem:= ⋯
   rw[this]at hSo⊢
   exact hR nrem h2 (Yc _) hSo (λz=>⋯)
 have one:SoR ky a lo (lo+1):=λi j hi hij hj=>by
  have:i=j:= ⋯
  rw[this];exact Int.le_refl _
 rw[countRun'_eq]
 refine Yg (asc a hP hs 1 (Yc _) hn one _ _ (λx c=>rfl) ?_)
 intro n hn1 hn2 hSo hlast
 refine Zq (λh1=>?_) (λh1=>?_)
 .exact Yj (hQ n a hn1 hn2 (Chg.refl _ _ _) hSo)
 .simp only[beq_iff_eq]at h1
  have hl:=hlast ⋯
  refine Zq (λh2=>Yg (Zhg hc hP ⋯ ⋯ (Zq (λh3=>Yj (hQ n a hn1 hn2 (Chg.refl _ _ _) hSo)) (λh3=>Yg (Zjv ?_))))) (λh2=>?_)
  focus
   have h3:¬ kp ky a lo<kp ky a (lo+n-1):=λz=>h3 (Yt z)
   have heq:∀x,lo<=x->x<lo+n->kp ky a x=kp ky a (lo+n-1):=λx x1 x2=>by
    have:=hSo lo x ⋯ ⋯ x2
    have:=hSo x (lo+n-1) x1 ⋯ ⋯
    omega
   have ek:=ZeB (ky:=ky) (i:=lo) (j:=lo+n) ⋯ heq
   have hC:=(ZeC a (i:=lo) (j:=lo+n) ⋯).wide (l':=lo) (r':=lo+nrem) (Yc _) ⋯
   have hD:DeR ky (mirror a lo (lo+n) ((lo+n-lo) / 2)) lo (lo+n+1):=by
    refine DeR.congr (a:=a) ?_ (λi _ _=>ek i)
    refine DeR.next (λi j hi hij hj=>?_) ⋯ (Int.le_of_lt hl)
    rw[heq i hi ⋯,heq j ⋯ hj];exact Int.le_refl _
  rotate_left
  focus
   have hn0:n=1:= ⋯
   subst hn0
   have hC:=Chg.refl a lo (lo+nrem)
   have hD:DeR ky a lo (lo+1+1):=by
    refine DeR.next (λi j hi hij hj=>?_) ⋯ (Int.le_of_lt hl)
    have:i=j:= ⋯
    rw[this];exact Int.le_refl _
  all_goals
   have hP1:=hP.perm hC.perm
   have hs1:=hC.size
   refine Yg (wpS_lift (wpAny_rule ⟨rfl,?_⟩))
   refine Yg (wpS_mono (Q:=λ(c:Option (Option Nat)×Nat×Nat) (st':SortSt)=>∃a',st'=SortSt.mk' κ a' pd g fl/\Chg a a' lo (lo+nrem)/\c.1=none/\1<=c.2.1/\c.2.1<=nrem/\DeR ky a' lo (lo+c.2.1)/\c.2.2+1<=c.2.1/\∀x,lo+c.2.1-(c.2.2+1)<=x->x<lo+c.2.1->kp ky a' x=kp ky a' (lo+c.2.1-1)) (wpS_forRange (λ(t:Nat) (c:Option (Option Nat)×Nat×Nat) (st':SortSt)=>∃a',st'=SortSt.mk' κ a' pd g fl/\Chg a a' lo (lo+nrem)/\c.1=none/\c.2.1=t/\DeR ky a' lo (lo+c.2.1)/\c.2.2+1<=c.2.1/\∀x,lo+c.2.1-(c.2.2+1)<=x->x<lo+c.2.1->kp ky a' x=kp ky a' (lo+c.2.1-1)) ?_ ?_ ⟨_,rfl,hC,rfl,rfl,hD,by simp only;omega,λx x1 x2=>by simp only at x1 x2⊢;congr 1;omega⟩) ?_)
   .rintro t c st' ht1 ht2 ⟨a1,rfl,hC1,e1,e2,hD1,hq,heq⟩
    have hP2:=hP.perm hC1.perm
    have hs2:=hC1.size
    refine Yg (Zhg hc hP2 ⋯ ⋯ (Zq (λh3=>?_) (λh3=>Yg (Zhg hc hP2 ⋯ ⋯ (Zq (λh4=>?_) (λh4=>?_))))))
    .have h3:=YT h3
     have hr:=ZeB (ky:=ky) (i:=lo+c.2.1-(c.2.2+1)) (j:=lo+c.2.1) ⋯ heq
     refine Zq (λh5=>Yg (Zjv (Yj ⟨_,rfl,hC1.trans ((ZeC a1 ⋯).wide ⋯ ⋯),rfl,by simp only;omega,?_,by simp only;omega,λx x1 x2=>by simp only at x1 x2⊢;congr 1;omega⟩))) (λh5=>Yj ⟨_,rfl,hC1,rfl,by simp only;omega,?_,by simp only;omega,λx x1 x2=>by simp only at x1 x2⊢;congr 1;omega⟩)
     .exact DeR.congr (a:=a1) (DeR.next (r:=lo+c.2.1) hD1 ⋯ (Int.le_of_lt h3)) (λi _ _=>hr i)
     .exact DeR.next (r:=lo+c.2.1) hD1 ⋯ (Int.le_of_lt h3)
    .exact Yj ⟨_,rfl,hC1,rfl,by simp only;omega,by simp only;omega,hD1,hq,heq⟩
    .have h3:=Int.not_lt.mp λz=>h3 (Yt z)
     have h4:=Int.not_lt.mp λz=>h4 (Yt z)
     have e5:kp ky a1 (lo+c.2.1)=kp ky a1 (lo+c.2.1-1):=Int.le_antisymm h4 h3
     refine Yj ⟨_,rfl,hC1,rfl,by simp only;omega,DeR.next (r:=lo+c.2.1) hD1 ⋯ h4,by simp only;omega,?_⟩
     intro x x1 x2
     simp only at x1 x2⊢
     have e6:lo+(c.2.1+1)-1=lo+c.2.1:= ⋯
     rw[e6,e5]
     by_cases ex:x=lo+c.2.1
     .rw[ex,e5]
     .exact heq x ⋯ ⋯
   .rintro c st' ⟨a1,rfl,hC1,e1,e2,hD1,hq,heq⟩
    exact⟨a1,rfl,hC1,e1,⋯,⋯,hD1,hq,heq⟩
   .rintro⟨r,n2,neq⟩ st' ⟨a1,rfl,hC1,e1,m1,m2,hD1,hq,heq⟩
    simp only at e1 m1 m2 hD1 hq heq
    subst e1
    have hs2:=hC1.size
    have fin:∀a2,Chg a a2 lo (lo+nrem)->DeR ky a2 lo (lo+n2)->Chg a (mirror a2 lo (lo+n2) ((lo+n2-lo) / 2)) lo (lo+nrem)/\SoR ky (mirror a2 lo (lo+n2) ((lo+n2-lo) / 2)) lo (lo+n2):=by
     intro a2 hC2 hD2
     have:=hC2.size
     refine⟨hC2.trans ((ZeC a2 ⋯).wide ⋯ ⋯),?_⟩
     intro i j hi hij hj
     rw[ZhZ ⋯,ZhZ ⋯,Yd ⟨hi,⋯⟩,Yd ⟨⋯,hj⟩]
     exact hD2 _ _ ⋯ ⋯ ⋯
    have hr:=ZeB (ky:=ky) (i:=lo+n2-(neq+1)) (j:=lo+n2) ⋯ heq
    have C3:=hC1.trans ((ZeC a1 (i:=lo+n2-(neq+1)) (j:=lo+n2) ⋯).wide (l':=lo) (r':=lo+nrem) ⋯ ⋯)
    have F1:=fin _ C3 (DeR.congr (a:=a1) hD1 (λi _ _=>hr i))
    have F2:=fin _ hC1 hD1
    refine Zq (λh5=>Yg (Zjv (Yg (Zjv (Yg (asc _ (hP.perm F1.1.perm) (by have:=F1.1.size;omega) n2 m1 m2 F1.2 _ _ (λx c=>rfl) (λm z1 z2 z3 _=>?_))))))) (λh5=>Yg (Zjv (Yg (asc _ (hP.perm F2.1.perm) (by have:=F2.1.size;omega) n2 m1 m2 F2.2 _ _ (λx c=>rfl) (λm z1 z2 z3 _=>?_)))))
    .exact Yj (hQ m _ ⋯ z2 F1.1 z3)
    .exact Yj (hQ m _ ⋯ z2 F2.1 z3)
theorem Zki (hc:Zfz prog w A s κ P ky) {a:Array Keyed}{pd:Array (Nat×Nat×Nat)}{g:Nat}{fl:Option Value} (hP:AllP P a) {lo n ok:Nat}{Q:Bool->SortSt->Prop} (hs:lo+n<=a.size) (hok:ok<=n) (hS:SoR ky a lo (lo+ok))
  (hQ:∀a',Chg a a' lo (lo+n)->SoR ky a' lo (lo+n)->Q true (SortSt.mk' κ a' pd g fl)):wpS (model prog w) A E s (binarySort' lo n ok) Q (SortSt.mk' κ a pd g fl):=by
 rw[binarySort'_eq]
 have h1:SoR ky a lo (lo+max ok 1):=by
  by_cases h:1<=ok
  .rw[Nat.max_eq_left h];exact hS
  .intro i j hi hij hj
   have:i=j:= ⋯
   rw[this];exact Int.le_refl _
 refine Yg (wpS_mono (Q:=λ(c:Option Bool×Unit) (st':SortSt)=>∃a',st'=SortSt.mk' κ a' pd g fl/\c.1=none/\Chg a a' lo (lo+n)/\SoR ky a' lo (lo+n)) (wpS_forRange (λ(k:Nat) (c:Option Bool×Unit) (st':SortSt)=>∃a',st'=SortSt.mk' κ a' pd g fl/\c.1=none/\Chg a a' lo (lo+n)/\SoR ky a' lo (lo+k)) ?_ ?_ ⟨a,rfl,rfl,Chg.refl _ _ _,h1⟩) ?_)
 .rintro k c st' k1 k2 ⟨a1,rfl,e1,hC,hSo⟩
  have hP1:=hP.perm hC.perm
  have hs1:=hC.size
  refine Yg (wpS_mono (Q:=λ(c:Option Bool×Nat×Nat) (st':SortSt)=>st'=SortSt.mk' κ a1 pd g fl/\c.1=none/\c.2.1<=k/\(∀i,i<c.2.1->kp ky a1 (lo+i)<=kp ky a1 (lo+k))/\(∀i,c.2.1<=i->i<k->kp ky a1 (lo+k)<kp ky a1 (lo+i))) (wpS_forRange (λ(t:Nat) (c:Option Bool×Nat×Nat) (st':SortSt)=>st'=SortSt.mk' κ a1 pd g fl/\c.1=none/\c.2.1<=c.2.2/\c.2.2<=k/\c.2.2-c.2.1<=k-t/\(∀i,i<c.2.1->kp ky a1 (lo+i)<=kp ky a1 (lo+k))/\(∀i,c.2.2<=i->i<k->kp ky a1 (lo+k)<kp ky a1 (lo+i))) ?_ ?_ ⟨rfl,rfl,Yq _,Yc _,Yc _,λi hi=>absurd hi (Nat.not_lt_zero _),λi x1 x2=>by simp only at x1;omega⟩) ?_)
  .rintro t c st' t1 t2 ⟨rfl,e1,b1,b2,b3,b4,b5⟩
   refine Zq (λh=>Yj ⟨rfl,rfl,by simp only;omega,b4,λi x1 x2=>b5 i (by simp only at x1;omega) x2⟩) (λh=>Yg (Zhg hc hP1 ⋯ ⋯ (Zq (λh3=>?_) (λh3=>?_))))
   .have h3:=YT h3
    refine Yj ⟨rfl,rfl,by simp only;omega,by simp only;omega,by simp only;omega,b4,?_⟩
    intro i x1 x2
    simp only at x1
    exact Int.lt_of_lt_of_le h3 (hSo _ _ ⋯ ⋯ ⋯)
   .have h3:=Int.not_lt.mp λz=>h3 (Yt z)
    refine Yj ⟨rfl,rfl,by simp only;omega,by simp only;omega,by simp only;omega,?_,b5⟩
    intro i x1
    simp only at x1
    exact Int.le_trans (hSo _ _ ⋯ ⋯ ⋯) h3
  .rintro c st' ⟨rfl,e1,b1,b2,b3,b4,b5⟩
   exact⟨rfl,e1,⋯,b4,λi x1 x2=>b5 i ⋯ x2⟩
  .rintro⟨r,l,r2⟩ st' ⟨rfl,e2,b1,b4,b5⟩
   simp only at e2 b1 b4 b5
   subst e2
   simp only[moveDown'_eq]
   refine Yg (wpS_modify (Yj ⟨_,rfl,rfl,hC.trans ((Zu1 a1 (src:=lo+k) (d:=lo+k-(lo+l)) ⋯ ⋯).wide ⋯ ⋯),?_⟩))
   intro i j hi hij hj
   have ed:lo+k-(lo+k-(lo+l))=lo+l:= ⋯
   show kp ky (bubble a1 (lo+k) (lo+k-(lo+l))) i<=kp ky (bubble a1 (lo+k) (lo+k-(lo+l))) j
   rw[Zsl ⋯ ⋯,Zsl ⋯ ⋯,ed]
   have big:∀x,lo<=x->x<lo+k->∃y,x=lo+y/\y<k:=λx x1 x2=>⟨x-lo,⋯,⋯⟩
   by_cases c1:i=lo+l
   .rw[Yd c1]
    by_cases c2:j=lo+l
    .rw[Yd c2];exact Int.le_refl _
    .rw[Yb c2,Yd ⟨⋯,⋯⟩]
     obtain⟨y,hy,hyk⟩:=big (j-1) ⋯ ⋯
     rw[hy];exact Int.le_of_lt (b5 y ⋯ hyk)
   .rw[Yb c1]
    by_cases c2:j=lo+l
    .rw[Yd c2,Yb ⋯]
     obtain⟨y,hy,hyk⟩:=big i ⋯ ⋯
     rw[hy];exact b4 y ⋯
    .rw[Yb c2]
     split<;>split
     .exact hSo _ _ ⋯ ⋯ ⋯
     .omega
     .exact hSo _ _ ⋯ ⋯ ⋯
     .exact hSo _ _ ⋯ ⋯ ⋯
 .rintro c st' ⟨a1,rfl,e1,hC,hSo⟩
  exact⟨a1,rfl,e1,hC,λi j hi hij hj=>hSo i j hi hij ⋯⟩
 .rintro⟨r,u⟩ st' ⟨a1,rfl,e1,hC,hSo⟩
  simp only at e1
  subst e1
  exact Yj (hQ a1 hC hSo)
end
section
variable {ky:Keyed->Int}
noncomputable def ZW (ky:Keyed->Int) (a:Array Keyed):List (Nat×Nat×Nat)->Nat->Nat->Prop
 |[],x,y=>x=y
 |r::l,x,y=>r.1=x/\1<=r.2.1/\SoR ky a x (x+r.2.1)/\ZW ky a l (x+r.2.1) y
variable {a a':Array Keyed}
theorem ZW.app:∀{l m:List (Nat×Nat×Nat)}{x z:Nat},ZW ky a (l++m) x z↔∃y,ZW ky a l x y/\ZW ky a m y z
 |[],m,x,z=>⟨λh=>⟨x,rfl,h⟩,λ⟨y,e,h⟩=>by cases e;exact h⟩
 |r::l,m,x,z=>by
  constructor
  .rintro⟨h1,h2,h3,h4⟩
   obtain⟨y,q1,q2⟩:=ZW.app.mp h4
   exact⟨y,⟨h1,h2,h3,q1⟩,q2⟩
  .rintro⟨y,⟨h1,h2,h3,h4⟩,q⟩
   exact⟨h1,h2,h3,ZW.app.mpr ⟨y,h4,q⟩⟩
theorem ZW.le:∀{l:List (Nat×Nat×Nat)}{x y:Nat},ZW ky a l x y->x+l.length<=y
 |[],x,y,h=>by cases h;exact Yc _
 |r::l,x,y,⟨_,h2,_,h4⟩=>by have:=h4.le;simp only[YN];omega
theorem ZW.congr:∀{l:List (Nat×Nat×Nat)}{x y:Nat},ZW ky a l x y->(∀i,x<=i->i<y->kp ky a' i=kp ky a i)->ZW ky a' l x y
 |[],x,y,h,_=>h
 |r::l,x,y,⟨h1,h2,h3,h4⟩,e=>by
  have:=h4.le
  exact⟨h1,h2,h3.congr (λi x1 x2=>e i x1 ⋯),h4.congr (λi x1 x2=>e i ⋯ x2)⟩
theorem ZW.Zsm:∀{l m:List (Nat×Nat×Nat)}{x y:Nat},ZW ky a l x y->l.map (λr=>(r.1,r.2.1))=m.map (λr=>(r.1,r.2.1))->ZW ky a m x y
 |[],[],x,y,h,_=>h
 |r::l,q::m,x,y,⟨h1,h2,h3,h4⟩,e=>by
  simp only[YR,List.cons.injEq,Prod.mk.injEq]at e
  obtain⟨⟨e1,e2⟩,e3⟩:=e
  refine⟨e1▸h1,e2▸h2,e2▸h3,?_⟩
  rw[<-e2];exact h4.Zsm e3
 |[],_::_,_,_,_,e=>by cases e
 |_::_,[],_,_,_,e=>by cases e
theorem ZpK (base:Nat):∀(m:List Keyed) (n:Nat) (a:Array Keyed),base+n+m.length<=a.size ->
  (List.foldl (λ(a:Array Keyed) (x:Keyed×Nat)=>a.setIfInBounds (base+x.2) x.1) a (m.zipIdx n)).toList=a.toList.take (base+n)++m++a.toList.drop (base+n+m.length)
 |[],n,a,h=>by simp
 |x::m,n,a,h=>by
  simp only[YN]at h
  rw[List.zipIdx_cons,List.foldl_cons,ZpK base m (n+1) _ (by simp;omega)]
  simp only[Array.toList_setIfInBounds,YN]
  have e1:(a.toList.set (base+n) x).take (base+(n+1))=a.toList.take (base+n)++[x]:=by
   rw[<-Nat.add_assoc,Jd,List.take_set,List.getElem?_set]
   rw[List.set_eq_of_length_le (by simp;omega)]
   simp[show base+n<a.size by omega]
  have e2:(a.toList.set (base+n) x).drop (base+(n+1)+m.length)=a.toList.drop (base+n+(m.length+1)):=by
   rw[List.drop_set_of_lt ⋯]
   congr 1;omega
  rw[e1,e2]
  simp
variable {prog:Program}{w:World}{A:Around}{E:Value->Shared->Prop}{s:Shared}{κ:SortKind}{P:Keyed->Prop}
theorem Zim {l r:Nat} (h:SoR ky a l r) (hr:r<=a.size):Srt ky (a.extract l r).toList:=by
 unfold Srt
 rw[List.pairwise_iff_getElem]
 intro i j hi hj hij
 simp only[Yp,Array.size_extract]at hi hj
 simp only[Array.getElem_toList,Array.getElem_extract]
 rw[<-Zju (ky:=ky) (a:=a) ⋯,<-Zju (ky:=ky) (a:=a) ⋯]
 exact h _ _ ⋯ ⋯ ⋯
theorem laid {base mid r:Nat}{res:Array Keyed} (h1:base<=mid) (h2:mid<=r) (h3:r<=a.size) (hg:Gd ky (a.extract base mid).toList (a.extract mid r).toList res.toList) :
  ∃a':Array Keyed,List.foldl (λ(a:Array Keyed) (x:Keyed×Nat)=>a.setIfInBounds (base+x.2) x.1) a res.toList.zipIdx=a'/\Chg a a' base r/\SoR ky a' base r/\∀j,base<=j->j<r->∃t,base<=t/\t<r/\kp ky a' j=kp ky a t:=by
 have hlen:res.toList.length=r-base:=by
  have:=hg.1.length_eq
  simp only[YS,Yp,Array.size_extract]at this⊢;omega
 have key:=ZpK base res.toList 0 a ⋯
 have hb:base+0+res.toList.length=r:= ⋯
 rw[hb,Nat.add_zero]at key
 refine⟨_,rfl,⟨?_,?_⟩,?_,?_⟩
 .rw[Array.perm_iff_toList_perm,key]
  have e:a.toList=a.toList.take base++((a.extract base mid).toList++(a.extract mid r).toList)++a.toList.drop r:=by
   simp only[Array.toList_extract,List.extract_eq_drop_take]
   have:(a.toList.drop base).take (mid-base)++(a.toList.drop mid).take (r-mid)=(a.toList.drop base).take (r-base):=by
    have e2:r-base=(mid-base)+(r-mid):= ⋯
    rw[e2,List.take_add,List.drop_drop]
    congr 3;omega
   rw[this]
   have e3:a.toList.drop r=(a.toList.drop base).drop (r-base):=by rw[List.drop_drop];congr 1;omega
   rw[e3,YX,Jh,Jh]
  conv=>rhs;rw[e]
  exact List.Perm.append_right _ (List.Perm.append_left _ hg.1)
 .intro i hi
  rw[<-YV,<-YV,key]
  have hl0:(a.toList.take base).length=base:=by simp;omega
  rcases hi with hi|hi
  .rw[YX,Y8 ⋯,List.getElem?_take_of_lt hi]
  .rw[Y4 (by simp;simp at hlen;omega),List.getElem?_drop]
   congr 1
   simp only[YS,hl0,hlen];omega
 all_goals
  have atm:∀j,(hj0:base<=j)->(hj:j<r)->kp ky (List.foldl (λ(a:Array Keyed) (x:Keyed×Nat)=>a.setIfInBounds (base+x.2) x.1) a res.toList.zipIdx) j=ky (res.toList[j-base]'⋯):=by
   intro j j1 j2
   have hl0:(a.toList.take base).length=base:=by simp;omega
   have:(List.foldl (λ(a:Array Keyed) (x:Keyed×Nat)=>a.setIfInBounds (base+x.2) x.1) a res.toList.zipIdx)[j]?=some (res.toList[j-base]'⋯):=by
    rw[<-YV,key,YX,Y4 ⋯,Y8 ⋯,hl0,Yf ⋯]
   unfold kp
   rw[YI,this];rfl
 .intro i j hi hij hj
  rw[atm i hi ⋯,atm j ⋯ hj]
  by_cases e:i=j
  .subst e;exact Int.le_refl _
  .exact List.pairwise_iff_getElem.mp hg.2 _ _ _ _ ⋯
 .intro j j1 j2
  rw[atm j j1 j2]
  have hm:(res.toList[j-base]'⋯)∈(a.extract base mid).toList++(a.extract mid r).toList:=(List.Perm.mem_iff hg.1).mp (YF _)
  rcases YB.mp hm with hm|hm
  .obtain⟨t,ht,e⟩:=List.mem_iff_getElem.mp hm
   simp only[Yp,Array.size_extract]at ht
   simp only[Array.getElem_toList,Array.getElem_extract]at e
   exact⟨base+t,⋯,⋯,by rw[Zju ⋯,e,Array.getElem_toList]⟩
  .obtain⟨t,ht,e⟩:=List.mem_iff_getElem.mp hm
   simp only[Yp,Array.size_extract]at ht
   simp only[Array.getElem_toList,Array.getElem_extract]at e
   exact⟨mid+t,⋯,⋯,by rw[Zju ⋯,e,Array.getElem_toList]⟩
theorem Zot (hc:Zfz prog w A s κ P ky) {pd:Array (Nat×Nat×Nat)}{g:Nat} (hP:AllP P a) {i sa na p sb nb p':Nat}{Q:Bool->SortSt->Prop} (h1:pd[i]?=some (sa,na,p)) (h2:pd[i+1]?=some (sb,nb,p')) (hsb:sb=sa+na) (hna:1<=na) (hnb:1<=nb) (hs:sb+nb<=a.size) (hSa:SoR ky a sa sb) (hSb:SoR ky a sb (sb+nb))
  (hQ:∀a' g',Chg a a' sa (sb+nb)->SoR ky a' sa (sb+nb)->Q true (SortSt.mk' κ a' ((pd.setIfInBounds i (sa,na+nb,p)).eraseIdxIfInBounds (i+1)) g' none)) :
  wpS (model prog w) A E s (mergeAt' i) Q (SortSt.mk' κ a pd g none):=by
 refine Yg (wpS_get ?_)
 simp only[h1,h2]
 refine Yg (wpS_modify ?_)
 have kat:∀j,(h:j<a.size)->kp ky a j=ky a[j]:=λj h=>Zju h
 refine Yg (ZJ (by omega:sb<a.size) ?_)
 refine Yg (ZcH (f:=λj=>!decide (kp ky a sb<kp ky a (sa+j))) hc rfl (hP.at _ _) hP.at ⋯ ⋯ (λj h=>by rw[kat _ h,kat sb ⋯];simp) ?_ ?_)
 .intro x y hxy hy hfy
  simp only[Bool.not_eq_true',decide_eq_false_iff_not,Int.not_lt]at hfy⊢
  exact Int.le_trans (hSa _ _ ⋯ ⋯ ⋯) hfy
 intro k hk1 hk2 hk3
 simp only[Bool.not_eq_true',decide_eq_false_iff_not,Int.not_lt,Bool.not_eq_false',decide_eq_true_eq]at hk2 hk3
 have pre:∀x,sa<=x->x<sa+k->kp ky a x<=kp ky a sb:=λx x1 x2=>by
  have:=hk2 (x-sa) ⋯
  rwa [(by omega:sa+(x-sa)=x)]at this
 refine Zq (λh3=>Yj (hQ a g (Chg.refl _ _ _) ?_)) (λh3=>?_)
 .simp only[beq_iff_eq]at h3
  intro x y hx hxy hy
  by_cases c1:y<sb
  .exact hSa x y hx hxy c1
  .by_cases c2:x<sb
   .exact Int.le_trans (pre x hx ⋯) (hSb sb y (Yc _) ⋯ hy)
   .exact hSb x y ⋯ hxy hy
 .simp only[beq_iff_eq]at h3
  have post1:kp ky a sb<kp ky a (sa+k):=hk3 k (Yc _) ⋯
  refine Yg (ZJ (by omega:sa+k+(na-k)-1<a.size) ?_)
  refine Yg (ZcH (f:=λj=>decide (kp ky a (sb+j)<kp ky a (sb-1))) hc rfl (hP.at _ _) hP.at ⋯ ⋯ (λj h=>by
   have e:sb-1=sa+k+(na-k)-1:= ⋯
   rw[kat _ h,e,kat _ ⋯];simp) ?_ ?_)
  .intro x y hxy hy hfy
   simp only[decide_eq_true_eq]at hfy⊢
   exact Int.lt_of_le_of_lt (hSb _ _ ⋯ ⋯ ⋯) hfy
  intro n2 q1 q2 q3
  simp only[decide_eq_true_eq,decide_eq_false_iff_not,Int.not_lt]at q2 q3
  refine Zq (λh4=>Yj (hQ a g (Chg.refl _ _ _) ?_)) (λh4=>?_)
  .simp only[beq_iff_eq]at h4
   have:=q3 0 ⋯ ⋯
   have:=hSa (sa+k) (sb-1) ⋯ ⋯ ⋯
   rw[Nat.add_zero]at *
   omega
  .simp only[beq_iff_eq]at h4
   have fin:∀res:Array Keyed,Gd ky (a.extract (sa+k) sb).toList (a.extract sb (sb+n2)).toList res.toList->∃a':Array Keyed,List.foldl (λ(a:Array Keyed) (x:Keyed×Nat)=>a.setIfInBounds (sa+k+x.2) x.1) a res.toList.zipIdx=a'/\Chg a a' sa (sb+nb)/\SoR ky a' sa (sb+nb):=by
    intro res hg
    obtain⟨a',e,c,so,mem⟩:=laid ⋯ ⋯ ⋯ hg
    refine⟨a',e,c.wide ⋯ ⋯,?_⟩
    have low:∀x t,sa<=x->x<sa+k->sa+k<=t->t<sb+n2->kp ky a x<=kp ky a t:=by
     intro x t x1 x2 t1 t2
     by_cases c1:t<sb
     .exact hSa x t x1 ⋯ c1
     .exact Int.le_trans (pre x x1 x2) (hSb sb t (Yc _) ⋯ ⋯)
    have high:∀x t,sb+n2<=x->x<sb+nb->sa+k<=t->t<sb+n2->kp ky a t<=kp ky a x:=by
     intro x t x1 x2 t1 t2
     have h5:kp ky a (sb-1)<=kp ky a x:=by
      have:=q3 (x-sb) ⋯ ⋯
      rwa [(by omega:sb+(x-sb)=x)]at this
     by_cases c1:t<sb
     .exact Int.le_trans (hSa t (sb-1) ⋯ ⋯ ⋯) h5
     .exact hSb t x ⋯ ⋯ ⋯
    intro x y hx hxy hy
    by_cases x1:x<sa+k
    .rw[c.kp (.inl x1)]
     by_cases y1:y<sa+k
     .rw[c.kp (.inl y1)];exact hSa x y hx hxy ⋯
     .by_cases y2:y<sb+n2
      .obtain⟨t,t1,t2,e2⟩:=mem y ⋯ y2
       rw[e2];exact low x t hx x1 t1 t2
      .rw[c.kp (.inr ⋯)]
       exact Int.le_trans (low x (sa+k) hx x1 (Yc _) ⋯) (high y (sa+k) ⋯ hy (Yc _) ⋯)
    .by_cases x2:x<sb+n2
     .by_cases y2:y<sb+n2
      .exact so x y ⋯ hxy y2
      .obtain⟨t,t1,t2,e2⟩:=mem x ⋯ x2
       rw[e2,c.kp (.inr ⋯)];exact high y t ⋯ hy t1 t2
     .rw[c.kp (.inr ⋯),c.kp (.inr ⋯)]
      exact hSb x y ⋯ hxy hy
   have Sx:=Zim (ky:=ky) (a:=a) (l:=sa+k) (r:=sb) (λx y x1 x2 x3=>hSa x y ⋯ x2 x3) ⋯
   have Sy:=Zim (ky:=ky) (a:=a) (l:=sb) (r:=sb+n2) (λx y x1 x2 x3=>hSb x y ⋯ x2 ⋯) ⋯
   have px:∀j,(h:j<(a.extract (sa+k) sb).size)->P (a.extract (sa+k) sb)[j]:=λj h=>by rw[Array.getElem_extract];exact hP.at _ _
   have py:∀j,(h:j<(a.extract sb (sb+n2)).size)->P (a.extract sb (sb+n2))[j]:=λj h=>by rw[Array.getElem_extract];exact hP.at _ _
   have zx:0<(a.extract (sa+k) sb).size:=by rw[Array.size_extract];omega
   have zy:0<(a.extract sb (sb+n2)).size:=by rw[Array.size_extract];omega
   have c0:ky (a.extract sb (sb+n2))[0]<=ky (a.extract (sa+k) sb)[0]:=by
    rw[Array.getElem_extract,Array.getElem_extract,<-kat _ ⋯,<-kat _ ⋯]
    exact Int.le_of_lt post1
   have cl:∀j,(h:j<(a.extract sb (sb+n2)).size)->ky (a.extract sb (sb+n2))[j]<=ky ((a.extract (sa+k) sb)[(a.extract (sa+k) sb).size-1]'⋯):=by
    intro j h
    rw[Array.size_extract]at h
    rw[Array.getElem_extract,Array.getElem_extract,<-kat _ ⋯,<-kat _ (by rw[Array.size_extract];omega)]
    have e:sa+k+((a.extract (sa+k) sb).size-1)=sb-1:=by rw[Array.size_extract];omega
    rw[e]
    exact Int.le_of_lt (q2 j ⋯)
   refine Zq (λh5=>Yg (Zoq hc px py Sx Sy zx zy c0 cl ?_)) (λh5=>Yg (Zos hc px py Sx Sy zx zy c0 cl ?_))
   all_goals
    intro res g' hg
    obtain⟨a',e,c,so⟩:=fin res hg
    refine Yg (wpS_modify (Yg (wpS_get (Yj ?_))))
    have:=hQ a' g' c so
    rw[<-e]at this
    exact this
theorem split2 {l:List (Nat×Nat×Nat)}{i:Nat} (h:i+1<l.length):l=l.take i++l[i]::l[i+1]::l.drop (i+2):=by
 rw[<-List.drop_eq_getElem_cons ⋯,<-List.drop_eq_getElem_cons ⋯,Jh]
theorem ZpL {pd:Array (Nat×Nat×Nat)}{i:Nat} (h:i+1<pd.size) (v:Nat×Nat×Nat):((pd.setIfInBounds i v).eraseIdxIfInBounds (i+1)).toList=pd.toList.take i++v::pd.toList.drop (i+2):=by
 rw[Array.toList_eraseIdxIfInBounds,Array.toList_setIfInBounds,List.eraseIdx_eq_take_drop_succ,List.set_eq_take_append_cons_drop,Yd (by simp;omega)]
 have hl:(pd.toList.take i).length=i:=by simp;omega
 rw[List.take_append,List.drop_append,hl,(by omega:i+1-i=1),(by omega:i+1+1-i=2),List.take_of_length_le (l:=pd.toList.take i) ⋯,List.drop_of_length_le (l:=pd.toList.take i) ⋯]
 simp
theorem Zhh (hc:Zfz prog w A s κ P ky) {pd:Array (Nat×Nat×Nat)}{g i lo:Nat} (hP:AllP P a) {Q:Bool->SortSt->Prop} (hi:i+1<pd.size) (hR:ZW ky a pd.toList 0 lo) (hlo:lo<=a.size)
  (hQ:∀a' pd' g',Chg a a' 0 lo->ZW ky a' pd'.toList 0 lo->pd'.size+1=pd.size->Q true (SortSt.mk' κ a' pd' g' none)) :
  wpS (model prog w) A E s (mergeAt' i) Q (SortSt.mk' κ a pd g none):=by
 have hl:i+1<pd.toList.length:=by simpa using hi
 have hR0:=hR
 rw[split2 hl]at hR
 obtain⟨y,r1,r2⟩:=ZW.app.mp hR
 obtain⟨e1,n1,s1,e2,n2,s2,r3⟩:=r2
 have le3:=r3.le
 have le1:=r1.le
 refine Zot hc hP (p:=pd.toList[i].2.2) (p':=pd.toList[i+1].2.2) (sa:=y) (na:=pd.toList[i].2.1) (sb:=y+pd.toList[i].2.1) (nb:=pd.toList[i+1].2.1) ?_ ?_ rfl n1 n2 ⋯ s1 s2 ?_
 .rw[<-YV,Yf ⋯,<-e1]
 .rw[<-YV,Yf ⋯,<-e2]
 .intro a' g' c so
  refine hQ _ _ _ (c.wide ⋯ ⋯) ?_ ?_
  .rw[ZpL hi]
   refine ZW.app.mpr ⟨y,r1.congr (λj _ j2=>c.kp (.inl j2)),rfl,by simp only;omega,?_,?_⟩
   .simp only;rw[<-Nat.add_assoc];exact so
   .simp only;rw[<-Nat.add_assoc];exact r3.congr (λj j1 _=>c.kp (.inr j1))
  .rw[<-Yp,ZpL hi]
   simp;omega
end
section
variable {ky:Keyed->Int}{prog:Program}{w:World}{A:Around}{E:Value->Shared->Prop}{s:Shared}{κ:SortKind}{P:Keyed->Prop}
theorem ZW.push {a:Array Keyed}{pd:Array (Nat×Nat×Nat)}{lo n p:Nat} (h:ZW ky a pd.toList 0 lo) (hn:1<=n) (hs:SoR ky a lo (lo+n)):ZW ky a (pd.push (lo,n,p)).toList 0 (lo+n):=by
 rw[Array.toList_push]
 exact ZW.app.mpr ⟨lo,h,rfl,hn,hs,rfl⟩
theorem Zm4 (hc:Zfz prog w A s κ P ky) {a:Array Keyed}{g:Nat}{Q:Unit->SortSt->Prop} (hP:AllP P a) (h2:1<=a.size)
  (hQ:∀st',(arrOf st').Perm a->failedOf st'=none->SoR ky (arrOf st') 0 a.size->Q () st') :
  wpS (model prog w) A E s sortRuns' Q (SortSt.mk' κ a #[] g none):=by
 rw[sortRuns'_eq]
 refine Yg (wpS_get ?_)
 refine Yg (wpS_mono (Q:=λ(c:Option Unit×Nat) (st':SortSt)=>∃a' pd' g',st'=SortSt.mk' κ a' pd' g' none/\c.1=none/\a'.Perm a/\ZW ky a' pd'.toList 0 a.size) (wpS_forRange (λ(t:Nat) (c:Option Unit×Nat) (st':SortSt)=>∃a' pd' g',st'=SortSt.mk' κ a' pd' g' none/\c.1=none/\a'.Perm a/\t<=c.2/\c.2<=a.size/\ZW ky a' pd'.toList 0 c.2) ?_ ?_ ⟨a,#[],g,rfl,rfl,Array.Perm.refl _,Yc _,Yq _,rfl⟩) ?_)
 .rintro t c st' _ ht ⟨a1,pd1,g1,rfl,e1,hp1,ht1,hlo,hR⟩
  have hsz:∀{b:Array Keyed},b.Perm a->b.size=a.size:=λh=>by
   have:=(Array.perm_iff_toList_perm.mp h).length_eq;simpa using this
  have hs1:=hsz hp1
  refine Zq (λh=>Yj ⟨a1,pd1,g1,rfl,rfl,hp1,?_⟩) (λh=>?_)
  .have e:c.2=a.size:=Nat.le_antisymm hlo h
   rw[<-e];exact hR
  have h:c.2<a.size:=Nat.lt_of_not_le h
  refine Yg (Zm3 hc (hP.perm hp1) (by show 1<=a.size-c.2;omega) (by show c.2+(a.size-c.2)<=a1.size;omega) ?_)
  intro m a2 m1 m2 c2 so2
  have m2:m<=a.size-c.2:=m2
  have hs2:=c2.size
  have hp2:=c2.perm.trans hp1
  refine Zq (λh3=>Yg (wpS_lift (wpAny_rule ⟨rfl,Yg (Zki hc (hP.perm hp2) (by show c.2+min (a.size-c.2) (minRun' a.size a.size 0)<=a2.size;omega) (by show m<=min (a.size-c.2) (minRun' a.size a.size 0);have:m<minRun' a.size a.size 0:=h3;omega) so2 ?_)⟩))) (λh3=>?_)
  focus
   intro a3 c3 so3
   refine Zq (λz=>by cases z) (λ_=>?_)
   have hp3:=c3.perm.trans hp2
   have R3:ZW ky a3 pd1.toList 0 c.2:=hR.congr (λi _ i2=>by rw[c3.kp (.inl i2),c2.kp (.inl i2)])
   have h3:m<minRun' a.size a.size 0:=h3
   have n3:1<=min (a.size-c.2) (minRun' a.size a.size 0):= ⋯
   have n4:c.2+min (a.size-c.2) (minRun' a.size a.size 0)<=a.size:= ⋯
  rotate_left
  focus
   have hp3:=hp2
   have so3:=so2
   have R3:ZW ky a2 pd1.toList 0 c.2:=hR.congr (λi _ i2=>by rw[c2.kp (.inl i2)])
   have n3:=m1
   have n4:c.2+m<=a.size:= ⋯
  all_goals
   have hs3:=hsz hp3
   refine Yg (wpS_get ?_)
   cases hb:pd1.back? with
   |none =>
    simp only[hb]
    exact Yg (wpS_modify (Yj ⟨_,_,_,rfl,rfl,hp3,by simp only;omega,n4,R3.push n3 so3⟩))
   |some b =>
    obtain⟨s1,n1,p1⟩:=b
    simp only[hb]
    refine Yg (wpS_mono (Q:=λ(c':Option Unit×Unit) (st':SortSt)=>∃a4 pd4 g4,st'=SortSt.mk' κ a4 pd4 g4 none/\c'.1=none/\Chg _ a4 0 c.2/\ZW ky a4 pd4.toList 0 c.2) (wpS_forRange (λ(t':Nat) (c':Option Unit×Unit) (st':SortSt)=>∃a4 pd4 g4,st'=SortSt.mk' κ a4 pd4 g4 none/\c'.1=none/\Chg _ a4 0 c.2/\ZW ky a4 pd4.toList 0 c.2) ?_ (λc' st' z=>z) ⟨_,pd1,g1,rfl,rfl,Chg.refl _ _ _,R3⟩) ?_)
    .rintro t' c' st' _ _ ⟨a4,pd4,g4,rfl,e4,c4,R4⟩
     have hp4:=c4.perm.trans hp3
     have hs4:=hsz hp4
     refine Yg (wpS_get ?_)
     by_cases hz:pd4.size>1
     .have hg:pd4[pd4.size-2]?=some (pd4[pd4.size-2]'⋯):=getElem?_pos _ _ _
      simp only[hz,if_true,hg]
      refine Zq (λ_=>Yj ⟨a4,pd4,g4,rfl,rfl,c4,R4⟩) (λ_=>Yg (Zhh hc (hP.perm hp4) (by show pd4.size-2+1<pd4.size;omega) R4 ⋯ ?_))
      intro a5 pd5 g5 c5 R5 _
      exact Zq (λz=>by cases z) (λ_=>Yj ⟨a5,pd5,g5,rfl,rfl,c4.trans c5,R5⟩)
     .simp only[hz,if_false]
      exact Yj ⟨a4,pd4,g4,rfl,rfl,c4,R4⟩
    .rintro⟨r,u⟩ st' ⟨a4,pd4,g4,rfl,e4,c4,R4⟩
     simp only at e4
     subst e4
     refine Yg (wpS_modify (Yg (wpS_modify (Yj ⟨_,_,_,rfl,rfl,c4.perm.trans hp3,by simp only;omega,n4,?_⟩))))
     refine ZW.push (R4.Zsm ?_) n3 (so3.congr (λi i1 _=>c4.kp (.inr i1)))
     rw[Array.toList_modify]
     apply List.ext_getElem?
     intro i
     simp only[YE,List.getElem?_modify]
     cases pd4.toList[i]? with
     |none=>rfl
     |some v=>simp only[Option.map_some];split<;>rfl
 .rintro c st' ⟨a1,pd1,g1,rfl,e1,hp1,ht1,hlo,hR⟩
  have e:c.2=a.size:=by
   have:max 0 a.size=a.size:= ⋯
   simp only[this]at ht1;omega
  exact⟨a1,pd1,g1,rfl,e1,hp1,e▸hR⟩
 .rintro⟨r,lo⟩ st' ⟨a1,pd1,g1,rfl,e1,hp1,hR⟩
  have hsz:∀{b:Array Keyed},b.Perm a->b.size=a.size:=λh=>by
   have:=(Array.perm_iff_toList_perm.mp h).length_eq;simpa using this
  simp only at e1
  subst e1
  have hle:=hR.le
  simp only[Yp,Nat.zero_add]at hle
  refine Yg (wpS_mono (Q:=λ(c':Option Unit×Unit) (st':SortSt)=>∃a4 pd4 g4,st'=SortSt.mk' κ a4 pd4 g4 none/\c'.1=none/\a4.Perm a/\ZW ky a4 pd4.toList 0 a.size/\pd4.size<=1) (wpS_forRange (λ(t':Nat) (c':Option Unit×Unit) (st':SortSt)=>∃a4 pd4 g4,st'=SortSt.mk' κ a4 pd4 g4 none/\c'.1=none/\a4.Perm a/\ZW ky a4 pd4.toList 0 a.size/\pd4.size<=max 1 (a.size-t')) ?_ ?_ ⟨_,pd1,g1,rfl,rfl,hp1,hR,⋯⟩) ?_)
  .rintro t' c' st' _ _ ⟨a4,pd4,g4,rfl,e4,hp4,R4,z4⟩
   have hs4:=hsz hp4
   refine Yg (wpS_get (Zq (λhz=>Yj ⟨a4,pd4,g4,rfl,rfl,hp4,R4,hz⟩) (λhz=>?_)))
   have hz:¬ pd4.size<=1:=hz
   refine Yg (Zhh hc (hP.perm hp4) ?_ R4 ⋯ ?_)
   .show(if _ then pd4.size-2-1 else pd4.size-2)+1<pd4.size
    have two:∀(c:Prop) [Decidable c],(if c then pd4.size-2-1 else pd4.size-2)+1<pd4.size:=λc _=>by split<;>omega
    exact two _
   .intro a5 pd5 g5 c5 R5 z5
    exact Zq (λz=>by cases z) (λ_=>Yj ⟨a5,pd5,g5,rfl,rfl,c5.perm.trans hp4,R5,⋯⟩)
  .rintro c' st' ⟨a4,pd4,g4,rfl,e4,hp4,R4,z4⟩
   have z4:pd4.size<=max 1 (a.size-max 0 a.size):=z4
   exact⟨a4,pd4,g4,rfl,e4,hp4,R4,⋯⟩
  .rintro⟨r,u⟩ st' ⟨a4,pd4,g4,rfl,e4,hp4,R4,z4⟩
   simp only at e4
   subst e4
   refine Yj (hQ _ hp4 rfl ?_)
   show SoR ky a4 0 a.size
   have zl:pd4.toList.length<=1:=by simpa using z4
   match hl:pd4.toList,zl with
   |[],_=>rw[hl]at R4;have:0=a.size:=R4;omega
   |[r],_=>rw[hl]at R4;obtain⟨_,_,so,e⟩:=R4;have e:0+r.2.1=a.size:=e;rw[e]at so;exact so
   |_::_::_,z=>simp at z
end
section
variable {prog:Program}{w:World}{E:Value->Shared->Prop}{s:Shared}
theorem Zsn {α β:Type}{f:α->β}:∀{l l':List β},l'.Perm l->∀q0:List α,l=q0.map f->∃q:List α,q.Perm q0/\l'=q.map f:=by
 intro l l' h
 induction h with
 |nil=>intro q0 e;exact⟨q0,.refl _,e⟩
 |cons x h ih =>
  intro q0 e
  cases q0 with
  |nil=>cases e
  |cons a q0 =>
   rw[YR]at e
   obtain⟨e1,e2⟩:=List.cons.inj e
   obtain⟨q,hq,e3⟩:=ih q0 e2
   exact⟨a::q,hq.cons a,by rw[YR,<-e3,e1]⟩
 |swap x y l =>
  intro q0 e
  cases q0 with
  |nil=>cases e
  |cons a q0 =>
   cases q0 with
   |nil=>simp at e
   |cons b q0 =>
    simp only[YR,List.cons.injEq]at e
    exact⟨b::a::q0,List.Perm.swap a b q0,by simp only[YR];rw[e.1,e.2.1,e.2.2]⟩
 |trans h1 h2 ih1 ih2 =>
  intro q0 e
  obtain⟨q,hq,e2⟩:=ih2 q0 e
  obtain⟨q',hq',e3⟩:=ih1 q e2
  exact⟨q',hq'.trans hq,e3⟩
theorem Zso {A:Around}{κ:SortKind}{key:Nat->Int}{vs:List Value} (h2:2<=vs.length) (ha:Zfe vs.length key (kas_ask prog w A κ vs) s) (hk:∀i j,i<vs.length->j<vs.length->vs.getD i .none=vs.getD j .none->key i=key j) :
  wpAny (model prog w) A (sortRuns'.run (SortSt.mk' κ (vs.toArray.zip vs.toArray) #[] 7 none)) (λr s'=>∃p:Array Nat,Bd vs.length p/\SoT key p vs.length/\arrOf r.2=p.map (kas_item (vs.toArray.zip vs.toArray))/\failedOf r.2=none/\s'=s) E s:=by
 have hsz:(vs.toArray.zip vs.toArray).size=vs.length:=by simp
 have hitem:∀i,i<vs.length->kas_item (vs.toArray.zip vs.toArray) i=(vs.getD i .none,vs.getD i .none):=by
  intro i hi
  unfold kas_item
  rw[YI,getElem?_pos _ i ⋯]
  simp[hi]
 let P:Keyed->Prop:=λx=>∃i,i<vs.length/\x=(vs.getD i .none,vs.getD i .none)
 let ky:Keyed->Int:=λx=>@dite _ (P x) (Y3 _) (λh=>key (Classical.choose h)) (λ_=>0)
 have hky:∀i,i<vs.length->ky (vs.getD i .none,vs.getD i .none)=key i:=by
  intro i hi
  have hp:P (vs.getD i .none,vs.getD i .none):=⟨i,hi,rfl⟩
  show @dite _ (P _) (Y3 _) _ _=_
  rw[dif_pos hp]
  have:=Classical.choose_spec hp
  exact hk _ _ this.1 hi (Prod.mk.inj this.2).1.symm
 have hc:Zfz prog w A s κ P ky:=by
  rintro x y ⟨i,hi,rfl⟩ ⟨j,hj,rfl⟩ C hC
  rw[hky i hi,hky j hj]at hC
  exact ha i j C hi hj hC
 have hP:AllP P (vs.toArray.zip vs.toArray):=by
  intro x hx
  obtain⟨i,hi,e⟩:=Array.mem_iff_getElem.mp hx
  rw[hsz]at hi
  refine⟨i,hi,?_⟩
  rw[<-e];simp[hi]
 refine YJ (Zm4 (E:=E) hc hP ⋯ (Q:=λ_ st'=>(arrOf st').Perm (vs.toArray.zip vs.toArray)/\failedOf st'=none/\SoR ky (arrOf st') 0 vs.length) (λst' h1 h2 h3=>⟨h1,h2,hsz▸h3⟩)) ?_ (λ_ _ z=>z)
 rintro⟨u,st'⟩ s' ⟨rfl,hp,hf,hS⟩
 have e0:(vs.toArray.zip vs.toArray).toList=(List.range vs.length).map (kas_item (vs.toArray.zip vs.toArray)):=by
  refine List.ext_getElem (by simp) λi i1 i2=>?_
  have hi:i<vs.length:=by simpa using i2
  rw[List.getElem_map,List.getElem_range,hitem i hi]
  simp[hi]
 obtain⟨q,hq,e⟩:=Zsn (Array.perm_iff_toList_perm.mp hp) _ e0
 have hB:Bd vs.length q.toArray:=Array.perm_iff_toList_perm.mpr (by simpa using hq)
 have harr:arrOf st'=q.toArray.map (kas_item (vs.toArray.zip vs.toArray)):=by
  apply Array.toList_inj.mp
  rw[e];simp
 refine⟨q.toArray,hB,?_,harr,hf,rfl⟩
 intro i j hij hj
 have hql:q.toArray.size=vs.length:=hB.size
 have hat:∀t,t<vs.length->kp ky (arrOf st') t=kk key q.toArray t:=by
  intro t ht
  have hb:q.toArray.getD t 0<vs.length:=hB.lt ⋯ t
  unfold kk
  rw[<-hky _ hb,<-hitem _ hb]
  unfold kp
  rw[harr]
  have ht2:t<(q.toArray.map (kas_item (vs.toArray.zip vs.toArray))).size:=by rw[Array.size_map];omega
  rw[YI,getElem?_pos _ t ht2,Array.getElem_map,YI,getElem?_pos q.toArray t ⋯]
  rfl
 rw[<-hat i ⋯,<-hat j hj]
 exact hS i j (Yq _) hij hj
theorem Zou {A:Around}{κ:SortKind}{key:Nat->Int}{a:Addr}{vs:List Value}{n:Nat}{P:PySem.Fin->Shared->Prop} (ho:s.heap.get? a=some (seqObj "list" vs.toArray n)) (h64:vs.length<=100000) (hcs:∀i j,i<vs.length->j<vs.length->vs.getD i .none=vs.getD j .none->key i=key j)
  (hk:∀s':Shared,(∀b o,b≠a->s.heap.get? b=some o->s'.heap.get? b=some o)->2<=vs.length->(∀Q:SortKind->Shared->Prop,Q κ s'->wpAny (model prog w) A (keyKind' vs.toArray) Q E s')/\Zfe vs.length key (kas_ask prog w A κ vs) s')
  (fin:∀p:Array Nat,Bd vs.length p->SoT key p vs.length->P (.done (.ret .none)) {s with heap:=sortedHeap s.heap a vs (Zcn vs p)}):wpAny (model prog w) A (Builtin.«list.sort» ⟨[.ref a],[]⟩) P E s:=by
 have lt:=Yl ho
 obtain⟨c1,oc1⟩:∃c1,(s.heap.update a (Obj.mapSeq λ_=>#[])).get? a=some (seqObj "list" #[] c1):=⟨_,get?_update_seq ho λ_=>#[]⟩
 have oc6:(((s.heap.update a (Obj.mapSeq λ_=>#[])).push (seqObj "tuple" vs.toArray 0)).push (seqObj "list" #[] 0)).get? a=some (seqObj "list" #[] c1):=Ym _ (Ym _ oc1)
 have kp:∀b o,b≠a->s.heap.get? b=some o->(((s.heap.update a (Obj.mapSeq λ_=>#[])).push (seqObj "tuple" vs.toArray 0)).push (seqObj "list" #[] 0)).get? b=some o:=λb o nb e =>
  Ym _ (Ym _ (by rw[Heap.get?_update_ne _ _ _ _ nb];exact e))
 have z1:vs.toArray.size=vs.length:=Ys ..
 have za:∀p:Array Nat,Bd vs.length p->(Zcn vs p).size<=sizeLine:=λp hp=>by
  have:=hp.size
  unfold Zcn
  rw[Ys,Yi,Yp,this,sizeLine_eq];omega
 rw[list_sort_plain]
 have hob:=ho
 refine Ya (listItems_at hob rfl (Ya ?_))
 refine listUpdate_at hob rfl (Ya (seqEpoch_at oc1 rfl (Ya ?_))) (by rw[z1,sizeLine_eq];omega) (Yq _)
 refine wpAny_newTuple (Ya ?_) (Yr h64 nofun)
 refine wpAny_newList (YH ?_) (Yq _)
 show wpAny (model prog w) A _ P E {s with heap:=(((s.heap.update a (Obj.mapSeq λ_=>#[])).push (seqObj "tuple" vs.toArray 0)).push (seqObj "list" #[] 0))}
 dsimp only
 by_cases h2:vs.toArray.size<2
 .rw[Yd h2,Yd h2]
  refine Ya (Ye ?_)
  rw[StateT.run_pure]
  refine Ya (Ye ?_)
  have hB:Bd vs.length (List.range vs.length).toArray:=Array.Perm.refl _
  have e:=kas_range (vs.toArray.zip vs.toArray)
  rw[show(vs.toArray.zip vs.toArray).size=vs.length by simp]at e
  have eo:(arrOf (SortSt.mk' general' (vs.toArray.zip vs.toArray) #[] 7 none)).map (·.2)=Zcn vs (List.range vs.length).toArray:=kat_snds (ks:=vs) (vs:=vs) rfl e.symm
  dsimp only
  rw[eo]
  refine Ya (seqEpoch_at oc6 rfl (Ya (listUpdate_at oc6 rfl ?_ (Yq _) (Nat.le_succ_of_le (za _ hB)))))
  simp only[bne_self_eq_false,Bool.false_eq_true,if_false]
  exact Ye (fin _ hB λi j h1 hj=>by rw[show i=j by omega];exact Int.le_refl _)
 .rw[Yb h2,Yb h2]
  have h2':2<=vs.length:= ⋯
  obtain⟨hk1,hk2⟩:=hk {s with heap:=(((s.heap.update a (Obj.mapSeq λ_=>#[])).push (seqObj "tuple" vs.toArray 0)).push (seqObj "list" #[] 0))} kp h2'
  refine Ya (hk1 _ (Ya (YJ (Zso h2' hk2 hcs) ?_ λ_ _ z=>z)))
  rintro⟨⟨⟩,st⟩ s' ⟨p,b1,b2,har,hf,rfl⟩
  have eo:(arrOf st).map (·.2)=Zcn vs p:=kat_snds (ks:=vs) (vs:=vs) rfl har
  dsimp only
  rw[eo]
  refine Ya (seqEpoch_at oc6 rfl (Ya (listUpdate_at oc6 rfl ?_ (Yq _) (Nat.le_succ_of_le (za _ b1)))))
  rw[hf]
  simp only[bne_self_eq_false,Bool.false_eq_true,if_false]
  exact Ye (fin p b1 b2)
theorem Zu2 {A:Around}{κ:SortKind}{key:Nat->Int}{l:Addr}{vs:List Value}{Q:Value->Shared->Prop} (hl:s.heap.IsList l vs.toArray) (h64:vs.length<=100000) (hcs:∀i j,i<vs.length->j<vs.length->vs.getD i .none=vs.getD j .none->key i=key j)
  (hk:∀(A':Around) (E':Value->Shared->Prop) (s':Shared),(∀b o,s.heap.get? b=some o->s'.heap.get? b=some o)->2<=vs.length->(∀Q:SortKind->Shared->Prop,Q κ s'->wpAny (model prog w) A' (keyKind' vs.toArray) Q E' s')/\Zfe vs.length key (kas_ask prog w A' κ vs) s')
  (fin:∀p:Array Nat,Bd vs.length p->SoT key p vs.length->Q (.ref (s.heap.objs.size+1)) {s with heap:=sortedAll s.heap vs (Zcn vs p)}):wpAny (model prog w) A (call (.builtin "sorted") [.ref l]) Q E s:=by
 refine Calls.call_function_entry kind_sorted plain_sorted entry_sorted (args_sorted1 _) ?_
 unfold Builtin.«sorted»
 refine Ya (m:=checkCount "sorted" 1 1 _) (Ye (Ya (collect_list hl (Ya (wpAny_newList ?_ (by rw[sizeLine_eq];omega))) (by rw[sizeLine_eq];omega))))
 have z5:((s.heap.push (seqObj "list" #[] 0)).update s.heap.objs.size (Obj.mapSeq (·++vs.toArray))).objs.size=s.heap.objs.size+1:=(Heap.size_update ..).trans (size_push' ..)
 have o5:(((s.heap.push (seqObj "list" #[] 0)).update s.heap.objs.size (Obj.mapSeq (·++vs.toArray))).push (seqObj "list" vs.toArray 0)).get? (s.heap.objs.size+1)=some (seqObj "list" vs.toArray 0):=z5▸YC _ rfl
 have kp:∀b o,s.heap.get? b=some o->(((s.heap.push (seqObj "list" #[] 0)).update s.heap.objs.size (Obj.mapSeq (·++vs.toArray))).push (seqObj "list" vs.toArray 0)).get? b=some o:=λb o e=>by
  have hlt:=Yl e
  refine Ym _ ?_
  rw[Heap.get?_update_ne _ _ _ _ (Yo hlt)]
  exact Ym _ e
 show wpAny _ _ _ _ _ {s with heap:=(((s.heap.push (seqObj "list" #[] 0)).update s.heap.objs.size (Obj.mapSeq (·++vs.toArray))).push (seqObj "list" vs.toArray 0))}
 rw[z5]
 refine Ya (YH (wpAny_call_entry slot_list_sort ⟨_,o5,rfl⟩ entry_list_sort (Zou (κ:=κ) (key:=key) o5 h64 hcs (λs' k6 h2=>hk _ _ s' (λb o e=>k6 b o (Yo (YU (Yl e))) (kp b o e)) h2) λp b1 b2=>⟨_,rfl,?_⟩) (args_list_sort _)))
 exact Ye ⟨_,rfl,fin p b1 b2⟩
end
section
variable {X:Cx}
noncomputable def ZlZ (K:Frag):List V->Hp->VK->Prop:=λxs H Q=>∃(p:Addr) (rs:List (List Int)),xs=[.ref p]/\Zo H p rs/\(∀r∈rs,∃x y,r=[x,y]/\0<=y/\y<100000)/\rs.length<=100000/\∀(rs':List (List Int)) (l:Addr) (H':Hp),rs'.Perm rs->rs'.Pairwise (λr r'=>Zem r<=Zem r')->H l=none->Zd H H'->Zo H' l rs'->Q (.ref l) H'
theorem Zkj {K:Frag} (hK:X.K=K):Za1 X (.builtin "sorted") (ZlZ K):=by
 subst hK
 intro pins s σ H xs us Q I r h
 obtain⟨p,rs,rfl,⟨as,hp,hla,hT⟩,hR,hn,q⟩:=h
 obtain⟨u,rfl,ru⟩:=r.one
 cases(show u=Value.ref p from ru)
 obtain⟨its,rv,pl,hz⟩:=I.list (SqL.of hp)
 have hl:its.length=rs.length:=by have:=rv.length;rw[Yi]at this;omega
 have hits:∀i (h1:i<its.length) (h2:i<as.length),its[i]=Value.ref as[i]:=λi h1 h2=>by
  obtain⟨v,e1,e2⟩:=rv.get (i:=i) (x:=V.ref as[i]) (by rw[YE,Yf h2];rfl)
  rw[Yf h1]at e1
  cases e1
  exact e2
 have hPr:∀i (h1:i<its.length) (h2:i<rs.length),∃x y,rs[i]=[x,y]/\0<=y/\y<100000/\Pr s.heap its[i] x y:=λi h1 h2=>by
  obtain⟨x,y,e,y0,y1⟩:=hR _ (YF h2)
  obtain⟨_,tv,hv,o,g,c,n,d⟩:=I.hok _ _ (hT i ⋯ h2)
  rw[e]at hv
  obtain⟨v1,v2,rfl,⟨t1,rfl⟩,⟨t2,rfl⟩⟩:=hv.two
  exact⟨x,y,e,y0,y1,as[i]'⋯,o,n,t1,t2,hits i h1 ⋯,g,c,d⟩
 have hPm:∀v∈its,∃x y,Pr s.heap v x y:=λv hv=>by
  obtain⟨i,h1,rfl⟩:=YZ hv
  obtain⟨x,y,_,_,_,hp⟩:=hPr i h1 ⋯
  exact⟨x,y,hp⟩
 refine Zu2 (κ:=tuples' true) (key:=λi=>Zem (rs.getD i [])) pl.isList ⋯ ?_ (λA' E' s' kp h2=>⟨λQ' hq=>Zoh h2 (λv hv=>?_) hq,λi j C hi hj hC=>?_⟩) λp' hB hS=>?_
 .intro i j hi hj e
  obtain⟨x,y,e1,_,_,a1,o1,n1,t1,u1,q1,q2,_,q3⟩:=hPr i hi ⋯
  obtain⟨x',y',e1',_,_,a1',o1',n1',t1',u1',q1',q2',_,q3'⟩:=hPr j hj ⋯
  have e2:its[i]=its[j]:=by simpa[hi,hj]using e
  rw[q1,q1']at e2
  cases e2
  rw[q2]at q2'
  cases q2'
  rw[q3]at q3'
  have ei:rs.getD i []=[x,y]:=by simp[Yh,show i<rs.length by omega,e1]
  have ej:rs.getD j []=[x',y']:=by simp[Yh,show j<rs.length by omega,e1']
  cases q3'
  simp only[ei,ej]
 .obtain⟨x,y,hp⟩:=hPm v hv
  exact⟨x,y,hp.keep kp⟩
 .obtain⟨x,y,e,y0,y1,hp1⟩:=hPr i hi ⋯
  obtain⟨x',y',e',y0',y1',hp2⟩:=hPr j hj ⋯
  unfold kas_ask
  rw[show its.getD i Value.none=its[i] by simp[hi],show its.getD j Value.none=its[j] by simp[hj]]
  refine Zr7 (hp1.keep kp) (hp2.keep kp) ?_
  have ei:Zem (rs.getD i [])=x*100000+y:=by simp[Zem,Yh,show i<rs.length by omega,e]
  have ej:Zem (rs.getD j [])=x'*100000+y':=by simp[Zem,Yh,show j<rs.length by omega,e']
  have:decide (Zem (rs.getD i [])<Zem (rs.getD j []))=decide (x<x'\/(x=x'/\y<y')):=by rw[ei,ej];exact decide_eq_decide.mpr ⋯
  rw[<-this];exact hC
 .have hsz:p'.size=rs.length:=hB.size.trans hl
  have hlt:∀i∈p'.toList,i<rs.length:=λi hi=>by
   have:=(Array.perm_iff_toList_perm.mp hB).mem_iff.mp hi
   simpa[hl]using this
  have sm:Zd H (upd H (s.heap.objs.size+1) (.lst ((p'.toList.map λi=>as.getD i 0).map V.ref))):=(Zd.refl H).upd (I.hok.fresh (Y5 _))
  refine⟨.ref (s.heap.objs.size+1),_,I.laid (t':=s.toks) (a:=s.heap.objs.size+1) (o:=.lst ((p'.toList.map λi=>as.getD i 0).map V.ref)) (λb o e=>sortedAll_old e) (Y5 _) ?_,rfl,q (p'.toList.map λi=>rs.getD i []) _ _ ?_ ?_ (I.hok.fresh (Y5 _)) sm ⟨_,Zc,by simp,λi i1 i2=>sm _ _ ?_⟩⟩
  .obtain⟨n,e⟩:=sortedAll_at s.heap its (Zcn its p')
   refine⟨Yr (show _<=100000 by simp;omega) nofun,(Zcn its p').toList,n,?_,by rw[e]⟩
   have key:∀(l:List Nat),(∀i∈l,i<rs.length)->Vals ((l.map λi=>as.getD i 0).map V.ref) (l.map λi=>its.getD i Value.none):=by
    intro l
    induction l with
    |nil=>intro _;exact .nil
    |cons a l ih =>
     intro hl'
     refine .cons ?_ (ih λi hi=>hl' i (Yu _ hi))
     have ha:=hl' a Yv
     have h1:a<its.length:= ⋯
     have h2:a<as.length:= ⋯
     show its.getD a Value.none=Value.ref (as.getD a 0)
     rw[show its.getD a Value.none=its[a] by simp[h1],show as.getD a 0=as[a] by simp[h2]]
     exact hits a h1 h2
   exact key _ hlt
  .have:=(Array.perm_iff_toList_perm.mp hB).map λi=>rs.getD i []
   refine this.trans ?_
   have e:((List.range its.length).toArray.toList.map λi=>rs.getD i [])=rs:=by
    rw[hl]
    refine List.ext_getElem (by simp) λi i1 i2=>?_
    have:i<rs.length:=i2
    simp[Yh,this]
   rw[e]
  .rw[List.pairwise_iff_getElem]
   intro i j i1 j1 hij
   have i2:i<p'.size:=by simpa using i1
   have j2:j<p'.size:=by simpa using j1
   have:=hS i j ⋯ ⋯
   unfold kk at this
   rw[YI,YI,getElem?_pos p' i i2,getElem?_pos p' j j2]at this
   simpa using this
  .have i3:i<p'.toList.length:=by simpa using i1
   have hi:=hlt _ (YF i3)
   have h2:p'.toList[i]<as.length:= ⋯
   have:=hT _ h2 hi
   have e1:(p'.toList.map λi=>as.getD i 0)[i]'(by simpa using i1)=as[p'.toList[i]]:=by rw[List.getElem_map,Yh,Yf h2];rfl
   have e2:(p'.toList.map λi=>rs.getD i [])[i]'(by simpa using i2)=rs[p'.toList[i]]:=by rw[List.getElem_map,Yh,Yf hi];rfl
   rw[e1,e2];exact this
end
end Lake
namespace Lake
open PySem PySem.Spec PyProof.Rows
end Lake
namespace Lake
open PySem PySem.Spec PyProof.Rows PySem.W
noncomputable def ZaM (H:Hp) (acc:List V) (rs:List (List Int)):Prop:=∃as:List Addr,acc=as.map V.ref/\as.length=rs.length/\∀i (h1:i<as.length) (h2:i<rs.length),H as[i]=some (.tup (rs[i].map V.int))
theorem ZaM.nil {H:Hp}:ZaM H [] []:=⟨[],rfl,rfl,λi h=>absurd h (by simp)⟩
theorem ZaM.same {H H':Hp}{acc:List V}{rs:List (List Int)} (h:ZaM H acc rs) (s:Zd H H'):ZaM H' acc rs:=by
 obtain⟨as,e,l,k⟩:=h
 exact⟨as,e,l,λi h1 h2=>s _ _ (k i h1 h2)⟩
theorem ZaM.len {H:Hp}{acc:List V}{rs:List (List Int)} (h:ZaM H acc rs):acc.length=rs.length:=by
 obtain⟨as,e,l,k⟩:=h
 rw[e,Yi,l]
theorem ZaM.snoc {H:Hp}{acc:List V}{rs:List (List Int)}{u:Addr}{r:List Int} (h:ZaM H acc rs) (hu:H u=some (.tup (r.map V.int))):ZaM H (acc++[V.ref u]) (rs++[r]):=by
 obtain⟨as,e,l,k⟩:=h
 refine⟨as++[u],by rw[e];simp,by simp[l],λi h1 h2=>?_⟩
 by_cases c:i<as.length
 .rw[Jk c,Jk ⋯];exact k i c ⋯
 .have:i=as.length:=by simp at h1;omega
  subst this
  rw[List.getElem_concat_length,Jm ⋯]
  simpa[l]using hu
  rfl
theorem ZaM.at {H:Hp}{acc:List V}{rs:List (List Int)}{l:Addr} (h:ZaM H acc rs) (hl:H l=none):Zo (upd H l (.lst acc)) l rs:=by
 obtain⟨as,e,ln,k⟩:=h
 refine⟨as,by rw[Zc,e],ln,λi h1 h2=>?_⟩
 rw[Zh (λz=>by have:=k i h1 h2;rw[z,hl]at this;cases this)]
 exact k i h1 h2
end Lake
namespace Lake
open PySem PySem.Spec PyProof.Rows PySem.W PySem.Calls
end Lake
namespace Lake
open PySem PySem.Spec PyProof.Rows PySem.W
section
variable {X:Cx}{a b:Expr}{rest:List Expr}{ta tb:TE}{pos:Pos}
noncomputable def tOrT (K:Frag) (ta tb:TE):TE:=fun σ H Q=>ta σ H λx H1=>∃k,TruV K x H1 k/\if k=true then Q x H1 else tb σ H1 Q
theorem pe_orT {K:Frag} (hK:X.K=K) (ha:PE X a ta) (hb:PE X (.BoolOp .Or (b::rest) pos) tb):PE X (.BoolOp .Or (a::b::rest) pos) (tOrT K ta tb):=by
 subst hK
 intro pins s σ H Q I h
 refine BoolOp_or (thn (ha pins s σ H _ I h) λv s1 ⟨x,H1,I1,r1,k,hk,q1⟩=>?_)
 refine thn (tru_ok pins s1 σ H1 x v (λc H'=>if c=true then Q x H' else tb σ H' Q) I1 r1 ⟨k,hk,q1⟩) λc s2 ⟨H2,I2,q2⟩=>?_
 cases c with
 |true=>exact⟨x,H2,I2,r1,q2⟩
 |false=>exact hb pins s2 σ H2 Q I2 q2
end
noncomputable def lxI:List Int->List Int->Bool
 |[],[]=>false
 |[],_::_=>true
 |_::_,[]=>false
 |x::xs,y::ys=>if x=y then lxI xs ys else decide (x<y)
theorem Zbg (x y:Int) (xs ys:List Int):lxI (x::xs) (y::ys)=if x=y then lxI xs ys else decide (x<y):=rfl
theorem ZpM:∀xs:List Int,lxI xs xs=false
 |[]=>rfl
 |x::xs=>by rw[Zbg,Yd rfl];exact ZpM xs
theorem Zov:∀{xs ys zs:List Int},lxI xs ys=true->lxI ys zs=true->lxI xs zs=true
 |[],[],zs,h,_=>by cases h
 |[],y::ys,[],_,h=>by cases h
 |[],y::ys,z::zs,_,_=>rfl
 |x::xs,[],zs,h,_=>by cases h
 |x::xs,y::ys,[],_,h=>by cases h
 |x::xs,y::ys,z::zs,h1,h2=>by
  rw[Zbg]at h1 h2⊢
  by_cases a:x=y
  .by_cases b:y=z
   .rw[Yd a]at h1;rw[Yd b]at h2;rw[Yd (a.trans b)];exact Zov h1 h2
   .rw[Yb b]at h2
    have:=YT h2
    rw[Yb ⋯];exact Yt ⋯
  .rw[Yb a]at h1
   have:=YT h1
   by_cases b:y=z
   .rw[Yb ⋯];exact Yt ⋯
   .rw[Yb b]at h2
    have:=YT h2
    rw[Yb ⋯];exact Yt ⋯
theorem ZpN:∀{xs ys:List Int},lxI xs ys=false->lxI ys xs=false->xs=ys
 |[],[],_,_=>rfl
 |[],y::ys,h,_=>by cases h
 |x::xs,[],_,h=>by cases h
 |x::xs,y::ys,h1,h2=>by
  rw[Zbg]at h1 h2
  by_cases a:x=y
  .rw[Yd a]at h1;rw[Yd a.symm]at h2;rw[a,ZpN h1 h2]
  .rw[Yb a]at h1;rw[Yb (Ne.symm a)]at h2
   have:=of_decide_eq_false h1;have:=of_decide_eq_false h2;omega
theorem Zl0 {p q:Nat->Bool}:∀l:List Nat,(∀a∈l,p a=true->q a=true)->(l.filter p).length<=(l.filter q).length
 |[],_=>Yc _
 |a::l,h=>by
  have ih:=Zl0 l λb hb=>h b (Yu _ hb)
  have ha:=h a Yv
  rw[List.filter_cons,List.filter_cons]
  cases e:p a
  .cases q a<;>simp<;>omega
  .rw[ha e];simp;omega
theorem ZpO {p q:Nat->Bool}{b:Nat} (hp:p b=false) (hq:q b=true):∀l:List Nat,b∈l->(∀a∈l,p a=true->q a=true)->(l.filter p).length<(l.filter q).length
 |[],hb,_=>by cases hb
 |a::l,hb,h=>by
  have h':∀b∈l,p b=true->q b=true:=λb hb=>h b (Yu _ hb)
  have ha:=h a Yv
  rw[List.filter_cons,List.filter_cons]
  rcases Yk.mp hb with rfl|hb
  .have:=Zl0 l h'
   rw[hp,hq];simp;omega
  .have ih:=ZpO hp hq l hb h'
   cases e:p a
   .cases q a<;>simp<;>omega
   .rw[ha e];simp;omega
noncomputable def Zin (rs:List (List Int)) (r:List Int):Int:=(((List.range rs.length).filter λj=>lxI (rs.getD j []) r).length:Nat)
theorem Zm5 {rs:List (List Int)}{i j:Nat} (hi:i<rs.length) (hj:j<rs.length):decide (Zin rs (rs.getD i [])<Zin rs (rs.getD j []))=lxI (rs.getD i []) (rs.getD j []):=by
 unfold Zin
 cases e:lxI (rs.getD i []) (rs.getD j [])
 .refine Yz λz=>?_
  have:=Zl0 (p:=λa=>lxI (rs.getD a []) (rs.getD j [])) (q:=λa=>lxI (rs.getD a []) (rs.getD i [])) (List.range rs.length) λa _ h=>by
   cases e2:lxI (rs.getD j []) (rs.getD i [])
   .rw[ZpN e e2];exact h
   .exact Zov h e2
  omega
 .refine Yt ?_
  have:=ZpO (p:=λa=>lxI (rs.getD a []) (rs.getD i [])) (q:=λa=>lxI (rs.getD a []) (rs.getD j [])) (b:=i) (ZpM _) e (List.range rs.length) (Yy.mpr hi) λa _ h=>Zov h e
  omega
section
variable {prog:Program}{w:World}{E:Value->Shared->Prop}{s:Shared}
noncomputable def PtW (h:Heap) (v:Value) (r:List Int):Prop:=∃a o n vs,v=.ref a/\h.get? a=some o/\o.cls=.type "tuple"/\o.data=.seq vs n/\IntsAre vs.toList r
theorem PtW.keep {h h':Heap}{v:Value}{r:List Int} (p:PtW h v r) (k:∀b o,h.get? b=some o->h'.get? b=some o):PtW h' v r:=by
 obtain⟨a,o,n,vs,e,g,q⟩:=p
 exact⟨a,o,n,vs,e,k _ _ g,q⟩
theorem Zm6 {h:Heap}:∀{vs:List Value},(∀v∈vs,∃r,r≠[]/\PtW h v r)->∃fs,KatTups h vs fs/\fs.length=vs.length/\∀f∈fs,∃x t,f=Value.int x t
 |[],_=>⟨[],trivial,rfl,λf hf=>by cases hf⟩
 |v::vs,hv=>by
  obtain⟨fs,h1,h2,h3⟩:=Zm6 (λu hu=>hv u (Yu _ hu))
  obtain⟨r,hr,a,o,n,us,rfl,e,c,d,hi⟩:=hv v Yv
  obtain⟨us⟩:=us
  cases hi with
  |nil=>exact absurd rfl hr
  |cons x t hi' =>
   refine⟨.int x t::fs,KatTups.cons e c d rfl h1,by simp[h2],λf hf=>?_⟩
   rcases Yk.mp hf with rfl|hf
   .exact⟨x,t,rfl⟩
   .exact h3 f hf
theorem Zow {A:Around}{vs:List Value}{Q:SortKind->Shared->Prop} (h2:2<=vs.length) (hv:∀v∈vs,∃r,r≠[]/\PtW s.heap v r) (h:Q (tuples' true) s):wpAny (model prog w) A (keyKind' vs.toArray) Q E s:=by
 obtain⟨fs,h1,hl,h3⟩:=Zm6 hv
 refine kat_kind h1 ⋯ (T:=.type "int") (λf hf=>?_) nofun ?_
 .obtain⟨x,t,rfl⟩:=h3 f hf
  exact .now
 .rw[show(Value.type "int" != Value.type "tuple")=true by decide];exact h
theorem lexK {A:Around}{C:Bool->Shared->Prop}{fin:Bool}:∀{vs:List Value}{r:List Int}{vs':List Value}{r':List Int} (i:Nat),IntsAre vs r->IntsAre vs' r'->((vs.length<=vs'.length/\fin=decide (vs.length<vs'.length))\/(vs'.length<vs.length/\fin=false))->C (lxI r r') s->KatLex prog w A true fin C (vs.zip vs') i s
 |_,_,_,_,i,.nil,.nil,hf,h=>by
  rw[List.zip_nil_left]
  refine kat_nil ?_
  have:fin=false:=by rcases hf with⟨_,e⟩|⟨_,e⟩<;>simpa using e
  rw[this];exact h
 |_,_,_,_,i,.nil,.cons y t' _,hf,h=>by
  rw[List.zip_nil_left]
  refine kat_nil ?_
  have:fin=true:=by rcases hf with⟨_,e⟩|⟨z,e⟩<;>simp_all
  rw[this];exact h
 |_,_,_,_,i,.cons x t _,.nil,hf,h=>by
  rw[List.zip_nil_right]
  refine kat_nil ?_
  have:fin=false:=by rcases hf with⟨z,e⟩|⟨z,e⟩<;>simp_all
  rw[this];exact h
 |_,_,_,_,i,.cons x t hu,.cons y t' hu',hf,h=>by
  rw[List.zip_cons_cons]
  refine kat_cons (wpAny_eqBool_int ?_)
  rw[Zbg]at h
  by_cases e:x=y
  .rw[show(x==y)=true from beq_iff_eq.mpr e]
   rw[Yd e]at h
   exact kat_yes (lexK (i+1) hu hu' (by simpa using hf) h)
  .rw[show(x==y)=false from beq_eq_false_iff_ne.mpr e]
   rw[Yb e]at h
   refine kat_no ?_
   cases i with
   |zero=>exact oneLt_int h
   |succ i=>exact kat_one _ _ (PyProof.Rows.lt_int h)
theorem Zsp {A:Around}{v v':Value}{r r':List Int}{C:Bool->Shared->Prop} (p:PtW s.heap v r) (p':PtW s.heap v' r') (h:C (lxI r r') s):wpAny (model prog w) A (keyLt' (tuples' true) v v') C E s:=by
 obtain⟨a,o,n,vs,rfl,e,c,d,hi⟩:=p
 obtain⟨a',o',n',vs',rfl,e',c',d',hi'⟩:=p'
 refine kat_lt e d e' d' (lexK 0 hi hi' ?_ h)
 rw[Yp,Yp]
 by_cases z:vs.size<=vs'.size
 .exact .inl ⟨z,rfl⟩
 .exact .inr ⟨⋯,Yz ⋯⟩
end
theorem le1 {n:Nat}{us:List Value} (e:us.length=n+1):∃a t,us=a::t/\t.length=n:=by
 cases us with
 |nil=>cases e
 |cons a t=>exact⟨a,t,rfl,Nat.succ.inj e⟩
theorem le0 {us:List Value} (e:us.length=0):us=[]:=List.length_eq_zero_iff.mp e
end Lake
namespace Lake
open PySem PySem.Spec PyProof.Rows PySem.W PyProof
theorem Zkk (l:Addr) (items:Array Value) (n:Nat) (dd:Option Addr) (sl:Array (Option Value)) (x:Value) (e:Value->Bool) (j:Nat) (hj:j<items.size)
  (hit:e items[j]=true) (hno:∀m (hm:m<items.size),m<j->e items[m]=false) :
  Meets (Builtin.«tuple.index» ⟨[.ref l,x],[]⟩)
   (λA R s=>s.heap.get? l=some {cls:=.type "tuple",dict:=dd,data:=.seq items n,slots:=sl}/\(∀y,y∈items->SeqAt.EqAt A.in1 s y x (e y))/\R (.ok (.ret (.int j s.toks))) {s with toks:=s.toks+1}) :=
 .of_wp λprog w A R s h=>by
  obtain⟨hp,g,d,tk,os⟩:=s;obtain⟨hl,he,h⟩:=h
  unfold Builtin.«tuple.index»
  simp only[Std.Legacy.Range.forIn_eq_forIn_range',Std.Legacy.Range.size,Nat.sub_zero,Nat.add_sub_cancel,Nat.div_one]
  wp_walk using wpAny_loadPart' hl,wpAny_forIn_list _ (λrest b s'=>b.1=none/\s'=⟨hp,g,d,tk,os⟩/\∃i,rest=List.range' i (items.size-i)/\i<=j) _
  case turn =>
   rintro y rest b s' ⟨hb,rfl,i,hr,hi⟩
   have hlt:i<items.size:= ⋯
   obtain⟨rfl,hrest⟩:y=i/\rest=List.range' (i+1) (items.size-(i+1)):=by
    have e:items.size-i=(items.size-(i+1))+1:= ⋯
    rw[e,List.range'_succ]at hr
    injection hr with h1 h2
    exact⟨h1,h2⟩
   rw[Array.getElem?_eq_getElem hlt]
   refine Ya (he items[y] (Array.getElem_mem hlt) prog w _ _ ?_)
   by_cases c:y=j
   .subst c
    rw[hit]
    wp_walk
    exact⟨_,rfl,h⟩
   .rw[hno y hlt ⋯]
    wp_walk
    exact⟨rfl,rfl,y+1,hrest,⋯⟩
  case fin =>
   rintro⟨b1,b2⟩ s' ⟨hb,rfl,i,hr,hi⟩
   have e:items.size-i=(items.size-(i+1))+1:= ⋯
   rw[e,List.range'_succ]at hr
   cases hr
  case h =>
   exact⟨rfl,rfl,0,by simp,Yq _⟩
section
variable {X:Cx}
noncomputable def Zhi (K:Frag):V->List V->Hp->VK->Prop:=λx vs H Q=>∃(l:Addr) (ns:List Int) (k:Int),x=.ref l/\vs=[.int k]/\SqT K H l (ns.map V.int)/\k∈ns/\Q (.int (ns.idxOf k:Nat)) H
theorem Zk5 {K:Frag} (hK:X.K=K):MtM X "tuple.index" (Zhi K):=by
 subst hK
 intro pins s σ H x vs v us Q I rx rv h
 obtain⟨l,ns,k,rfl,rfl,hH,hk,q⟩:=h
 cases rx
 obtain⟨u,rfl,ru⟩:=rv.one
 obtain⟨t,rfl⟩:=ru
 obtain⟨its,r,pl⟩:=I.tuple hH
 have hi:IntsAre its ns:=intsAre_of r
 have hlen:=r.length
 rw[Yi]at hlen
 obtain⟨⟨cls,dd,data,sl⟩,ho,hc,n,hd⟩:=pl.1
 simp only at hc hd
 subst hc hd
 have hj:ns.idxOf k<ns.length:=List.idxOf_lt_length_iff.mpr hk
 refine call_meets F.slot_tuple_index ⟨_,ho,rfl⟩ F.entry_tuple_index (F.args_tuple_index_2 _ _)
  (Zkk l its.toArray n dd sl (.int k t) (isInt k) (ns.idxOf k) (by rw[Ys];omega) ?_ ?_) ⟨ho,λy hy=>(eq_isInt k t hi y (by simpa using hy)).at _ _,⟨.int _,H,I.tok _,⟨_,rfl⟩,q⟩⟩
 .show isInt k its[ns.idxOf k]=true
  rw[isInt_at k hi _ ⋯ hj]
  simpa using List.getElem_idxOf hj
 .intro j hjs hlt
  show isInt k its[j]=false
  rw[isInt_at k hi j (by simpa using hjs) ⋯]
  exact ne_of_lt_idxOf hlt _
end
noncomputable def Zl1 (H:Hp) (t:Addr) (ys:List V):Prop:=∃ob:Obj,ob.dict=none/\H t=some (.frz ob (.tup ys))
theorem Zl1.same {H H':Hp}{t:Addr}{ys:List V} (h:Zl1 H t ys) (s:Zd H H'):Zl1 H' t ys:=let ⟨ob,d,e⟩:=h;⟨ob,d,s _ _ e⟩
theorem Zl1.sq {K:Frag}{H:Hp}{t:Addr}{ys:List V} (h:Zl1 H t ys):SqT K H t ys:=let ⟨ob,_,e⟩:=h;.inl (.inr ⟨ob,e⟩)
section
variable {X:Cx}
noncomputable def Zm7 (K:Frag):List V->Hp->VK->Prop:=λxs H Q=>∃p ys,xs=[.ref p]/\SqL K H p ys/\∀l H',H l=none->Zd H H'->Zl1 H' l ys->Q (.ref l) H'
theorem Zk6 {K:Frag} (hK:X.K=K):Za1 X (.type "tuple") (Zm7 K):=by
 subst hK
 intro pins s σ H xs us Q I r h
 obtain⟨p,ys,rfl,hq,q⟩:=h
 obtain⟨u,rfl,rx⟩:=vals1 r
 cases rx
 obtain⟨its,r',pl,hz⟩:=I.list hq
 have hlen:=r'.length
 refine call_tuple_list pl.isList (λh' kp=>?_) (by simp only[Ys]<;>omega)
 have I1:Inv X pins σ H {s with heap:=h'}:=I.kept (t':=s.toks) kp
 have hn:=I1.hok.fresh (Yc h'.objs.size)
 have I2:Inv X pins σ (upd H h'.objs.size (.frz {cls:=.type "tuple",data:=.seq its.toArray} (.tup ys))) {s with heap:=h'.push {cls:=.type "tuple",data:=.seq its.toArray}} :=
  I1.laid (t':=s.toks) (λb o e=>Ym _ e) (Yc _) (show Zak X.prog X.w _ _ _ (.frz _ (.tup ys))from⟨YC _ rfl,hz,its,r',IsTup.new _ _⟩)
 exact⟨.ref h'.objs.size,_,I2,rfl,q _ _ hn ((Zd.refl H).upd hn) ⟨_,rfl,Zc⟩⟩
noncomputable def tBMH (r:V->List V->Hp->VK->Prop) (to:TE) (t:TA):TE:=fun σ H Q=>to σ H λx H1=>(∃p xs,x=.ref p/\Zl1 H1 p xs)/\t σ H1 λxs H2=>r x xs H2 Q
variable {o e:Expr}{es:List Expr}{to:TE}{t:TA}{name:Str}{apos cpos:Pos}{id:String}{r:V->List V->Hp->VK->Prop}
theorem Zsq (slot:Slot "tuple" name id) (hty:typeOf (.builtin id)=pure (.type "method_descriptor")) (hm:MtM X id r) (ho:PE X o to) (ha:PA X (e::es) t)
  (hbase:attributeBase o name X.env (eval o X.env)=eval o X.env:=by rfl)
  (hfew:((backTo cpos (starEach (e::es) X.env)).all (λx=>!x.1)&&(backToKw cpos (keywordEach [] X.env)).all (λx=>x.1.isSome)
   && decide ((e::es).length+([]:List Keyword).length+(if ([]:List Keyword).isEmpty then 0 else 1)<30))=true:=by rfl)
  (hline:(apos.endLine==cpos.line)=true:=by rfl) (hs:starEach (e::es) X.env=(false,eval e X.env)::starEach es X.env:=by rfl) (hplain:(backTo cpos (starEach es X.env)).any (·.1)=false:=by rfl) :
  PE X (.Call (.Attribute o name apos) (e::es) [] cpos) (tBMH r to t):=by
 intro pins s σ H Q I h
 refine wpAny_Call_method_late hbase hfew hline rfl (thn (ho pins s σ H _ I h) λv s1 ⟨x,H1,I1,r1,⟨p,xs,ex,ob,hd,hp⟩,q1⟩=>?_)
 subst ex
 cases r1
 obtain⟨e1,_,its,_,ob2,e2,e3,_⟩:=(show Zak X.prog X.w H1 s1.heap p (.frz ob (.tup xs))from I1.hok p _ hp)
 rw[e1]at e2
 cases e2
 refine⟨"tuple",id,PySem.F.plainAttrs_tuple,slot,hty,⟨ob,e1,e3⟩,(λa z=>by cases z;exact⟨ob,e1,hd⟩),?_⟩
 have hA:=ha cpos pins s1 σ H1 _ I1 q1
 rw[hs]at hA⊢
 refine Calls.callWith_builtin (by show(false||(backTo cpos (starEach es X.env)).any (·.1))=false;rw[hplain]<;>rfl) (Calls.evalArgs_plain ?_)
 exact thn hA λus s2 ⟨vs,H2,I2,r2,q2⟩=>hm pins s2 σ H2 (.ref p) vs (.ref p) us Q I2 rfl r2 q2
end
end Lake
namespace Lake
open PySem PySem.Spec PyProof.Rows PySem.W
end Lake
namespace HT
open PySem PyProof.Rows
section
open PySem.SeqAt
open PySem.AutoSeq1 (wpAny_loadPart')
open PySem.MeetsSeq PySem.MeetsSeq2 PySem.MeetsSeq3
end
end HT
namespace Lake
open PySem PySem.Spec PyProof.Rows PySem.W
end Lake
namespace Lake
open PySem PySem.Spec PyProof.Rows PySem.W PyProof
end Lake
namespace PySem.SeqAt
open PySem Sem
open MeetsSeq PyProof.Rows
end PySem.SeqAt
namespace Lake
open PySem PySem.Spec PyProof.Rows PySem.W
end Lake
namespace ST
open PySem PySem.SetTable
noncomputable def Rise (xs:Array Nat):Prop:=xs.toList.Pairwise (· < ·)
theorem Zbh (xs:Array Nat) (i:Nat):xs.getD i 0=xs.toList.getD i 0:=by
 rw[Yh,YV,YI]
theorem Rise.lt {xs:Array Nat} (h:Rise xs) {a b:Nat} (ab:a<b) (hb:b<xs.size):xs.getD a 0<xs.getD b 0:=by
 have hb':b<xs.toList.length:=by rw[Yp];exact hb
 rw[Zbh,Zbh,Yh,Yh,Yf (by omega:a<xs.toList.length),Yf hb']
 exact List.pairwise_iff_getElem.mp h a b ⋯ hb' ab
theorem Zjw {xs:Array Nat}{j:Nat} (h:Rise xs):∀(f lo hi:Nat),hi-lo<=f->lo<=hi->hi<=xs.size->(∀i,i<lo->xs.getD i 0<j)->(∀i,hi<=i->i<xs.size->j<=xs.getD i 0) ->
  below.go xs j f lo hi<=xs.size/\(∀i,i<below.go xs j f lo hi->xs.getD i 0<j)/\(∀i,below.go xs j f lo hi<=i->i<xs.size->j<=xs.getD i 0)
 |0,lo,hi,a,b,c,d,e=>by
  have:lo=hi:= ⋯
  subst this
  exact⟨c,d,e⟩
 |f+1,lo,hi,a,b,c,d,e=>by
  unfold below.go
  by_cases hlt:lo<hi
  .rw[Yd hlt]
   dsimp only
   have eD:xs.getD ((lo+hi) / 2) j=xs.getD ((lo+hi) / 2) 0:=by
    rw[YI,YI,Array.getElem?_eq_getElem ⋯];rfl
   rw[eD]
   by_cases hm:xs.getD ((lo+hi) / 2) 0<j
   .rw[Yd hm]
    refine Zjw h f _ _ ⋯ ⋯ c (λi hi'=>?_) e
    by_cases e1:i=(lo+hi) / 2
    .rw[e1];exact hm
    .exact Nat.lt_trans (h.lt (by omega:i<(lo+hi) / 2) ⋯) hm
   .rw[Yb hm]
    refine Zjw h f _ _ ⋯ ⋯ ⋯ d λi h1 h2=>?_
    by_cases e1:i=(lo+hi) / 2
    .rw[e1];omega
    .have:=h.lt (by omega:(lo+hi) / 2<i) h2
     omega
  .rw[Yb hlt]
   have:lo=hi:= ⋯
   subst this
   exact⟨c,d,e⟩
theorem ZcS {xs:Array Nat} (h:Rise xs) (j:Nat):below xs j<=xs.size/\(∀i,i<below xs j->xs.getD i 0<j)/\(∀i,below xs j<=i->i<xs.size->j<=xs.getD i 0) :=
 Zjw h xs.size 0 xs.size ⋯ ⋯ (Yc _) (λi hi=>⋯) λi h1 h2=>⋯
theorem gq {xs:Array Nat}{i:Nat} (h:i<xs.size):xs[i]?=some (xs.getD i 0):=by
 rw[YI,Array.getElem?_eq_getElem h];rfl
theorem Zox {xs:Array Nat} (h:Rise xs) {k:Nat} (hk:k<xs.size):below xs (xs.getD k 0+1)=k+1:=by
 obtain⟨a,b,c⟩:=ZcS h (xs.getD k 0+1)
 rcases Nat.lt_trichotomy (below xs (xs.getD k 0+1)) (k+1)with g|g|g
 .have:=c k ⋯ hk;omega
 .exact g
 .have h1:=b (k+1) g
  have h2:=h.lt (by omega:k<k+1) ⋯
  omega
theorem Zoy {xs:Array Nat} (h:Rise xs):below xs 0=0:=by
 obtain⟨a,b,c⟩:=ZcS h 0
 rcases Nat.eq_zero_or_pos (below xs 0)with g|g
 .exact g
 .exact absurd (b 0 g) (Nat.not_lt_zero _)
theorem Zep {t:SetTable} (hd:t.dummies=#[]) (h:Rise t.place) (j:Nat):(t.slot j=.empty/\j∉t.place.toList)\/(∃i,i<t.place.size/\t.place.getD i 0=j/\t.slot j=.live i):=by
 obtain⟨a,b,c⟩:=ZcS h j
 unfold slot
 dsimp only
 by_cases e:t.place[below t.place j]?==some j
 .rw[Yd e]
  have e1:t.place[below t.place j]?=some j:=by simpa using e
  obtain⟨h1,h2⟩:=Array.getElem?_eq_some_iff.mp e1
  exact .inr ⟨_,h1,by rw[YI,e1];rfl,rfl⟩
 .rw[Yb e,hd]
  refine .inl ⟨by simp[has,below],λhm=>e ?_⟩
  obtain⟨i,hi,e1⟩:=YZ hm
  rw[Yp]at hi
  have e2:t.place.getD i 0=j:=by rw[YI,Array.getElem?_eq_getElem hi];simpa using e1
  have:below t.place j=i:=by
   rcases Nat.lt_trichotomy (below t.place j) i with g|g|g
   .have h1:=c _ (Yc _) ⋯
    have h2:=h.lt g hi
    omega
   .exact g
   .have:=b i g;omega
  rw[this,gq hi,e2];simp
theorem Zm8 {xs:Array Nat} (h:Rise xs) {j:Nat} (hj:j∉xs.toList):Rise (insertAt xs (below xs j) j)/\(insertAt xs (below xs j) j).toList.Perm (j::xs.toList):=by
 obtain⟨a,b,c⟩:=ZcS h j
 have e:(insertAt xs (below xs j) j).toList=xs.toList.take (below xs j)++j::xs.toList.drop (below xs j):=by
  rw[SetTable.toList_insertAt]
 have p:(xs.toList.take (below xs j)++j::xs.toList.drop (below xs j)).Perm (j::xs.toList):=by
  refine List.perm_middle.trans ?_
  rw[Jh]
 refine⟨?_,e▸p⟩
 unfold Rise
 rw[e,List.pairwise_append]
 have hl:xs.toList.length=xs.size:=Yp
 have lo:∀x∈xs.toList.take (below xs j),x<j:=λx hx=>by
  obtain⟨i,hi,e1⟩:=YZ hx
  rw[Y9]at hi
  rw[List.getElem_take]at e1
  have:=b i ⋯
  rw[Zbh,Yh,Yf ⋯]at this
  rw[<-e1];exact this
 have hi:∀x∈xs.toList.drop (below xs j),j<x:=λx hx=>by
  have hm:x∈xs.toList:=List.mem_of_mem_drop hx
  obtain⟨i,hi,e1⟩:=YZ hx
  rw[Jl]at hi
  rw[List.getElem_drop]at e1
  have:=c (below xs j+i) ⋯ ⋯
  rw[Zbh,Yh,Yf ⋯]at this
  have h2:j<=x:=by rw[<-e1];exact this
  have h3:x≠j:=λz=>hj (z▸hm)
  omega
 refine⟨(List.Pairwise.sublist (List.take_sublist _ _) h),Jb.mpr ⟨hi,List.Pairwise.sublist (List.drop_sublist _ _) h⟩,λx hx y hy=>?_⟩
 rcases Yk.mp hy with rfl|hy
 .exact lo x hx
 .exact Nat.lt_trans (lo x hx) (hi y hy)
noncomputable def step (N i:Nat):Nat:=(i*5+1) % N
noncomputable def orb (N:Nat):Nat->Nat->Nat
 |0,i=>i
 |k+1,i=>orb N k (step N i)
theorem ZiY (N:Nat):∀a b i,orb N (a+b) i=orb N b (orb N a i)
 |0,b,i=>by rw[Nat.zero_add];rfl
 |a+1,b,i=>by rw[show a+1+b=(a+b)+1 by omega];exact ZiY N a b _
noncomputable def mk (N:Nat):Nat->Nat->Nat->Nat×Nat
 |0,m,i=>(m,i)
 |k+1,m,i=>mk N k (m ||| 1 <<< i) (step N i)
theorem ZpP (N:Nat):∀k m i,(mk N k m i).2=orb N k i/\∀j,(mk N k m i).1.testBit j=true->m.testBit j=true\/∃a,a<k/\orb N a i=j
 |0,m,i=>⟨rfl,λj h=>.inl h⟩
 |k+1,m,i=>by
  obtain⟨h1,h2⟩:=ZpP N k (m ||| 1 <<< i) (step N i)
  refine⟨h1,λj h=>?_⟩
  rcases h2 j h with g|⟨a,ha,e⟩
  .rw[Nat.testBit_or,Bool.or_eq_true]at g
   rcases g with g|g
   .exact .inl g
   .rw[Nat.one_shiftLeft,Nat.testBit_two_pow]at g
    exact .inr ⟨0,⋯,by show i=j;simpa using g⟩
  .exact .inr ⟨a+1,⋯,e⟩
noncomputable def whole (N:Nat):Prop:=mk N N 0 0=(2 ^ N-1,0)
theorem ZqO {N:Nat} (h:whole N) {i j:Nat} (hi:i<N) (hj:j<N):∃m,m<N/\orb N m i=j:=by
 obtain⟨h1,h2⟩:=ZpP N N 0 0
 have hw:mk N N 0 0=(2 ^ N-1,0):=h
 rw[hw]at h1 h2
 have all:∀x,x<N->∃a,a<N/\orb N a 0=x:=λx hx=>by
  rcases h2 x (by dsimp only;rw[Nat.testBit_two_pow_sub_one];simpa using hx)with g|g
  .rw[Nat.zero_testBit]at g;cases g
  .exact g
 obtain⟨a,ha,ea⟩:=all i hi
 obtain⟨b,hb,eb⟩:=all j hj
 by_cases hab:a<=b
 .refine⟨b-a,⋯,?_⟩
  rw[<-ea,<-ZiY,show a+(b-a)=b by omega,eb]
 .refine⟨(N-a)+b,⋯,?_⟩
  rw[<-ea,<-ZiY,show a+(N-a+b)=N+b by omega,ZiY,<-h1]
  exact eb
noncomputable def Mask (m:Nat):Prop:=m=7\/m=31\/m=127\/m=511\/m=2047
theorem Mask.whole {m:Nat} (h:Mask m):whole (m+1):=by
 unfold ST.whole
 rcases h with rfl|rfl|rfl|rfl|rfl<;>decide +kernel
noncomputable def ZcT (m:Nat):Nat->Nat×Nat->Nat×Nat
 |0,p=>p
 |k+1,p=>ZcT m k (leap m p.1 p.2)
theorem Zk7 (m:Nat):∀a b p,ZcT m (a+b) p=ZcT m b (ZcT m a p)
 |0,b,p=>by rw[Nat.zero_add];rfl
 |a+1,b,p=>by rw[show a+1+b=(a+b)+1 by omega];exact Zk7 m a b _
theorem ZfA (m:Nat):∀k p,p.1<=m->(ZcT m k p).1<=m
 |0,p,h=>h
 |k+1,p,h=>ZfA m k _ (by unfold leap;exact Nat.lt_succ_iff.mp (Nat.mod_lt _ (Nat.succ_pos m)))
theorem Zjx (m:Nat):∀k p,(ZcT m k p).2=p.2 / 32 ^ k
 |0,p=>by rw[Nat.pow_zero,Nat.div_one];rfl
 |k+1,p=>by
  show(ZcT m k (leap m p.1 p.2)).2=_
  rw[Zjx m k]
  show p.2 / 32 / 32 ^ k=_
  rw[Nat.div_div_eq_div_mul,Nat.pow_succ,Nat.mul_comm]
theorem Zk8 (m:Nat):∀k i,(ZcT m k (i,0)).1=orb (m+1) k i
 |0,i=>rfl
 |k+1,i=>by
  have:leap m i 0=(step (m+1) i,0):=by unfold leap step;simp
  show(ZcT m k (leap m i 0)).1=_
  rw[this]
  exact Zk8 m k _
theorem Zm9 {m:Nat} (h:Mask m) {i q j:Nat} (hi:i<=m) (hq:q<2 ^ 64) (hj:j<=m):∃k,k<=m+13/\(ZcT m k (i,q)).1=j:=by
 have h1:=ZfA m 13 (i,q) hi
 have h2:(ZcT m 13 (i,q)).2=0:=by
  rw[Zjx]
  exact Nat.div_eq_of_lt (Nat.lt_trans hq nofun)
 obtain⟨a,ha,e⟩:=ZqO h.whole (Nat.lt_succ_of_le h1) (Nat.lt_succ_of_le hj)
 refine⟨13+a,⋯,?_⟩
 rw[Zk7]
 have:ZcT m 13 (i,q)=((ZcT m 13 (i,q)).1,0):=Prod.ext rfl h2
 rw[this,Zk8,e]
theorem ZpQ (h:Int):bits h<2 ^ 64:=by unfold bits;omega
theorem Zh0 {m i:Nat} (h:i<=m):runEnd m i<=m/\i<=runEnd m i/\runEnd m i<=i+9:=by unfold runEnd;split<;>omega
inductive Reach (t:SetTable):Nat->Probe->Prop
 |here {n:Nat}{p:Probe}:p.dummy=none->p.j<=t.mask->t.slot p.j=.empty->Reach t n p
 |on {n:Nat}{p:Probe}:p.dummy=none->p.j<=t.mask->Reach t n (t.advance p)->Reach t (n+1) p
theorem Reach.mono {t:SetTable}{n m:Nat}{p:Probe} (h:Reach t n p) (k:n<=m):Reach t m p:=by
 induction h generalizing m with
 |here a b c=>exact .here a b c
 |on a b c ih =>
  obtain⟨m,rfl⟩:∃m',m=m'+1:=⟨m-1,⋯⟩
  exact .on a b (ih ⋯)
noncomputable def lead (t:SetTable) (p:Nat×Nat):Probe:={j:=p.1,more:=runEnd t.mask p.1-p.1,i:=p.1,perturb:=p.2,dummy:=none}
theorem Zk9 {t:SetTable}:∀(more:Nat) (p:Probe) (n:Nat),p.more=more->p.dummy=none->p.j+p.more<=t.mask->Reach t n (lead t (leap t.mask p.i p.perturb))->Reach t (n+more+1) p
 |0,p,n,e,hd,hj,h=>by
  refine .on hd ⋯ ?_
  have:t.advance p=lead t (leap t.mask p.i p.perturb):=by
   unfold advance lead
   rw[Yb ⋯,hd]
  rw[this]
  exact h
 |k+1,p,n,e,hd,hj,h=>by
  refine .on hd ⋯ ?_
  have:t.advance p={p with j:=p.j+1,more:=p.more-1}:=by
   unfold advance
   rw[Yd ⋯]
  rw[this]
  exact Zk9 k _ n (by dsimp only;omega) hd (by dsimp only;omega) h
theorem Zio {t:SetTable}{j:Nat} (hj:t.slot j=.empty):∀(k:Nat) (p:Nat×Nat),p.1<=t.mask->(ZcT t.mask k p).1=j->Reach t (10*k) (lead t p)
 |0,p,hp,e=>.here rfl hp (by show t.slot p.1=_;rw[show p.1=j from e];exact hj)
 |k+1,p,hp,e=>by
  obtain⟨h1,h2,h3⟩:=Zh0 hp
  have hl:(leap t.mask p.1 p.2).1<=t.mask:=ZfA t.mask 1 p hp
  refine(Zk9 (lead t p).more (lead t p) (10*k) rfl rfl ?_ (Zio hj k _ hl e)).mono ?_
  .show p.1+(runEnd t.mask p.1-p.1)<=_;omega
  .show 10*k+(runEnd t.mask p.1-p.1)+1<=_;omega
theorem Zna {t:SetTable} (hm:Mask t.mask) {j:Nat} (hj:t.slot j=.empty) (jm:j<=t.mask) (h:Int):∃n,n<10*turns t.mask/\Reach t n (t.probeStart h):=by
 obtain⟨k,hk,e⟩:=Zm9 hm (i:=bits h % (t.mask+1)) (q:=bits h) (Nat.lt_succ_iff.mp (Nat.mod_lt _ (Nat.succ_pos _))) (ZpQ h) jm
 refine⟨10*k,by unfold turns;omega,?_⟩
 exact Zio hj k (bits h % (t.mask+1),bits h) (Nat.lt_succ_iff.mp (Nat.mod_lt _ (Nat.succ_pos _))) e
structure Ok (t:SetTable) (n:Nat):Prop where
 mask:Mask t.mask
 size:t.place.size=n
 no:t.dummies=#[]
 rise:Rise t.place
 within:∀x∈t.place.toList,x<=t.mask
 room:n*5<t.mask*3
theorem Znb:∀{a b:List Nat},a.Nodup->(∀x∈a,x∈b)->a.length<=b.length
 |[],b,_,_=>Yq _
 |x::a,b,hn,hs=>by
  obtain⟨h1,h2⟩:=List.nodup_cons.mp hn
  have hx:=hs x (.head _)
  have h3:=Znb h2 (b:=b.erase x) λy hy=>(List.mem_erase_of_ne (λe:y=x=>h1 (e▸hy))).mpr (hs y (.tail _ hy))
  have h4:=List.length_erase_of_mem hx
  have h5:=List.length_pos_of_mem hx
  rw[YN];omega
theorem Znc:∀(m:Nat) (l:List Nat),l.Nodup->(∀x∈l,x<=m)->l.length<=m->∃j,j<=m/\j∉l:=λm l hn hl hlen=>by
 by_cases h:∃j,j<=m/\j∉l
 .exact h
 .have hs:∀x∈List.range (m+1),x∈l:=λx hx=>by
   by_cases hx':x∈l
   .exact hx'
   .exact absurd ⟨x,Nat.lt_succ_iff.mp (Yy.mp hx),hx'⟩ h
  have:=Znb List.nodup_range hs
  rw[Y6]at this
  omega
theorem Rise.nodup {xs:Array Nat} (h:Rise xs):xs.toList.Nodup:=List.Pairwise.imp (λh=>Yo h) h
theorem Ok.free {t:SetTable}{n:Nat} (h:Ok t n):∃j,j<=t.mask/\t.slot j=.empty:=by
 have hz:=h.size
 have hr:=h.room
 obtain⟨j,hj,hn⟩:=Znc t.mask t.place.toList h.rise.nodup h.within (by rw[Yp];omega)
 rcases Zep h.no h.rise j with⟨e,_⟩|⟨i,hi,e1,e⟩
 .exact⟨j,hj,e⟩
 .refine absurd ?_ hn
  rw[<-e1,Zbh,Yh,Yf (by rw[Yp];exact hi)]
  exact YF _
theorem Ok.start {t:SetTable}{n:Nat} (h:Ok t n) (k:Int):∃m,m<10*turns t.mask/\Reach t m (t.probeStart k):=by
 obtain⟨j,hj,e⟩:=h.free
 exact Zna h.mask e hj k
inductive Front (m:Nat) (occ:Nat->Prop) (j:Nat):Probe->Prop
 |fin {p:Probe}:p.j=j->Front m occ j p
 |on {p:Probe}{t:SetTable}:t.mask=m->occ p.j->Front m occ j (t.advance p)->Front m occ j p
theorem Zsr {t t':SetTable} (h:t.mask=t'.mask) (p:Probe):t.advance p=t'.advance p:=by unfold advance;rw[h]
theorem Front.mono {m:Nat}{occ occ':Nat->Prop}{j:Nat}{p:Probe} (h:Front m occ j p) (k:∀x,occ x->occ' x):Front m occ' j p:=by
 induction h with
 |fin e=>exact .fin e
 |on a b c ih=>exact .on a (k _ b) ih
noncomputable def Zcf (t:SetTable) (x:Nat):Prop:=x∈t.place.toList
theorem Zss {t:SetTable} (hd:t.dummies=#[]) (h:Rise t.place) {j i:Nat} (e:t.slot j=.live i):Zcf t j/\i<t.place.size/\t.place.getD i 0=j:=by
 rcases Zep hd h j with⟨z,_⟩|⟨i',hi,e1,z⟩
 .rw[e]at z;cases z
 .rw[e]at z;cases z
  refine⟨?_,hi,e1⟩
  unfold Zcf
  rw[<-e1,Zbh,Yh,Yf (by rw[Yp];exact hi)]
  exact YF _
theorem Zjy {t:SetTable} (hd:t.dummies=#[]) (h:Rise t.place) {j:Nat} (e:t.slot j=.empty):¬ Zcf t j:=by
 rcases Zep hd h j with⟨_,z⟩|⟨i',hi,e1,z⟩
 .exact z
 .rw[e]at z;cases z
theorem ZqP {t:SetTable} (hd:t.dummies=#[]) (hr:Rise t.place) (ha:Nat->Int) (h:Int) {n:Nat}{p:Probe} (R:Reach t n p):∀f,n<f ->
  (∃j,probe.go t ha h f p=some (.empty j none)/\j<=t.mask/\t.slot j=.empty/\Front t.mask (Zcf t) j p/\∀i,i<t.place.size->ha i=h->¬ Front t.mask (Zcf t) (t.place.getD i 0) p) \/
  (∃j i next m,probe.go t ha h f p=some (.candidate j i next)/\i<t.place.size/\t.slot j=.live i/\ha i=h/\m<n/\Reach t m next/\(∀j',Front t.mask (Zcf t) j' next->Front t.mask (Zcf t) j' p) /\
   ∀i',i'<t.place.size->ha i'=h->i'≠i->Front t.mask (Zcf t) (t.place.getD i' 0) p->Front t.mask (Zcf t) (t.place.getD i' 0) next):=by
 have occ_at:∀i,i<t.place.size->Zcf t (t.place.getD i 0):=λi hi=>by
  unfold Zcf
  rw[Zbh,Yh,Yf (by rw[Yp];exact hi)]
  exact YF _
 have same:∀i i',i<t.place.size->i'<t.place.size->t.place.getD i 0=t.place.getD i' 0->i=i':=λi i' hi hi' e=>by
  rcases Nat.lt_trichotomy i i' with g|g|g
  .have:=hr.lt g hi';omega
  .exact g
  .have:=hr.lt g hi;omega
 induction R with
 |@here n p a b c =>
  intro f hf
  obtain⟨f,rfl⟩:∃g,f=g+1:=⟨f-1,⋯⟩
  refine .inl ⟨p.j,?_,b,c,.fin rfl,λi hi _ F=>?_⟩
  .unfold probe.go
   rw[c,a]
  .cases F with
   |fin e=>exact Zjy hd hr c (e▸occ_at i hi)
   |on _ o _=>exact Zjy hd hr c o
 |@on n p a b c ih =>
  intro f hf
  obtain⟨f,rfl⟩:∃g,f=g+1:=⟨f-1,⋯⟩
  unfold probe.go
  rcases Zep hd hr p.j with⟨e,hn⟩|⟨i,hi,e1,e⟩
  .rw[e]
   refine .inl ⟨p.j,by rw[a],b,e,.fin rfl,λi hi _ F=>?_⟩
   cases F with
   |fin z=>exact hn (by have:=occ_at i hi;rw[<-z]at this;exact this)
   |on _ o _=>exact hn o
  .rw[e]
   dsimp only
   have ho:=(Zss hd hr e).1
   have step:∀i',i'<t.place.size->i'≠i->Front t.mask (Zcf t) (t.place.getD i' 0) p->Front t.mask (Zcf t) (t.place.getD i' 0) (t.advance p):=λi' hi' ne F=>by
    cases F with
    |fin z=>exact absurd (same i' i hi' hi (z.symm.trans e1.symm)) ne
    |on hm _ F=>rw[Zsr hm.symm];exact F
   by_cases he:(ha i==h)=true
   .rw[Yd he]
    exact .inr ⟨p.j,i,_,n,rfl,hi,e,by simpa using he,⋯,c,λj' F=>.on rfl ho F,λi' hi' _ ne F=>step i' hi' ne F⟩
   .rw[Yb he]
    have ne:∀i',ha i'=h->i'≠i:=λi' e z=>he (by rw[<-z];simpa using e)
    rcases ih f ⋯with⟨j,g1,g2,g3,g4,g5⟩|⟨j,i2,next,m,g1,g2,g3,g4,g5,g6,g7,g8⟩
    .exact .inl ⟨j,g1,g2,g3,.on rfl ho g4,λi' hi' hh F=>g5 i' hi' hh (step i' hi' (ne i' hh) F)⟩
    .exact .inr ⟨j,i2,next,m,g1,g2,g3,g4,⋯,g6,λj' F=>.on rfl ho (g7 j' F),λi' hi' hh ne2 F=>g8 i' hi' hh ne2 (step i' hi' (ne i' hh) F)⟩
noncomputable def Znd (o:Array (Option Nat)) (x:Nat):Prop:=∃k,o.getD x none=some k
theorem ZpR {o:Array (Option Nat)}{x:Nat} (hx:x<o.size) (h:o.getD x (some 0)≠none):Znd o x:=by
 rw[YI,Array.getElem?_eq_getElem hx]at h
 unfold Znd
 rw[YI,Array.getElem?_eq_getElem hx]
 exact Option.ne_none_iff_exists'.mp h
theorem Zla {m:Nat}{occ:Nat->Prop}{t:SetTable} (ht:t.mask=m):∀(k:Nat) (p:Probe),p.dummy=none->k<=p.more->(∀k',k'<k->occ (p.j+k'))->Front m occ (p.j+k) p
 |0,p,hd,hk,ho=>.fin rfl
 |k+1,p,hd,hk,ho=>by
  refine .on ht (ho 0 ⋯) ?_
  have:t.advance p={p with j:=p.j+1,more:=p.more-1}:=by
   unfold advance
   rw[Yd ⋯]
  rw[this,show p.j+(k+1)=p.j+1+k by omega]
  exact Zla ht k {p with j:=p.j+1,more:=p.more-1} hd (by show k<=p.more-1;omega) λk' hk'=>by
   show occ (p.j+1+k')
   have:=ho (k'+1) ⋯
   rwa [show p.j+(k'+1)=p.j+1+k' by omega]at this
theorem Zjz {m:Nat}{occ:Nat->Prop}{t:SetTable}{j:Nat} (ht:t.mask=m):∀(k:Nat) (p:Probe),p.more=k->p.dummy=none->(∀k',k'<=k->occ (p.j+k'))->Front m occ j (lead t (leap t.mask p.i p.perturb))->Front m occ j p
 |0,p,hk,hd,ho,F=>by
  refine .on ht (ho 0 (Yc _)) ?_
  have:t.advance p=lead t (leap t.mask p.i p.perturb):=by
   unfold advance lead
   rw[Yb ⋯,hd]
  rw[this];exact F
 |k+1,p,hk,hd,ho,F=>by
  refine .on ht (ho 0 (Yq _)) ?_
  have:t.advance p={p with j:=p.j+1,more:=p.more-1}:=by
   unfold advance
   rw[Yd ⋯]
  rw[this]
  refine Zjz ht k _ (by show p.more-1=k;omega) hd (λk' hk'=>?_) F
  show occ (p.j+1+k')
  have:=ho (k'+1) ⋯
  rwa [show p.j+(k'+1)=p.j+1+k' by omega]at this
theorem ZjA {o:Array (Option Nat)}{m:Nat}{t:SetTable} (ht:t.mask=m) (hs:o.size=m+1):∀(f:Nat) (p:Nat×Nat) (j:Nat),p.1<=m->layClean.free m o f p.1 p.2=some j->Front m (Znd o) j (lead t p)
 |0,p,j,hp,e=>by unfold layClean.free at e;cases e
 |f+1,p,j,hp,e=>by
  unfold layClean.free at e
  obtain⟨h1,h2,h3⟩:=Zh0 hp
  have em:(lead t p).more=runEnd m p.1-p.1:=by unfold lead;rw[ht]
  cases hx:(List.range (runEnd m p.1+1-p.1)).find? (λk=>(o.getD (p.1+k) (some 0)).isNone)with
  |some k =>
   rw[hx]at e
   have e:p.1+k=j:=YM e
   subst e
   obtain⟨hk,as,bs,hl,hno⟩:=List.find?_eq_some_iff_append.mp hx
   have hk2:k<runEnd m p.1+1-p.1:=Yy.mp (by rw[hl];simp)
   refine Zla (p:=lead t p) ht k rfl (by rw[em];omega) λk' hk'=>?_
   have hmem:k'∈as:=by
    have hpw:(as++k::bs).Pairwise (· < ·):=by rw[<-hl];exact List.pairwise_lt_range
    have h4:k'∈as++k::bs:=by rw[<-hl];exact Yy.mpr ⋯
    rcases YB.mp h4 with h5|h5
    .exact h5
    .rcases Yk.mp h5 with h6|h6
     .omega
     .have:=List.rel_of_pairwise_cons (List.pairwise_append.mp hpw).2.1 h6
      omega
   have:=hno k' hmem
   refine ZpR (show p.1+k' < _ by omega) ?_
   intro z
   rw[show o.getD ((lead t p).j+k') (some 0)=o.getD (p.1+k') (some 0)from rfl]at z
   rw[z]at this
   exact absurd this nofun
  |none =>
   rw[hx]at e
   have e:layClean.free m o f (leap m p.1 p.2).1 (leap m p.1 p.2).2=some j:=e
   have ih:=ZjA ht hs f (leap m p.1 p.2) j (ZfA m 1 p hp) e
   refine Zjz ht (lead t p).more (lead t p) rfl rfl (λk' hk'=>?_) (by rw[ht];exact ih)
   rw[em]at hk'
   have:=List.find?_eq_none.mp hx k' (Yy.mpr ⋯)
   refine ZpR (show p.1+k' < _ by omega) ?_
   intro z
   rw[show o.getD ((lead t p).j+k') (some 0)=o.getD (p.1+k') (some 0)from rfl]at z
   rw[z]at this
   exact this rfl
end ST
namespace ST
open PySem PySem.SetTable
noncomputable def vals (o:Array (Option Nat)):List Nat:=o.toList.filterMap id
theorem Zne:∀(l:List (Option Nat)) (j k:Nat),j<l.length->l.getD j (some 0)=none->((l.set j (some k)).filterMap id).Perm (k::l.filterMap id)
 |[],j,k,h,_=>absurd h (Nat.not_lt_zero _)
 |x::l,0,k,h,e=>by
  have e:x=none:=e
  subst e
  exact List.Perm.refl _
 |x::l,j+1,k,h,e=>by
  have ih:=Zne l j k (by simpa using h) e
  cases x with
  |none=>exact ih
  |some y=>exact(List.Perm.cons y ih).trans (List.Perm.swap k y _)
theorem ZqQ (o:Array (Option Nat)) (m:Nat):∀(k f:Nat) (p:Nat×Nat),p.1<=m->k<f->o.getD (ZcT m k p).1 (some 0)=none->∃j,layClean.free m o f p.1 p.2=some j/\o.getD j (some 0)=none:=λk=>by
 induction k with
 |zero =>
  intro f p hp hf e
  obtain⟨f,rfl⟩:∃g,f=g+1:=⟨f-1,⋯⟩
  have e:o.getD p.1 (some 0)=none:=e
  unfold layClean.free
  cases hx:(List.range (runEnd m p.1+1-p.1)).find? (λk=>(o.getD (p.1+k) (some 0)).isNone)with
  |some k=>exact⟨_,rfl,by have:=List.find?_some hx;simpa using this⟩
  |none =>
   have:=List.find?_eq_none.mp hx 0 (by obtain⟨a,b,c⟩:=Zh0 hp;simp;omega)
   rw[Nat.add_zero,e]at this
   exact absurd rfl this
 |succ k ih =>
  intro f p hp hf e
  obtain⟨f,rfl⟩:∃g,f=g+1:=⟨f-1,⋯⟩
  unfold layClean.free
  cases hx:(List.range (runEnd m p.1+1-p.1)).find? (λk=>(o.getD (p.1+k) (some 0)).isNone)with
  |some k=>exact⟨_,rfl,by have:=List.find?_some hx;simpa using this⟩
  |none =>
   exact ih f (leap m p.1 p.2) (ZfA m 1 p hp) ⋯ e
theorem Zu3 {o:Array (Option Nat)}{m:Nat} (hm:Mask m) (hs:o.size=m+1) (hv:(vals o).length<=m) (h:Int):∃j,layClean.free m o (turns m) (bits h % (m+1)) (bits h)=some j/\j<=m/\o.getD j (some 0)=none:=by
 have:∃j,j<=m/\o.getD j (some 0)=none:=by
  by_cases hx:∃j,j<=m/\o.getD j (some 0)=none
  .exact hx
  .have all:∀x∈o.toList,(id x).isSome=true:=λx hx'=>by
    obtain⟨j,hj,e⟩:=YZ hx'
    rw[Yp]at hj
    cases x with
    |some y=>rfl
    |none=>exact absurd ⟨j,⋯,by rw[YI,<-YV,Yf (by rw[Yp];exact hj),e];rfl⟩ hx
   have:(vals o).length=o.toList.length:=by
    unfold vals
    exact List.filterMap_length_eq_length.mpr all
   have z:o.toList.length=o.size:=Yp
   omega
 obtain⟨j,hj,e⟩:=this
 obtain⟨k,hk,e1⟩:=Zm9 hm (i:=bits h % (m+1)) (q:=bits h) (Nat.lt_succ_iff.mp (Nat.mod_lt _ (Nat.succ_pos _))) (ZpQ h) hj
 obtain⟨j',e2,e3⟩:=ZqQ o m k (turns m) (bits h % (m+1),bits h) (Nat.lt_succ_iff.mp (Nat.mod_lt _ (Nat.succ_pos _))) (by unfold turns;omega) (by rw[e1];exact e)
 refine⟨j',e2,?_,e3⟩
 by_cases hj':j'<o.size
 .omega
 .rw[YI,Array.getElem?_eq_none ⋯]at e3
  cases e3
noncomputable def Zhj (m:Nat) (acc:Option (Array (Option Nat)×Nat)) (h:Int):Option (Array (Option Nat)×Nat):=do
  let (owner,k) <-acc
  let j <-layClean.free m owner (turns m) (bits h % (m+1)) (bits h)
  pure (owner.setIfInBounds j (some k),k+1)
theorem Zst {o:Array (Option Nat)}{j k:Nat} (h:o.getD j none=some k):k∈vals o:=by
 unfold vals
 rw[List.mem_filterMap]
 rw[YI]at h
 cases hx:o[j]? with
 |none=>rw[hx]at h;cases h
 |some y =>
  rw[hx]at h
  have h:y=some k:=h
  subst h
  exact⟨some k,List.mem_of_getElem? (by rw[YV];exact hx),rfl⟩
noncomputable def Zl2 (t:SetTable) (h:Int):Probe:=lead t (bits h % (t.mask+1),bits h)
theorem Zlb (t:SetTable) (h:Int):t.probeStart h=Zl2 t h:=rfl
theorem Znf {m:Nat}{t:SetTable} (ht:t.mask=m) (hm:Mask m):∀(hs pre:List Int) (o:Array (Option Nat)),o.size=m+1->(vals o).Perm (List.range pre.length)->pre.length+hs.length<=m ->
  (∀j k,o.getD j none=some k->Front m (Znd o) j (Zl2 t (pre.getD k 0))) ->
  ∃o',hs.foldl (Zhj m) (some (o,pre.length))=some (o',pre.length+hs.length)/\o'.size=m+1/\(vals o').Perm (List.range (pre.length+hs.length)) /\
   ∀j k,o'.getD j none=some k->Front m (Znd o') j (Zl2 t ((pre++hs).getD k 0))
 |[],pre,o,h1,h2,h3,h4=>⟨o,rfl,h1,h2,by rw[List.append_nil];exact h4⟩
 |h::hs,pre,o,h1,h2,h3,h4=>by
  have h3':pre.length+(hs.length+1)<=m:=h3
  have hv:(vals o).length=pre.length:=by rw[h2.length_eq,Y6]
  obtain⟨j,e1,e2,e3⟩:=Zu3 hm h1 ⋯ h
  have fj:=ZjA ht h1 (turns m) (bits h % (m+1),bits h) j (Nat.lt_succ_iff.mp (Nat.mod_lt _ (Nat.succ_pos _))) e1
  have st:Zhj m (some (o,pre.length)) h=some (o.setIfInBounds j (some pre.length),pre.length+1):=by
   unfold Zhj
   simp only[Option.bind_eq_bind,Option.bind_some,e1]
   rfl
  have hj:j<o.toList.length:=by rw[Yp];omega
  have hjs:j<o.size:= ⋯
  have gs:∀x,(o.setIfInBounds j (some pre.length)).getD x none=if x=j then some pre.length else o.getD x none:=λx=>by
   rw[YI,Array.getElem?_setIfInBounds,YI]
   by_cases e:j=x
   .subst e;rw[Yd rfl,Yd hjs,Yd rfl];rfl
   .rw[Yb e,Yb (λz=>e z.symm)]
  have oc:∀x,Znd o x->Znd (o.setIfInBounds j (some pre.length)) x:=λx ⟨k,hk⟩=>by
   unfold Znd
   rw[gs]
   by_cases e:x=j
   .rw[Yd e];exact⟨_,rfl⟩
   .rw[Yb e];exact⟨k,hk⟩
  have lp:(pre++[h]).length=pre.length+1:=by rw[YS,List.length_singleton]
  have p:(vals (o.setIfInBounds j (some pre.length))).Perm (List.range (pre++[h]).length):=by
   unfold vals
   rw[Array.toList_setIfInBounds]
   refine(Zne o.toList j pre.length hj ?_).trans ?_
   .rw[Yh,YV,<-YI];exact e3
   .rw[lp,Ja]
    exact(List.Perm.cons pre.length h2).trans (List.perm_append_singleton pre.length (List.range pre.length)).symm
  obtain⟨o',a,b,c,d⟩:=Znf ht hm hs (pre++[h]) (o.setIfInBounds j (some pre.length)) (by rw[Array.size_setIfInBounds];exact h1) p ⋯ (λx k hk=>by
   rw[gs]at hk
   by_cases e:x=j
   .rw[Yd e]at hk
    cases hk
    subst e
    rw[Yh,Y4 (Yc _),Nat.sub_self]
    have:=fj.mono oc
    rw[<-ht]at this⊢
    exact this
   .rw[Yb e]at hk
    have hk2:k<pre.length:=Yy.mp (h2.mem_iff.mp (Zst hk))
    rw[Yh,Y8 hk2,<-Yh]
    exact(h4 x k hk).mono oc)
  rw[lp]at a c
  refine⟨o',?_,b,?_,?_⟩
  .rw[List.foldl_cons,st,a,YN,show pre.length+1+hs.length=pre.length+(hs.length+1) by omega]
  .rw[YN,show pre.length+(hs.length+1)=pre.length+1+hs.length by omega];exact c
  .intro x k hk
   have:=d x k hk
   rwa [YX]at this
theorem Zsu (n:Nat):vals (Array.replicate n none)=[]:=by
 unfold vals
 rw[Array.toList_replicate]
 induction n with
 |zero=>rfl
 |succ n ih=>rw[List.replicate_succ];exact ih
theorem Zu4 {m:Nat} (hm:Mask m) (fi mo:Nat) (le pl:Bool) (hs:Array Int) (hr:hs.size*5<m*3) :
  ∃t order,laid m fi mo le pl hs=some (t,order)/\Ok t hs.size/\t.led=le/\t.plain=pl/\t.mask=m/\order.toList.Perm (List.range hs.size) /\
   ∀i k,order.toList[i]?=some k->Front t.mask (Zcf t) (t.place.getD i 0) (t.probeStart (hs.toList.getD k 0)):=by
 have e0:layClean m hs=(hs.foldl (Zhj m) (some (Array.replicate (m+1) none,0))).map (·.1):=rfl
 rw[<-Array.foldl_toList]at e0
 obtain⟨o,e1,e2,e3,e4⟩:=Znf (t:={mask:=m,place:=#[],dummies:=#[],finger:=0,led:=true,moves:=0,plain:=true}) rfl hm hs.toList [] (Array.replicate (m+1) none) (by simp) (by rw[Zsu];exact List.Perm.refl _) (by rw[Yp];simp;omega) (λj k hk=>by
  rw[YI,Array.getElem?_replicate]at hk
  split at hk<;>cases hk)
 have e1:List.foldl (Zhj m) (some (Array.replicate (m+1) none,0)) hs.toList=_:=e1
 rw[e1]at e0
 have e0:layClean m hs=some o:=e0
 rw[List.length_nil,Nat.zero_add,Yp]at e3
 rw[List.nil_append]at e4
 have fst:((List.range (m+1)).filterMap λj=>(o.getD j none).map (j,·)).map (·.1)=(List.range (m+1)).filter λj=>(o.getD j none).isSome:=by
  generalize List.range (m+1)=l
  induction l with
  |nil=>rfl
  |cons x l ih =>
   rw[List.filterMap_cons,List.filter_cons]
   cases hx:o.getD x none with
   |none=>exact ih
   |some y=>exact congrArg (x::·) ih
 have snd:((List.range (m+1)).filterMap λj=>(o.getD j none).map (j,·)).map (·.2)=vals o:=by
  have:(List.range (m+1)).map (λj=>o.getD j none)=o.toList:=by
   apply List.ext_getElem
   .simp[e2]
   .intro i h1 h2
    rw[List.getElem_map,List.getElem_range,YI,<-YV,Yf h2]
    rfl
  unfold vals
  rw[<-this]
  generalize List.range (m+1)=l
  induction l with
  |nil=>rfl
  |cons x l ih =>
   rw[List.filterMap_cons,YR,List.filterMap_cons]
   cases hx:o.getD x none with
   |none=>exact ih
   |some y=>exact congrArg (y::·) ih
 refine⟨_,_,by unfold laid;rw[e0];rfl,⟨hm,?_,rfl,?_,?_,hr⟩,rfl,rfl,rfl,?_,?_⟩
 .rw[Ys,Yi,<-Yi (f:=(·.2)),snd,e3.length_eq,Y6]
 .show List.Pairwise _ _
  rw[fst]
  exact List.Pairwise.sublist List.filter_sublist List.pairwise_lt_range
 .intro x hx
  have hx:x∈((List.range (m+1)).filterMap λj=>(o.getD j none).map (j,·)).map (·.1):=hx
  rw[fst]at hx
  exact Nat.lt_succ_iff.mp (Yy.mp (YQ.mp hx).1)
 .show(((List.range (m+1)).filterMap λj=>(o.getD j none).map (j,·)).map (·.2)).Perm _
  rw[snd];exact e3
 .intro i k hk
  have hk:((((List.range (m+1)).filterMap λj=>(o.getD j none).map (j,·)).map (·.2))[i]?)=some k:=hk
  rw[YE]at hk
  cases hl:((List.range (m+1)).filterMap λj=>(o.getD j none).map (j,·))[i]? with
  |none=>rw[hl]at hk;cases hk
  |some q =>
   rw[hl]at hk
   have hk:q.2=k:=YM hk
   have hm1:=List.mem_of_getElem? hl
   obtain⟨j,hj,ej⟩:=List.mem_filterMap.mp hm1
   cases hx:o.getD j none with
   |none=>rw[hx]at ej;cases ej
   |some y =>
    rw[hx]at ej
    have ej:(j,y)=q:=YM ej
    subst ej
    have hk:y=k:=hk
    subst hk
    have F:=e4 j y hx
    have ep:(List.map (λx:Nat×Nat=>x.1) ((List.range (m+1)).filterMap λj=>(o.getD j none).map (j,·))).toArray.getD i 0=j:=by
     rw[Zbh,List.toList_toArray,Yh,YE,hl];rfl
    show Front m _ ((List.map (λx:Nat×Nat=>x.1) ((List.range (m+1)).filterMap λj=>(o.getD j none).map (j,·))).toArray.getD i 0) _
    rw[ep]
    refine F.mono λx ⟨y',hy⟩=>?_
    show x∈((List.range (m+1)).filterMap λj=>(o.getD j none).map (j,·)).map (·.1)
    rw[fst,YQ,hy]
    refine⟨Yy.mpr ?_,rfl⟩
    rw[<-e2]
    by_cases hx':x<o.size
    .exact hx'
    .rw[YI,Array.getElem?_eq_none ⋯]at hy;cases hy
theorem ZqR {t:SetTable}{n:Nat} (hm:Mask t.mask) (h0:n*5<t.mask*3) (h1:t.mask*3<=(n+1)*5) (hn:n<1228) (hs:Array Int) (hz:hs.size=n+1) :
  ∃t' order,t.relaid hs (grown (n+1))=some (t',order)/\Ok t' (n+1)/\t'.led=t.led/\t'.plain=t.plain/\order.toList.Perm (List.range (n+1))/\sizeAbove (grown (n+1))<=2048 /\
   ∀i k,order.toList[i]?=some k->Front t'.mask (Zcf t') (t'.place.getD i 0) (t'.probeStart (hs.toList.getD k 0)):=by
 have hg:∃m,Mask m/\sizeAbove (grown (n+1))-1=m/\(n+1)*5<m*3/\sizeAbove (grown (n+1))<=2048:=by
  rcases hm with e|e|e|e|e<;>rw[e]at h0 h1
  .have:n=4:= ⋯
   subst this;exact⟨31,.inr (.inl rfl),by decide,by decide,by decide⟩
  .have:n=18:= ⋯
   subst this;exact⟨127,.inr (.inr (.inl rfl)),by decide,by decide,by decide⟩
  .have:n=76:= ⋯
   subst this;exact⟨511,.inr (.inr (.inr (.inl rfl))),by decide,by decide,by decide⟩
  .have:n=306:= ⋯
   subst this;exact⟨2047,.inr (.inr (.inr (.inr rfl))),by decide,by decide,by decide⟩
  .omega
 obtain⟨m,g1,g2,g3,g4⟩:=hg
 unfold relaid
 rw[g2]
 obtain⟨t',order,a,b,c,d,e,f,g⟩:=Zu4 g1 t.finger (t.movedTo m) t.led t.plain hs (by rw[hz];exact g3)
 rw[hz]at b f
 exact⟨t',order,a,b,c,d,f,g4,g⟩
theorem Zoz {α:Type} (es:Array α) (order:Array Nat) (h:order.toList.Perm (List.range es.size)):(order.filterMap (es[·]?)).toList.Perm es.toList:=by
 rw[Array.toList_filterMap]
 refine(h.filterMap _).trans ?_
 have:(List.range es.size).filterMap (es[·]?)=es.toList:=by
  have e1:∀l:List α,(List.range l.length).filterMap (l[·]?)=l:=λl=>by
   induction l with
   |nil=>rfl
   |cons x l ih =>
    rw[YN,List.range_succ_eq_map,List.filterMap_cons]
    show x::_=_
    rw[List.filterMap_map]
    exact congrArg (x::·) ih
  have:=e1 es.toList
  rw[Yp]at this
  simpa using this
 rw[this]
theorem Ok.fits {t:SetTable}{n:Nat} (h:Ok t n):t.fits n=true:=by
 have:=h.room
 unfold SetTable.fits fill
 rw[h.size,h.no]
 simp;omega
theorem Ok.put {t:SetTable}{n:Nat} (h:Ok t n) {j:Nat} (hj:j<=t.mask) (he:t.slot j=.empty) :
  (t.put j).1.mask=t.mask/\(t.put j).1.led=t.led/\(t.put j).1.plain=t.plain/\(t.put j).1.dummies=#[]/\(t.put j).1.place.size=n+1/\Rise (t.put j).1.place/\(∀x∈(t.put j).1.place.toList,x<=t.mask)/\(t.put j).1.fits (n+1)=true:=by
 have hn:j∉t.place.toList:=by
  rcases Zep h.no h.rise j with⟨_,e⟩|⟨i,_,_,e⟩
  .exact e
  .rw[he]at e;cases e
 obtain⟨a,b⟩:=Zm8 h.rise hn
 have hd:(t.put j).1.dummies=#[]:=by
  unfold SetTable.put
  dsimp only
  rw[h.no]
  rfl
 have hs:(t.put j).1.place.size=n+1:=by
  show(insertAt t.place (below t.place j) j).size=_
  rw[<-Yp,b.length_eq,YN,Yp,h.size]
 refine⟨rfl,rfl,rfl,hd,hs,a,λx hx=>?_,?_⟩
 .rcases Yk.mp (b.mem_iff.mp hx)with rfl|hx
  .exact hj
  .exact h.within x hx
 .have:=h.room
  unfold SetTable.fits fill
  rw[hs,hd]
  have:(t.put j).1.mask=t.mask:=rfl
  rw[this]
  simp;omega
theorem Zsv (a b:Nat) (led:Bool):Ok (SetTable.fresh a b led) 0:=⟨.inl rfl,rfl,rfl,.nil,λx hx=>(by cases hx),(by show 0*5<7*3;omega)⟩
end ST
namespace ST
open PySem PySem.Spec PySem.SetTable PyProof.Rows
open PySem.W
theorem Zl3:Slot "set_iterator" "__next__" "set_iterator.__next__" :=
 Slot.of (owner:="set_iterator") (n:="__next__") (by rw[typeLookup_type,builtinLookup_eq_fast];kernel_rfl) (by decide +kernel) (by decide +kernel) (by decide +kernel) (by first|exact Or.inl (by decide +kernel)|exact Or.inr (by decide +kernel)) (by rw[isSubtype_type];kernel_rfl)
theorem enNext:entryFor table "set_iterator.__next__"=some Builtin.«set_iterator.__next__»:=entryFor_of_tree (by kernel_rfl)
theorem ZpS:Manifest.owners.lookup (String.ofList ['r','o','t','a','r','e','t','i','_','t','e','s'].reverse)=some Manifest.sig_set_iterator:=by kernel_rfl
theorem Zsw:Slot "set_iterator" "__iter__" "set_iterator.__iter__" :=
 Slot.of (owner:="set_iterator") (n:="__iter__") (by rw[typeLookup_type,builtinLookup_eq_fast];kernel_rfl) (by decide +kernel) (by decide +kernel) (by decide +kernel) (by first|exact Or.inl (by decide +kernel)|exact Or.inr (by decide +kernel)) (by rw[isSubtype_type];kernel_rfl)
theorem enSelf:entryFor table "set_iterator.__iter__"=some Builtin.«dict_keyiterator.__iter__»:=entryFor_alias (id':="dict_keyiterator.__iter__") (by kernel_rfl) rfl (by decide +kernel) (by kernel_rfl)
theorem arSelf (v:Value):argsOk "set_iterator.__iter__" ⟨[v],[]⟩:=by
 unfold argsOk
 rw[signature?_of (id:="set_iterator.__iter__") (n:=['_','_','r','e','t','i','_','_']) (o:=['r','o','t','a','r','e','t','i','_','t','e','s']) (by kernel_rfl) ZpS]
 kernel_rfl
theorem enIter:entryFor table "set.__iter__"=some Builtin.«frozenset.__iter__»:=entryFor_alias (id':="frozenset.__iter__") (by kernel_rfl) rfl (by decide +kernel) (by kernel_rfl)
theorem arNext (v:Value):argsOk "set_iterator.__next__" ⟨[v],[]⟩:=by
 unfold argsOk
 rw[signature?_of (id:="set_iterator.__next__") (n:=['_','_','t','x','e','n','_','_']) (o:=['r','o','t','a','r','e','t','i','_','t','e','s']) (by kernel_rfl) ZpS]
 kernel_rfl
theorem ZjB {α:Type}:∀(l:List α) (i:Nat) (h:i<l.length),(l[i]::l.eraseIdx i).Perm l
 |x::l,0,h=>List.Perm.refl _
 |x::l,i+1,h=>(List.Perm.swap x _ _).trans (List.Perm.cons x (ZjB l i (by simpa using h)))
theorem ZpT {α:Type} (f:Nat->Nat):∀(n k:Nat) (l:List α) (o:Array α),l.length=n->(pickOrder.go f n k l o).toList.Perm (o.toList++l)
 |0,k,l,o,h=>by
  have:l=[]:=List.length_eq_zero_iff.mp h
  subst this
  unfold pickOrder.go
  rw[List.append_nil]
 |n+1,k,l,o,h=>by
  have hlt:f k % l.length<l.length:=Nat.mod_lt _ ⋯
  unfold pickOrder.go
  rw[Yf hlt]
  dsimp only
  refine(ZpT f n (k+1) _ _ (by rw[List.length_eraseIdx_of_lt hlt];omega)).trans ?_
  rw[Array.toList_push,YX]
  exact List.Perm.append_left _ (ZjB l _ hlt)
theorem ZqS {α:Type} (f:Nat->Nat) (xs:Array α):(pickOrder f xs).toList.Perm xs.toList:=by
 unfold pickOrder
 exact ZpT f xs.size 0 xs.toList #[] Yp
noncomputable def TabAt (w:World) (h:Heap) (a:Addr) (es:Array (Int×Value)) (ep:Nat) (t:SetTable):Prop :=
 ∃o,h.get? a=some o/\o.ExactSet/\o.data=.set es ep t/\ST.Ok t es.size/\t.led=!w.params.followText "set-order"/\t.plain=true
noncomputable def Zff (w:World) (a:Addr) (ep:Nat) (es:Array (Int×Value)):Array (Int×Value):=if w.params.followText "set-order"=true then pickOrder (w.params.setOrder a ep) es else es
theorem ZjC (w:World) (a:Addr) (ep:Nat) (es:Array (Int×Value)):(Zff w a ep es).toList.Perm es.toList:=by
 unfold Zff
 split
 .exact ZqS _ _
 .exact List.Perm.refl _
noncomputable def Zng (h:Heap) (it a:Addr) (sl i n ep:Nat):Prop:=∃o,h.get? it=some o/\o.cls=.type "set_iterator"/\o.data=.fields #[.int sl 0,.int i 0,.ref a,.int n 0,.int ep 0]
section
variable {prog:Program}{w:World}{A:Around}{E:Value->Shared->Prop}{s:Shared}{a it:Addr}{es:Array (Int×Value)}{ep n i sl:Nat}{t:SetTable}
theorem TabAt.typeIs (h:TabAt w s.heap a es ep t):s.TypeIs (.ref a) "set":=by
 obtain⟨o,h1,h2,_⟩:=h
 exact⟨o,h1,h2.1⟩
theorem TabAt.at {h h':Heap} (x:TabAt w h a es ep t) (k:∀o,h.get? a=some o->h'.get? a=some o):TabAt w h' a es ep t:=by
 obtain⟨o,h1,h2⟩:=x
 exact⟨o,k o h1,h2⟩
theorem Zng.typeIs (h:Zng s.heap it a sl i n ep):s.TypeIs (.ref it) "set_iterator":=by
 obtain⟨o,h1,h2,_⟩:=h
 exact⟨o,h1,h2⟩
theorem Zng.at {h h':Heap} (x:Zng h it a sl i n ep) (k:∀o,h.get? it=some o->h'.get? it=some o):Zng h' it a sl i n ep:=by
 obtain⟨o,h1,h2⟩:=x
 exact⟨o,k o h1,h2⟩
theorem Zsx {Q:Value->Shared->Prop} (h:TabAt w s.heap a es ep t) (hQ:Q (.ref s.heap.objs.size) {s with heap:=s.heap.push {cls:=.type "set_iterator",data:=.fields #[.int 0 0,.int 0 0,.ref a,.int es.size 0,.int ep 0]}}) :
  wpAny (model prog w) A (pyIter (.ref a)) Q E s:=by
 have hT:=h.typeIs
 obtain⟨o,h1,h2,h3,h4,h5,h6⟩:=h
 refine wpAny_pyIter_slot hT F.slot_set_iter (wpAny_call_entry F.slot_set_iter hT enIter ?_ (F.args_set_iter_1 _))
 unfold Builtin.«frozenset.__iter__» Builtin.Frozenset.slot0 slotArgs
 simp only[List.isEmpty_nil,Bool.not_true,Bool.false_eq_true,↓reduceIte,bind_assoc,List.length_nil,bne_self_eq_false]
 unfold Builtin.Frozenset.addrOf Builtin.Frozenset.sizeOf setDrawn setsByText setEpoch
 refine Ya (Ye ?_)
 dsimp only
 refine Ya (Ye ?_)
 refine Ya (Ya (wpAny_setEntries_of h1 h3 h4.fits (Ye ?_)))
 simp only[bind_assoc]
 refine Ya (wpAny_setState_of h1 h3 h4.fits ?_)
 dsimp only
 refine Ya (wpAny_askSetting ?_)
 refine Ya (Ye (Ya (Ye ?_)))
 refine YO (λz=>absurd (show((!w.params.followText "set-order")&&(!t.plain&&decide (es.size>1)))=true from z) (by rw[h6];simp)) (λ_=>?_)
 refine Ya (Ye ?_)
 refine Ya (wpAny_setState_of h1 h3 h4.fits (Ya (Ye ?_)))
 unfold newFields
 refine Ya (wpAny_newObj_type (Ye ⟨_,rfl,"set_iterator",_,⟨_,YC _ rfl,rfl⟩,Zl3.lookup,hQ⟩))
theorem Zsy {Q:Bool->Shared->Prop} (hT:s.TypeIs (.ref a) "set") (h:Q false s):wpAny (model prog w) A (Builtin.List.listLengthHint (.ref a)) Q E s:=by
 unfold Builtin.List.listLengthHint
 refine Ya (wpAny_specialOf hT PySem.F.slot_set_len.lookup ?_)
 generalize hid:("set.__len__":String)=id0
 wp_delta
 rw[show splitId id0=some ("set","__len__")from by subst hid;decide +kernel]
 subst hid
 refine Ya (wpAny_isInstance (T:="set") (b:=true) hT (by rw[isSubtype_type];kernel_rfl) ?_)
 refine YO (λz=>absurd z nofun) (λ_=>?_)
 refine YO (λ_=>?_) (λz=>absurd (by decide +kernel) z)
 refine Ya (wpAny_typeOf hT ?_)
 exact Ye h
theorem ZoA {Q:Option (Value×Nat)->Shared->Prop} (h:TabAt w s.heap a es ep t) (hle:i<=es.size) (hsl:w.params.followText "set-order"=false->below t.place sl=i)
  (hQ:∀r,(i<es.size->∃e sl',r=some (e.2,sl')/\(Zff w a ep es)[i]?=some e/\(w.params.followText "set-order"=false->below t.place sl'=i+1))->(i=es.size->r=none)->Q r s) :
  wpAny (model prog w) A (setNext a sl i ep) Q E s:=by
 obtain⟨os,h1,h2,h3,h4,h5,h6⟩:=h
 have hz:=h4.size
 unfold setNext setsByText
 simp only[bind_assoc]
 refine Ya (wpAny_setState_of h1 h3 h4.fits ?_)
 dsimp only
 refine Ya (wpAny_askSetting ?_)
 refine Ya (Ye ?_)
 cases hb:w.params.followText "set-order" with
 |true =>
  have ew:Zff w a ep es=pickOrder (w.params.setOrder a ep) es:=by unfold Zff;rw[Yd hb]
  have sz:(Zff w a ep es).size=es.size:=by have:=(ZjC w a ep es).length_eq;simpa using this
  refine YO (λ_=>?_) (λz=>absurd (show w.params.followText "set-order"=true from hb) z)
  refine YO (λz=>absurd z (by simp)) (λ_=>?_)
  unfold setWalk setsByText
  simp only[bind_assoc]
  refine Ya (wpAny_setState_of h1 h3 h4.fits ?_)
  dsimp only
  refine Ya (wpAny_askSetting ?_)
  refine Ya (Ye ?_)
  refine Ya (YO (λ_=>?_) (λz=>absurd (show w.params.followText "set-order"=true from hb) z))
  refine Ya (wpAny_askSetting ?_)
  refine Ye ?_
  refine Ye ?_
  refine hQ _ (λhlt=>?_) (λhe=>?_)
  .have g:(Zff w a ep es)[i]?=some ((Zff w a ep es)[i]'⋯):=Array.getElem?_eq_getElem ⋯
   refine⟨_,sl,?_,g,λz=>absurd (hb.symm.trans z) nofun⟩
   show Option.map _ ((pickOrder (w.params.setOrder a ep) es)[i]?)=_
   rw[<-ew,g]
   rfl
  .show Option.map _ ((pickOrder (w.params.setOrder a ep) es)[i]?)=_
   rw[<-ew,Array.getElem?_eq_none ⋯]
   rfl
 |false =>
  have ew:Zff w a ep es=es:=by unfold Zff;rw[Yb (by rw[hb];decide)]
  have hs:=hsl hb
  refine YO (λz=>absurd (show w.params.followText "set-order"=true from z) (by rw[hb];decide)) (λ_=>?_)
  refine YO (λz=>absurd (show(!t.plain&&decide (es.size>1))=true from z) (by rw[h6];simp)) (λ_=>?_)
  refine Ya (YO (λz=>absurd (show(!t.led&&!es.isEmpty)=true from z) (by rw[h5,hb];simp)) (λ_=>Ye ?_))
  refine Ye (hQ _ (λhlt=>?_) (λhe=>?_))
  .refine⟨es[i],t.place.getD i 0+1,?_,by rw[ew];exact Array.getElem?_eq_getElem hlt,λ_=>Zox h4.rise ⋯⟩
   show(match es[below t.place sl]?,t.place[below t.place sl]? with|some (_,x),some j=>some (x,j+1)|_,_=>none)=_
   rw[hs,Array.getElem?_eq_getElem hlt,gq ⋯]
  .show(match es[below t.place sl]?,t.place[below t.place sl]? with|some (_,x),some j=>some (x,j+1)|_,_=>none)=_
   rw[hs,Array.getElem?_eq_none ⋯]
theorem Znh {Q:Option Value->Shared->Prop} (hh:A.handled=none) (hi:Zng s.heap it a sl i es.size ep) (h:TabAt w s.heap a es ep t) (hle:i<=es.size) (hsl:w.params.followText "set-order"=false->below t.place sl=i)
  (hQ:i<es.size->∀e h' sl',(Zff w a ep es)[i]?=some e->Zng h' it a sl' (i+1) es.size ep->(w.params.followText "set-order"=false->below t.place sl'=i+1)->Heap.ExtBut it s.heap h'->Q (some e.2) {s with heap:=h'})
  (hE:i=es.size->∀h',Heap.ExtBut it s.heap h'->Q none {s with heap:=h'}) :
  wpAny (model prog w) A (pyNext (.ref it)) Q E s:=by
 have hT:=hi.typeIs
 obtain⟨o,g1,g2,g3⟩:=hi
 have hx:=h
 obtain⟨os,h1,h2,h3,h4,h5,h6⟩:=h
 unfold pyNext
 refine Ya (wpAny_attempt (wpAny_callSpecial?_slot (name:=Str.ofString "__next__") hT Zl3 (wpAny_call_entry Zl3 hT enNext ?_ (arNext _))))
 unfold Builtin.«set_iterator.__next__» slotArgs
 simp only[List.isEmpty_nil,Bool.not_true,Bool.false_eq_true,↓reduceIte,bind_assoc,List.length_nil,bne_self_eq_false]
 refine Ya (Ye ?_)
 dsimp only
 refine Ya (wpAny_fieldsOf g1 g3 ?_)
 dsimp only
 refine Ya (wpAny_setEntries_of h1 h3 h4.fits ?_)
 rw[Yb (by simp)]
 refine Ya (m:=setNext a sl i ep) (ZoA hx hle hsl λr r1 r2=>?_)
 rcases Nat.lt_or_eq_of_le hle with hlt|he
 .obtain⟨e,sl',rfl,e1,e2⟩:=r1 hlt
  dsimp only
  refine Ya (wpAny_setField g1 g3 (by simp) ?_)
  have g1':(s.heap.update it (Obj.mapFields (·.setIfInBounds 0 (rawInt sl')))).get? it=some (Obj.mapFields (·.setIfInBounds 0 (rawInt sl')) o):=Heap.get?_update_self _ g1 (Obj.isFreed_of_fields (Obj.data_mapFields g3 _))
  have g3':=Obj.data_mapFields g3 (·.setIfInBounds 0 (rawInt sl'))
  refine Ya (wpAny_setField (s:={s with heap:=s.heap.update it (Obj.mapFields (·.setIfInBounds 0 (rawInt sl')))}) g1' g3' (by simp) ?_)
  refine Ye ⟨_,rfl,Ye (hQ hlt e _ sl' e1 ⟨_,Heap.get?_update_self _ g1' (Obj.isFreed_of_fields (Obj.data_mapFields g3' _)),(Obj.cls_mapFields ..).trans ((Obj.cls_mapFields ..).trans g2),by rw[Obj.data_mapFields g3'];simp[rawInt]⟩ e2 ?_)⟩
  exact((Heap.SameBut.update ..).trans (Heap.SameBut.update ..)).extBut
 .rw[r2 he]
  dsimp only
  refine Ya (wpAny_setField g1 g3 (by simp) ?_)
  show wpAny _ _ (newExc (.type "StopIteration") [] >>= _) _ _ _
  refine Ya ?_
  simp only[newExc,newTuple]
  refine Ya (wpAny_newObj_type ?_ (by size_fits))
  refine Ya (m:=firstArgMember _ _) (wpAny_of_eq (a:=Value.none) (by first|rfl|(simp only[firstArgMember];rfl)) ?_)
  refine wpAny_newObj_type ?_ (by size_fits)
  simp only[raiseNew]
  refine Ya (wpAny_handled ?_)
  rw[show A.in1.handled=none from hh]
  refine Ya (Ye (wpAny_throw ?_))
  refine Ya (wpAny_isInstance (T:="StopIteration") (b:=true) ⟨_,YC _ rfl,rfl⟩ isSubtype_stop ?_)
  exact Ye (hE he _ (((Heap.SameBut.update ..).extBut.push _).push _))
end
end ST
namespace ST
open PySem PySem.Spec PySem.SetTable PyProof.Rows
open PySem.W
theorem Ziq {α β:Type}{f:α->β}:∀{l m:List β},l.Perm m->∀xs:List α,m=xs.map f->∃ys:List α,l=ys.map f/\ys.Perm xs:=by
 intro l m h
 induction h with
 |nil=>intro xs e;exact⟨xs,e,.refl _⟩
 |cons x h ih =>
  intro xs e
  cases xs with
  |nil=>cases e
  |cons y xs =>
   rw[YR]at e
   injection e with e1 e2
   obtain⟨ys,a,b⟩:=ih xs e2
   exact⟨y::ys,by rw[YR,<-a,<-e1],b.cons y⟩
 |swap x y l =>
  intro xs e
  cases xs with
  |nil=>cases e
  |cons u xs =>
   cases xs with
   |nil=>cases e
   |cons v xs =>
    rw[YR,YR]at e
    injection e with e1 e2
    injection e2 with e2 e3
    exact⟨v::u::xs,by rw[YR,YR,<-e1,<-e2,<-e3],List.Perm.swap u v xs⟩
 |trans h1 h2 ih1 ih2 =>
  intro xs e
  obtain⟨ys,a,b⟩:=ih2 xs e
  obtain⟨zs,c,d⟩:=ih1 ys a
  exact⟨zs,c,d.trans b⟩
section
variable {prog:Program}{w:World}{A:Around}{E:Value->Shared->Prop}{s:Shared}{a:Addr}{es:Array (Int×Value)}{ep n:Nat}{t:SetTable}
theorem ZpU {h:Heap}{o:Obj} (ho:h.get? a=some o) (hd:o.data=.set es ep t) (es':Array (Int×Value)) (t':SetTable):(h.update a (Obj.putSet es' t')).get? a=some {o with data:=.set es' (ep+1) t'}:=by
 have:=Heap.get?_update_self (Obj.putSet es' t') ho (by rw[putSet_of es' t' hd];rfl)
 rw[putSet_of es' t' hd]at this
 exact this
theorem ZgI {n:Nat} (h:n<1300):n<=sizeLine:=fits_of_scanBound (Nat.lt_trans h nofun)
theorem Zsz {α β:Type} (f:α->Option β):∀(l:List α) (_:∀x∈l,(f x).isSome=true) {i:Nat},(l.filterMap f)[i]?=(l[i]?).bind f
 |[],_,i=>by simp
 |x::l,h,i=>by
  obtain⟨y,hy⟩:=Option.isSome_iff_exists.mp (h x (.head _))
  rw[List.filterMap_cons,hy]
  cases i with
  |zero=>exact hy.symm
  |succ i=>exact Zsz f l λz hz=>h z (.tail _ hz)
noncomputable def ZjD (t:SetTable) (es:Array (Int×Value)):Prop:=∀(i:Nat) (e:Int×Value),es[i]?=some e->Front t.mask (Zcf t) (t.place.getD i 0) (t.probeStart e.1)
theorem ZiR {α:Type} (xs:List α) (p:Nat) (x:α) (hp:p<=xs.length) (i:Nat):(xs.take p++x::xs.drop p)[i]?=if i<p then xs[i]? else if i=p then some x else xs[i-1]?:=by
 by_cases h1:i<p
 .rw[Yd h1,Y8 (by rw[Y9];omega),List.getElem?_take_of_lt h1]
 .rw[Yb h1,Y4 (by rw[Y9];omega),Y9,Nat.min_eq_left hp]
  by_cases h2:i=p
  .rw[Yd h2,h2,Nat.sub_self];rfl
  .rw[Yb h2]
   obtain⟨d,hd⟩:∃d,i-p=d+1:=⟨i-p-1,⋯⟩
   rw[hd,List.getElem?_cons_succ,List.getElem?_drop]
   congr 1;omega
theorem ZoB {k:Int}{x:Value}{j:Nat} (hk:Ok t es.size) (hF:ZjD t es) (hj:j<=t.mask) (he:t.slot j=.empty) (hN:Front t.mask (Zcf t) j (t.probeStart k)):ZjD (t.put j).1 (insertAt es (t.put j).2 (k,x)):=by
 have hn:j∉t.place.toList:=Zjy hk.no hk.rise he
 obtain⟨a1,a2,a3,a4,a5,a6,a7,a8⟩:=hk.put hj he
 obtain⟨r1,r2⟩:=Zm8 hk.rise hn
 have hb:below t.place j<=t.place.size:=(ZcS hk.rise j).1
 have oc:∀y,Zcf t y->Zcf (t.put j).1 y:=λy hy=>r2.mem_iff.mpr (.tail _ hy)
 have mv:∀{y:Nat}{h:Int},Front t.mask (Zcf t) y (t.probeStart h)->Front (t.put j).1.mask (Zcf (t.put j).1) y ((t.put j).1.probeStart h):=λF=>by
  have:=F.mono oc
  rw[<-a1]at this
  have e:(t.put j).1.probeStart=t.probeStart:=by funext h;rw[Zlb,Zlb];unfold Zl2 lead;rw[a1]
  rw[e];exact this
 intro i e hi
 have pe:(insertAt es (below t.place j) (k,x))[i]?=if i<below t.place j then es.toList[i]? else if i=below t.place j then some (k,x)else es.toList[i-1]?:=by
  rw[<-YV,SetTable.toList_insertAt,ZiR _ _ _ (by rw[Yp,<-hk.size];exact hb)]
 have pp:(insertAt t.place (below t.place j) j).getD i 0=(if i<below t.place j then t.place.toList[i]? else if i=below t.place j then some j else t.place.toList[i-1]?).getD 0:=by
  rw[Zbh,SetTable.toList_insertAt,Yh,ZiR _ _ _ (by rw[Yp];exact hb)]
 have hi:(insertAt es (below t.place j) (k,x))[i]?=some e:=hi
 rw[pe]at hi
 show Front _ _ ((insertAt t.place (below t.place j) j).getD i 0) _
 rw[pp]
 by_cases h1:i<below t.place j
 .rw[Yd h1]at hi⊢
  rw[YV]at hi
  have:=mv (hF i e hi)
  rwa [Zbh,Yh]at this
 .rw[Yb h1]at hi⊢
  by_cases h2:i=below t.place j
  .rw[Yd h2]at hi⊢
   cases hi
   exact mv hN
  .rw[Yb h2]at hi⊢
   rw[YV]at hi
   have:=mv (hF (i-1) e hi)
   rwa [Zbh,Yh]at this
theorem ZqT {k:Int}{x:Value}{j:Nat} (hk:Ok t n) (hz:es.size=n) (hn:n<1228) (hj:j<=t.mask) (he:t.slot j=.empty) :
  (insertAt es (t.put j).2 (k,x)).toList.Perm ((k,x)::es.toList)/\(insertAt es (t.put j).2 (k,x)).size=n+1/\(t.put j).1.fits (n+1)=true/\(t.put j).1.led=t.led/\(t.put j).1.plain=t.plain /\
  ((t.put j).1.tooFull=false->Ok (t.put j).1 (n+1)) /\
  ((t.put j).1.tooFull=true->∃t2 order,(t.put j).1.relaid ((insertAt es (t.put j).2 (k,x)).map (·.1)) (grown (n+1))=some (t2,order)/\Ok t2 (n+1)/\t2.led=t.led/\t2.plain=t.plain/\order.toList.Perm (List.range (n+1))/\sizeAbove (grown (n+1))<=2048 /\
   (order.filterMap ((insertAt es (t.put j).2 (k,x))[·]?)).toList.Perm ((k,x)::es.toList)/\(order.filterMap ((insertAt es (t.put j).2 (k,x))[·]?)).size=n+1/\ZjD t2 (order.filterMap ((insertAt es (t.put j).2 (k,x))[·]?))):=by
 obtain⟨a1,a2,a3,a4,a5,a6,a7,a8⟩:=hk.put hj he
 have hp:(insertAt es (t.put j).2 (k,x)).toList.Perm ((k,x)::es.toList):=by
  refine(SetTable.insertAt_perm es _ _).trans ?_
  rw[Array.toList_push]
  exact List.perm_append_singleton _ _
 have hs:(insertAt es (t.put j).2 (k,x)).size=n+1:=by
  rw[<-Yp,hp.length_eq,YN,Yp,hz]
 have hf:(t.put j).1.tooFull=decide ((n+1)*5 ≥ t.mask*3):=by
  unfold tooFull SetTable.fill
  rw[a5,a4,a1]
  rfl
 refine⟨hp,hs,a8,a2,a3,λhh=>⟨by rw[a1];exact hk.mask,a5,a4,a6,by rw[a1];exact a7,?_⟩,λhh=>?_⟩
 .rw[hf]at hh
  have:=of_decide_eq_false hh
  rw[a1];omega
 .rw[hf]at hh
  have:=YT hh
  obtain⟨t2,order,b1,b2,b3,b4,b5,b6,b7⟩:=ZqR (t:=(t.put j).1) (n:=n) (by rw[a1];exact hk.mask) (by rw[a1];exact hk.room) (by rw[a1];omega) hn ((insertAt es (t.put j).2 (k,x)).map (·.1)) (by rw[Array.size_map,hs])
  have q:=Zoz (insertAt es (t.put j).2 (k,x)) order (by rw[hs];exact b5)
  refine⟨t2,order,b1,b2,b3.trans a2,b4.trans a3,b5,b6,q.trans hp,?_,λi e he=>?_⟩
  .rw[<-Yp,q.length_eq,Yp,hs]
  .rw[<-YV,Array.toList_filterMap,Zsz _ _ (λx hx=>by
    have:=Yy.mp (b5.mem_iff.mp hx)
    rw[Array.getElem?_eq_getElem ⋯];rfl)]at he
   cases ho:order.toList[i]? with
   |none=>rw[ho]at he;cases he
   |some y =>
    rw[ho]at he
    have he:(insertAt es (t.put j).2 (k,x))[y]?=some e:=he
    have:=b7 i y ho
    rw[Yh,YV,Array.getElem?_map,he]at this
    exact this
end
theorem Zu5 {prog:Program}{w:World}{a:Addr}{es:Array (Int×Value)}{ep:Nat}{t:SetTable} (hlt:∀h,TabAt w h a es ep t->a<h.objs.size) :
  KdlSrc prog w "set" a a es.size (λi v=>∃e,(Zff w a ep es)[i]?=some e/\v=e.2) (λh=>TabAt w h a es ep t) where
 type:=λs x=>x.typeIs
 there:=λh x=>⟨hlt h x,hlt h x⟩
 keep:=λh h' x k=>x.at λo e=>k a (.inl rfl) o e
 notList:=by decide
 notTuple:=by decide
 hint:=λA E s Q x hq=>Zsy x.typeIs hq
 iter:=λA s hh x=>⟨_,λi h=>i<=es.size/\∃sl,Zng h s.heap.objs.size a sl i es.size ep/\(w.params.followText "set-order"=false->below t.place sl=i)/\TabAt w h a es ep t,λE Q hq=>Zsx x hq,
  {sub:=λb hb=>Yk.mpr (.inl (Y2.mp hb))
   frame:=λi h h' st k=>by
    obtain⟨a0,sl,a1,a2,a3⟩:=st
    exact⟨a0,sl,a1.at λo e=>k _ (.head _) o e,a2,a3.at λo e=>k a (.tail _ (.head _)) o e⟩
   item:=λi s' Q E hi st hQ=>by
    obtain⟨a0,sl,a1,a2,a3⟩:=st
    refine Znh hh a1 a3 a0 a2 (λ_ e h' sl' e1 e2 e3 e4=>hQ e.2 h' s'.toks ⟨e,e1,rfl⟩ ⟨hi,sl',e2,e3,a3.at λo eo=>e4 a o (Yo (hlt _ x)) eo⟩ λb o hb eo=>e4 b o (λz=>hb (Y2.mpr z)) eo) λz=>absurd z (Yo hi)
   done:=λs' Q E st hQ=>by
    obtain⟨a0,sl,a1,a2,a3⟩:=st
    exact Znh hh a1 a3 a0 a2 (λz=>absurd z (YA _)) λ_ h' e4=>hQ h' s'.toks λb o hb eo=>e4 b o (λz=>hb (Y2.mpr z)) eo
   self:=λi s' Q E st hQ=>by
    obtain⟨a0,sl,a1,a2,a3⟩:=st
    refine wpAny_pyIter_slot a1.typeIs Zsw (wpAny_call_entry Zsw a1.typeIs enSelf ?_ (arSelf _))
    show wpAny _ _ (ret (.ref _)) _ _ _
    exact Ye ⟨_,rfl,"set_iterator",_,a1.typeIs,Zl3.lookup,hQ⟩},
  ⟨Yq _,0,⟨_,YC _ rfl,rfl,rfl⟩,λ_=>(by obtain⟨_,_,_,_,ok,_⟩:=x;exact Zoy ok.rise),x.at λo e=>Ym _ e⟩⟩
end ST
namespace Lake
open PySem PySem.Spec PyProof.Rows PySem.W
end Lake
namespace ST
open PySem PySem.Spec PySem.SetTable PyProof.Rows
open PySem.W
section
variable {prog:Program}{w:World}{A:Around}{E:Value->Shared->Prop}{s:Shared}{a:Addr}{es:Array (Int×Value)}{ep n:Nat}{t:SetTable}
theorem items_int {ks:List Int}{vs:List Value} (h:ItemsAre (intKind prog w) ks vs):∀v∈vs,∃(i:Int) (t:Tok),v=.int i t:=by
 induction h with
 |nil=>intro v hv;cases hv
 |cons h1 h2 ih =>
  intro v hv
  rcases Yk.mp hv with rfl|hv
  .obtain⟨t,e⟩:=Value.isInt_shape h1
   exact⟨_,t,e⟩
  .exact ih v hv
theorem ZsA {k:List Int}{x:Addr}{Q:Bool->Shared->Prop} (hk:IsTupleKey (intKind prog w) s.heap k x) (h:Q false s):wpAny (model prog w) A (ofAClassStatement 8 (.ref x)) Q E s:=by
 have hT:=hk.typeIs
 obtain⟨o,items,n,ho,_,hd,hi⟩:=hk
 have hv:=items_int hi
 unfold ofAClassStatement
 refine Ya (wpAny_typeOf hT ?_)
 refine YO (λ_=>?_) (λz=>absurd rfl z)
 refine Ya (Ye ?_)
 refine YO (λz=>absurd z nofun) (λ_=>?_)
 refine Ya (wpAny_seqItems ho hd ?_)
 show wpAny _ _ (forIn items _ _ >>= _) _ _ s
 refine Ya ?_
 rw[<-Array.forIn_toList]
 refine wpAny_forIn_list _ (λrest r s'=>r.1=none/\s'=s/\∀v∈rest,∃(i:Int) (t:Tok),v=.int i t) _ ?_ ?_ _ _ ⟨rfl,rfl,hv⟩
 .rintro v rest r s' ⟨hr,rfl,hall⟩
  obtain⟨i,t,rfl⟩:=hall v Yv
  refine Ya (m:=ofAClassStatement _ _) (wpAny_of_eq (a:=false) (by unfold ofAClassStatement;rfl) ?_)
  refine YO (λz=>absurd z nofun) (λ_=>?_)
  exact Ye ⟨rfl,rfl,λu hu'=>hall u (Yu _ hu')⟩
 .rintro⟨r1,r2⟩ s' ⟨hr,rfl,_⟩
  simp only at hr
  subst hr
  exact Ye h
theorem by_val {k:List Int}{x:Addr}{Q:Bool->Shared->Prop} (hk:IsTupleKey (intKind prog w) s.heap k x) (h:Q true s):wpAny (model prog w) A (hashByValue 8 (.ref x)) Q E s:=by
 have hT:=hk.typeIs
 obtain⟨o,items,n,ho,_,hd,hi⟩:=hk
 have hv:=items_int hi
 unfold hashByValue
 refine Ya (wpAny_specialOf hT F.slot_tuple_hash.lookup ?_)
 show wpAny _ _ (seqItems? (.ref x) >>= _) _ _ s
 refine Ya (wpAny_seqItems ho hd ?_)
 show wpAny _ _ (forIn items _ _ >>= _) _ _ s
 refine Ya ?_
 rw[<-Array.forIn_toList]
 refine wpAny_forIn_list _ (λrest r s'=>r.1=none/\s'=s/\∀v∈rest,∃(i:Int) (t:Tok),v=.int i t) _ ?_ ?_ _ _ ⟨rfl,rfl,hv⟩
 .rintro v rest r s' ⟨hr,rfl,hall⟩
  obtain⟨i,t,rfl⟩:=hall v Yv
  refine Ya (m:=hashByValue _ _) (wpAny_of_eq (a:=true) (by unfold hashByValue;rfl) ?_)
  refine YO (λz=>absurd z nofun) (λ_=>?_)
  exact Ye ⟨rfl,rfl,λu hu'=>hall u (Yu _ hu')⟩
 .rintro⟨r1,r2⟩ s' ⟨hr,rfl,_⟩
  simp only at hr
  subst hr
  exact Ye h
theorem unseen {k:List Int}{x:Addr}{Q:Bool->Shared->Prop} (hk:IsTupleKey (intKind prog w) s.heap k x) (vs:List Value) (hvs:∀v∈vs,∃k' y,v=.ref y/\IsTupleKey (intKind prog w) s.heap k' y) (h:Q false s):wpAny (model prog w) A (searchCouldBeSeen (.ref x) vs) Q E s:=by
 unfold searchCouldBeSeen
 refine Ya ?_
 refine wpAny_forIn_list _ (λrest r s'=>r.1=none/\s'=s/\∀v∈rest,∃k' y,v=.ref y/\IsTupleKey (intKind prog w) s.heap k' y) _ ?_ ?_ _ _ ⟨rfl,rfl,hvs⟩
 .rintro v rest r s' ⟨hr,rfl,hall⟩
  obtain⟨k',y,rfl,hy⟩:=hall v Yv
  refine YO (λ_=>Ye ⟨rfl,rfl,λu hu'=>hall u (Yu _ hu')⟩) (λ_=>?_)
  refine Ya (wpAny_eqIsQuiet_tuple hk ?_)
  refine YO (λz=>absurd z nofun) (λ_=>?_)
  refine Ya (wpAny_eqIsQuiet_tuple hy ?_)
  refine YO (λz=>absurd z nofun) (λ_=>?_)
  refine Ya (ZsA hk ?_)
  refine YO (λz=>absurd z nofun) (λ_=>?_)
  refine Ya (ZsA hy ?_)
  refine YO (λz=>absurd z nofun) (λ_=>?_)
  exact Ye ⟨rfl,rfl,λu hu'=>hall u (Yu _ hu')⟩
 .rintro⟨r1,r2⟩ s' ⟨hr,rfl,_⟩
  simp only at hr
  subst hr
  exact Ye h
noncomputable def ZaE (prog:Program) (w:World) (k:List Int):Int:=tupleKeyHash (intKind prog w) k
noncomputable def ZpV (prog:Program) (w:World) (h:Heap) (es:Array (Int×Value)) (xs:List (List Int×Addr)):Prop:=es.toList=xs.map (λp=>(ZaE prog w p.1,Value.ref p.2))/\∀p∈xs,IsTupleKey (intKind prog w) h p.1 p.2
theorem ZpV.get {h:Heap}{xs:List (List Int×Addr)} (R:ZpV prog w h es xs) {i:Nat} (hi:i<es.size):∃k y,xs[i]?=some (k,y)/\es[i]?=some (ZaE prog w k,.ref y)/\IsTupleKey (intKind prog w) h k y:=by
 have e:=R.1
 have hl:es.size=xs.length:=by rw[<-Yp,e,Yi]
 refine⟨(xs[i]'⋯).1,(xs[i]'⋯).2,Yf ⋯,?_,R.2 _ (YF _)⟩
 rw[<-YV,e,YE,Yf ⋯];rfl
theorem ZqU {k:List Int}{x:Addr}{xs:List (List Int×Addr)}{Q:SetFound->Shared->Prop} (hu:A.units<cLine) (hk:IsTupleKey (intKind prog w) s.heap k x) (hT:TabAt w s.heap a es ep t) (R:ZpV prog w s.heap es xs)
  (hin:k∈xs.map (·.1)->Q (.there none) s) (hout:k∉xs.map (·.1)->∀j,j<=t.mask->t.slot j=.empty->Front t.mask (Zcf t) j (t.probeStart (ZaE prog w k))->Q (.free j false) s) :
  ∀(n fuel:Nat) (stand:Option Probe),n<fuel->n<10*turns t.mask->Reach t n (stand.getD (t.probeStart (ZaE prog w k))) ->
   (∀i y,xs[i]?=some (k,y)->Front t.mask (Zcf t) (t.place.getD i 0) (stand.getD (t.probeStart (ZaE prog w k)))) ->
   (∀j,Front t.mask (Zcf t) j (stand.getD (t.probeStart (ZaE prog w k)))->Front t.mask (Zcf t) j (t.probeStart (ZaE prog w k))) ->
   wpAny (model prog w) A (setSearchFrom a (.ref x) (ZaE prog w k) true fuel stand) Q E s:=by
 have hT0:=hT
 obtain⟨o,h1,h2,h3,h4,h5,h6⟩:=hT
 have hl:es.size=xs.length:=by rw[<-Yp,R.1,Yi]
 intro n
 induction n using Nat.strongRecOn with
 |ind n ih =>
  intro fuel stand hf hn hR hF hB
  obtain⟨fuel,rfl⟩:∃g,fuel=g+1:=⟨fuel-1,⋯⟩
  unfold setSearchFrom
  refine Ya (wpAny_setState_of h1 h3 h4.fits ?_)
  dsimp only
  refine YO (λz=>absurd z ?_) (λ_=>?_)
  .unfold gaveWay
   rcases h4.mask with e|e|e|e|e<;>rw[e]<;>decide
  unfold probe
  rcases ZqP h4.no h4.rise (λi=>(es[i]?.map (·.1)).getD 0) (ZaE prog w k) hR (10*turns t.mask) hn with⟨j,e,g1,g2,g3,g4⟩|⟨j,i,next,m,e,g1,g2,g3,g4,g5,g6,g7⟩
  .generalize hG:probe.go t _ _ _ _=G
   have hG2:G=some (.empty j none):=hG.symm.trans e
   subst hG2
   refine Ye (hout (λhm=>?_) j g1 g2 (hB j g3))
   obtain⟨p,hp,ep⟩:=YK.mp hm
   obtain⟨i,hi,ei⟩:=YZ hp
   have hx:xs[i]?=some (k,p.2):=by rw[Yf hi,ei,<-ep]
   obtain⟨k',y,q1,q2,_⟩:=R.get (i:=i) ⋯
   rw[hx]at q1
   cases q1
   exact g4 i (by rw[h4.size];omega) (by rw[q2];rfl) (hF i _ hx)
  .generalize hG:probe.go t _ _ _ _=G
   have hG2:G=some (.candidate j i next):=hG.symm.trans e
   subst hG2
   dsimp only
   obtain⟨k',y,q1,q2,q3⟩:=R.get (i:=i) (by rw[<-h4.size];exact g1)
   have go:wpAny (model prog w) A (do
     let some (_,y):=es[i]?|unsupported "internal:set-entry"
     let equal <-holding [y] (eqBool y (.ref x))
     let (es',_,t') <-setState a
     if true&&equal then return .there none
     let some smm:=t'.sameMemory t.moves t.mask|unsupported "set.changed-during-lookup:is-the-new-block-at-the-old-address"
     let still <-match (if smm then t'.slot j else .empty)with
      |.live i'=>match es'[i']? with
       |some (_,y')=>do pure (if <-isSame y' y then some i' else none)
       |none=>pure none
      |_=>pure none
     match still with
     |none=>rule "set.search.anew";setSearchFrom a (.ref x) (ZaE prog w k) true fuel none
     |some i'=>if equal then return .there (some i')else setSearchFrom a (.ref x) (ZaE prog w k) true fuel (some next)) Q E s:=by
    rw[q2]
    dsimp only
    refine Ya (YH ((tupleKind (intKind prog w)).eqBool hu q3 hk ?_))
    refine Ya (wpAny_setState_of h1 h3 h4.fits ?_)
    dsimp only
    by_cases hkk:k'=k
    .rw[Yt hkk]
     simp only[Bool.true_and,if_true]
     exact Ye (hin (hkk▸YK.mpr ⟨_,List.mem_of_getElem? q1,rfl⟩))
    .rw[Yz hkk]
     simp only[Bool.true_and,Bool.and_false,Bool.false_eq_true,if_false]
     have hsm:t.sameMemory t.moves t.mask=some true:=by unfold sameMemory;simp
     rw[hsm]
     dsimp only
     simp only[if_true]
     rw[g2]
     dsimp only
     rw[q2]
     dsimp only
     refine Ya (m:=isSame (.ref y) (.ref y)) (wpAny_of_eq (a:=true) (by unfold isSame;simp) ?_)
     refine Ya (Ye ?_)
     simp only[if_true]
     refine ih m g4 fuel (some next) ⋯ ⋯ g5 (λi' y' hx=>?_) (λj' F=>hB j' (g6 j' F))
     obtain⟨k2,y2,r1,r2,_⟩:=R.get (i:=i') (by
      have:=Yw.mp hx
      obtain⟨hh,_⟩:=this
      omega)
     rw[hx]at r1
     cases r1
     refine g7 i' (by rw[h4.size];obtain⟨hh,_⟩:=Yw.mp hx;omega) (by rw[r2];rfl) (λz=>hkk ?_) (hF i' _ hx)
     subst z
     rw[hx]at q1;cases q1;rfl
   refine YO (λ_=>?_) (λ_=>go)
   refine Ya (unseen hk _ (λv hv=>?_) ?_)
   .obtain⟨e',he',rfl⟩:=YK.mp hv
    have he2:e'∈es.toList:=by
     have:=Array.mem_toList_iff.mp he'
     exact Array.mem_toList_iff.mpr (Array.mem_filter.mp this).1
    rw[R.1]at he2
    obtain⟨p,hp,rfl⟩:=YK.mp he2
    exact⟨p.1,p.2,rfl,R.2 p hp⟩
   .refine YO (λz=>absurd z nofun) (λ_=>go)
noncomputable def ZfB (prog:Program) (w:World) (N:List Int->Addr->Prop) (o:Obj) (kss:List (List Int)):Prop :=
 ∃(es:Array (Int×Value)) (ep:Nat) (t:SetTable) (xs:List (List Int×Addr)),(o.ExactSet/\o.data=.set es ep t/\ST.Ok t es.size/\t.led=!w.params.followText "set-order"/\t.plain=true)/\ZjD t es /\
  es.toList=xs.map (λp=>(ZaE prog w p.1,Value.ref p.2))/\(∀p∈xs,N p.1 p.2)/\(xs.map (·.1)).Perm kss/\kss.Nodup
theorem ZfB.fresh (prog:Program) (w:World) (N:List Int->Addr->Prop):ZfB prog w N {cls:=.type "set",dict:=none,data:=.set #[] 0 (.fresh 0 0 (!w.params.followText "set-order"))} [] :=
 ⟨#[],0,_,[],⟨⟨rfl,rfl,rfl⟩,rfl,Zsv _ _ _,rfl,rfl⟩,λi e h=>(by cases h),rfl,λp hp=>(by cases hp),.refl _,.nil⟩
theorem Zu6 {N:List Int->Addr->Prop}{o:Obj}{kss:List (List Int)}{k:List Int}{x:Addr}{Q:Bool->Shared->Prop} (hu:A.units<cLine) (h1:s.heap.get? a=some o) (hN:∀k y,N k y->IsTupleKey (intKind prog w) s.heap k y) (hk:N k x) (hS:ZfB prog w N o kss) (hroom:kss.length<1228)
  (h:∀b o' h' tk,Heap.SameBut a s.heap h'->h'.get? a=some o'->ZfB prog w N o' (if k∈kss then kss else k::kss)->Q b {s with heap:=h',toks:=tk}) :
  wpAny (model prog w) A (setAdd a (.ref x)) Q E s:=by
 have hkN:=hk
 replace hk:=hN k x hk
 unfold setAdd
 refine YH (Ya ((tupleKind (intKind prog w)).pyHash hu hk ?_))
 generalize s.toks+(tupleKind (intKind prog w)).draws k=tk0
 obtain⟨es,ep,t,xs,⟨h2,h3,h4,h5,h6⟩,hF,R0,RN,e3,e4⟩:=id hS
 have R:ZpV prog w s.heap es xs:=⟨R0,λp hp=>hN _ _ (RN p hp)⟩
 have hl:es.size=xs.length:=by rw[<-Yp,R.1,Yi]
 have hlen:es.size=kss.length:=by rw[hl,<-Yi (f:=(·.1)),e3.length_eq]
 show wpAny _ _ (setAddHashed a (.ref x) (ZaE prog w k)) _ _ _
 unfold setAddHashed setAddHashedIn
 refine YH (Ya (wpAny_setState_of (s:={s with toks:=tk0}) h1 h3 h4.fits ?_))
 dsimp only
 rw[show byScan (.ref x) es=false from rfl]
 simp only[Bool.false_eq_true,if_false]
 unfold setSearch
 obtain⟨n0,hn0,S0⟩:=h4.start (ZaE prog w k)
 have hsm:n0<100000:=by
  have:=h4.mask
  unfold turns at hn0
  rcases this with e|e|e|e|e<;>rw[e]at hn0<;>omega
 refine Ya (ZqU (s:={s with toks:=tk0}) (xs:=xs) hu hk ⟨o,h1,h2,h3,h4,h5,h6⟩ R (λhm=>?_) (λhm j g1 g2 g3=>?_) n0 100000 none hsm hn0 S0 (λi y hx=>?_) (λj F=>F))
 .have hm':k∈kss:=e3.mem_iff.mp hm
  exact Ye (h false o s.heap tk0 (Heap.SameBut.refl a s.heap) h1 (by rw[Yd hm'];exact hS))
 .have hm':k∉kss:=λz=>hm (e3.mem_iff.mpr z)
  dsimp only
  refine Ya (wpAny_setState_of (s:={s with toks:=tk0}) h1 h3 h4.fits ?_)
  dsimp only
  obtain⟨p1,p2,p3,p4,p5,p6,p7⟩:=ZqT (k:=ZaE prog w k) (x:=.ref x) h4 rfl ⋯ g1 g2
  have pF:=ZoB (k:=ZaE prog w k) (x:=.ref x) h4 hF g1 g2 g3
  have hdone:∀(es2:Array (Int×Value)) (ep2:Nat) (t2:SetTable),Ok t2 (es.size+1)->t2.led=t.led->t2.plain=t.plain->ZjD t2 es2->es2.toList.Perm ((ZaE prog w k,.ref x)::es.toList)->ZfB prog w N {o with data:=.set es2 ep2 t2} (if k∈kss then kss else k::kss):=by
   intro es2 ep2 t2 hO hl2 hp hF2 hq
   rw[Yb hm']
   have hsz:es2.size=es.size+1:=by rw[<-Yp,hq.length_eq,YN,Yp]
   obtain⟨ys,y1,y2⟩:=Ziq (f:=λp:List Int×Addr=>(ZaE prog w p.1,Value.ref p.2)) hq ((k,x)::xs) (by rw[YR,<-R.1])
   refine⟨es2,ep2,t2,ys,⟨h2,rfl,by rw[hsz];exact hO,hl2.trans h5,hp.trans h6⟩,hF2,y1,λp hp=>?_,(List.Perm.map (λp:List Int×Addr=>p.1) y2).trans (List.Perm.cons k e3),List.nodup_cons.mpr ⟨hm',e4⟩⟩
   rcases Yk.mp (y2.mem_iff.mp hp)with rfl|hp
   .exact hkN
   .exact RN p hp
  rw[show(t.put j).1.plain=true from p5.trans h6]
  simp only[if_true]
  refine Ya (by_val (s:={s with toks:=tk0}) hk ?_)
  simp only[if_true]
  refine Ya (wpAny_storeSet_of (s:={s with toks:=tk0}) h1 h3 ?_ (ZgI (by rw[p2];omega)))
  have k1:=ZpU h1 h3 (insertAt es (t.put j).2 (ZaE prog w k,.ref x)) (t.put j).1
  have k2:=Heap.SameBut.update s.heap a (Obj.putSet (insertAt es (t.put j).2 (ZaE prog w k,.ref x)) (t.put j).1)
  cases hf:(t.put j).1.tooFull with
  |false =>
   refine YO (λz=>absurd z nofun) (λ_=>?_)
   exact Ye (h true _ _ tk0 k2 k1 (hdone _ _ _ (p6 hf) p4 p5 pF p1))
  |true =>
   obtain⟨t2,order,r1,r2,r3,r4,r5,r6,r7,r8,r9⟩:=p7 hf
   refine YO (λ_=>?_) (λz=>absurd nofun z)
   unfold setRelay
   refine Ya ?_
   refine Ya (wpAny_setState_of (s:={s with toks:=tk0,heap:=s.heap.update a (Obj.putSet (insertAt es (t.put j).2 (ZaE prog w k,.ref x)) (t.put j).1)}) k1 rfl (by rw[p2];exact p3) ?_)
   dsimp only
   refine YO (λz=>absurd z (Nat.not_lt.mpr (Yr r6 nofun))) (λ_=>?_)
   rw[r1]
   generalize insertAt es (t.put j).2 (ZaE prog w k,.ref x)=es1 at p1 p2 k1 k2 r1 r7 r8 r9⊢
   have go:wpAny (model prog w) A (do
     let some (t,order):=(some (t2,order):Option (SetTable×Array Nat))|unsupported "internal:set-table-without-room"
     let es':=order.filterMap (es1[·]?)
     if es'.size != es1.size then unsupported "internal:set-table-lost-an-element"
     pure (es',t)) (λr s'=>wpAny (model prog w) A (storeSet a r.1 r.2) (λ_ s'=>wpAny (model prog w) A (pure true) Q E s') E s') E {s with heap:=s.heap.update a (Obj.putSet es1 (t.put j).1),toks:=tk0}:=by
    dsimp only
    refine YO (λz=>absurd z (by rw[r8,p2];simp)) (λ_=>?_)
    refine Ye ?_
    refine(wpAny_storeSet_of (s:={s with heap:=s.heap.update a (Obj.putSet es1 (t.put j).1),toks:=tk0}) k1 rfl ?_ (ZgI (by dsimp only;rw[r8];omega)))
    have k3:=ZpU k1 rfl (order.filterMap (es1[·]?)) t2
    have k4:=k2.trans (Heap.SameBut.update _ a (Obj.putSet (order.filterMap (es1[·]?)) t2))
    exact Ye (h true _ _ tk0 k4 k3 (hdone _ _ _ r2 r3 r4 r9 r7))
   exact Ya go
 .obtain⟨k2,y2,q1,q2,_⟩:=R.get (i:=i) (by obtain⟨hh,_⟩:=Yw.mp hx;omega)
  rw[hx]at q1
  cases q1
  exact hF i _ q2
end
end ST
namespace Lake
open PySem PySem.Spec PyProof.Rows PySem.W
theorem ZjE {P:Program}{w:World}:∀{ks:List Int}{us:List Value},Vals (ks.map V.int) us->ItemsAre (intKind P w) ks us
 |[],_,.nil=>.nil
 |k::ks,_,.cons e r=>by
  obtain⟨t,rfl⟩:=(show ∃t,_=Value.int k t from e)
  exact .cons (intKind_is _ _ _ _) (ZjE r)
theorem ZsB {P:Program}{w:World}{H:Hp}{h:Heap}{q:Addr}{k:List Int} (hok:HOk P w H h) (hq:H q=some (.tup (k.map V.int))):IsTupleKey (intKind P w) h k q:=by
 obtain⟨_,its,hv,o,e,hc,n,hd⟩:=hok q _ hq
 exact⟨o,its.toArray,n,e,hc,hd,by simpa using ZjE hv⟩
theorem Zl4 (elt target iter:Expr) (ifs:List Expr) (scope:Scope) (pos:Pos) (it acc:Value) (env:Env) :
  compTurn (.SetComp elt [⟨target,iter,ifs,0⟩] scope pos) 0 it acc env=(do
   standAt iter.pos
   match <-pyNext it with
   |none=>pure (.done .next)
   |some v =>
    letOwnedTupleGo target it v
    assign target env v
    let mut ok:=true
    for c in ifs do
     if ok then ok <-isTrue c env (eval c env)
    if ok then
     (do let v <-eval elt env;standAt elt.pos;let _ <-call (.builtin "set.add") [acc,v])
    again (.compLoop (.SetComp elt [⟨target,iter,ifs,0⟩] scope pos) 0 it acc env)):=by rfl
theorem Zni {prog:Program}{w:World}{A:Around}{R:Result->Shared->Prop}{s:Shared}{elt target iter:Expr}{ifs:List Expr}{scope:Scope}{pos:Pos}{it acc:Value}{env:Env} (I:Nat->Shared->Prop)
  (turn:∀n s,I n s->wpAny (model prog w) A (pyNext it) (λr s₁=>match r with
   |none=>R (.ok .next) s₁
   |some v=>wpAny (model prog w) A (letOwnedTupleGo target it v) (λ_ s₁=>wpAny (model prog w) A (assign target env v) (λ_ s₂ =>
     wpAny (model prog w) A (forIn ifs true λc r=>if r=true then do let ok <-isTrue c env (eval c env);pure (ForInStep.yield ok)else pure (ForInStep.yield r)) (λok s₃ =>
      if ok=true then wpAny (model prog w) A (eval elt env) (λx s₄ =>
       wpAny (model prog w) A (call (.builtin "set.add") [acc,x]) (λ_ s₅=>∃m,m<n/\I m s₅) (λ_ _=>False) s₄) (λ_ _=>False) s₃
      else ∃m,m<n/\I m s₃) (λ_ _=>False) s₂) (λ_ _=>False) s₁) (λ_ _=>False) s₁) (λ_ _=>False) s)
  (n:Nat) (h:I n s) :
  codeAny (model prog w) A (.compLoop (.SetComp elt [⟨target,iter,ifs,0⟩] scope pos) 0 it acc env) R s:=by
 refine codeAny_loop rfl I (λn s hI=>?_) n h
 show wpAny _ A ((compTurn (.SetComp elt [⟨target,iter,ifs,0⟩] scope pos) 0 it acc env).onRaise (λx=>do noteFrame x env;theTreesLotGoes x)) _ _ s
 refine wpAny_noted ?_
 rw[Zl4]
 refine Ya (wpAny_standAt (Ya (YJ (turn n s hI) (λr s₁ h₁=>?_) λ_ _ h'=>h'.elim)))
 cases r with
 |none=>exact Ye h₁
 |some v =>
  refine Ya (YJ h₁ (λ_ s₁' h₁=>?_) λ_ _ h'=>h'.elim)
  refine Ya (YJ h₁ (λ_ s₂ h₂=>Ya (YJ h₂ (λok s₃ h₃=>?_) λ_ _ h'=>h'.elim)) λ_ _ h'=>h'.elim)
  cases ok with
  |false=>exact Ye ⟨rfl,h₃⟩
  |true =>
   exact Ya (Ya (YJ h₃ (λx s₄ h₄=>Ya (wpAny_standAt (Ya (YJ h₄ (λ_ s₅ h₅=>Ye (Ye ⟨rfl,h₅⟩)) λ_ _ h'=>h'.elim)))) λ_ _ h'=>h'.elim))
theorem ZsC {prog:Program}{w:World}{A:Around}{R:Result->Shared->Prop}{s:Shared} {elt target iter ifs rest scope pos it acc env}
  (h0:codeAny (model prog w) A (.compLoop (.SetComp elt (⟨target,iter,ifs,0⟩::rest) scope pos) 0 it acc env) R s)
  (h:wpAny (model prog w) A (pyIter it) (λit' s'=>codeAny (model prog w) A (.compLoop (.SetComp elt (⟨target,iter,ifs,0⟩::rest) scope pos) 0 it' acc env) R s') (notedBy (model prog w) A env λx s'=>R (.error x) s') s) :
  codeAny (model prog w) A (.compStart (.SetComp elt (⟨target,iter,ifs,0⟩::rest) scope pos) 0 it acc env) R s:=by
 refine codeAny_of_tree ?_
 show wpAny _ _ ((compStart (.SetComp elt (⟨target,iter,ifs,0⟩::rest) scope pos) 0 it acc env).onRaise (λx=>do noteFrame x env;standAt theWindowsPlace)) _ _ s
 refine wpAny_notedAt ?_
 unfold compStart
 show wpAny _ _ (ask >>= _) _ _ s
 refine Ya (wpAny_askSetting (wpAny_ite ?_))
 split
 .first
   |exact Ya (Ye (Ye (And.intro rfl h0)))
   |exact Ye (And.intro rfl h0)
 .first
   |exact Ya (wpAny_rule (Ya (wpAny_standAt (Ya (YJ h (λit' s' h'=>Ye (And.intro rfl h')) λ_ _ x=>x)))))
   |(refine Ya (wpAny_rule ?_);show wpAny _ _ (standAt iter.pos >>= _) _ _ s;exact Ya (wpAny_standAt (Ya (YJ h (λit' s' h'=>Ye (And.intro rfl h')) λ_ _ x=>x))))
theorem ZoC {prog:Program}{w:World}{A:Around}{E:Value->Shared->Prop}{s:Shared}{Q:Value->Shared->Prop} (h:Q (.ref s.heap.objs.size) {s with heap:=s.heap.push {cls:=.type "set",dict:=none,data:=.set #[] 0 (.fresh 0 0 (!w.params.followText "set-order"))}}) :
  wpAny (model prog w) A (newSet (.type "set")) Q E s:=by
 unfold newSet setsByText
 refine Ya (Ya (wpAny_askSetting (Ye ?_)))
 dsimp only
 simp only[newObj]
 exact Ya (wpAny_alloc (Ye h))
section
variable {X:Cx}
noncomputable def ZpW (J:It) (g:TG) (tt:TT) (te:TE) (σ0:St) (F:List (List Int)->Hp->Prop) (H1:Hp):Prop:=∃W:Nat->Nat->List (List Int)->Hp->Prop,(∃m,W 0 m [] H1)/\∀i m kss H,W i m kss H ->
 (J.stop i H/\kss.length<1000/\F kss H) \/
 (J.go i H/\kss.length<1000/\∀x H',J.yld i H x H'->g x σ0 H' fun σ2 H2=>tt σ2 H2 λb H3=>if b=true then te σ2 H3 λv H4=>∃q k,v=.ref q/\H1 q=some (.tup (k.map V.int))/\∃m',m'<m/\W (i+1) m' (kss++[k]) H4 else ∃m',m'<m/\W (i+1) m' kss H3)
theorem ZsD {pins:List (Addr×Obj)}{σ:St}{H:Hp}{s:Shared}{tg elt iter:Expr}{ifs:List Expr}{scope:Scope}{pos:Pos}{wi:TI}{g:TG}{tt:TT}{te:TE}{Nc:List Str}{js:List (Option Nat)}{F:List (List Int)->Hp->Prop}{QQ:Value->Shared->Prop}
  (hc:X.calm=true) (hun:X.A.units+100<cLine) (hok:compOk X.env.scope scope=true) (htk:takesC X.N Nc scope js 0=true) (hi:PI X tg iter wi)
  (hg:∀cl C s2 H2 fp,PG (Zce X Nc scope cl C s2 H2 fp) tg g) (ht:∀cl C s2 H2 fp,ZlG (Zce X Nc scope cl C s2 H2 fp) ifs tt) (he:∀cl C s2 H2 fp,PE (Zce X Nc scope cl C s2 H2 fp) elt te)
  (hs:∀x,foldedSetIterable iter X.env x=pure x) {L:List Nat} (ho:ZkO g L) (hL:(L.all λk=>js[k]?==some none)=true) (I:Inv X pins σ H s) (h:wi σ H λJ H1=>ZpW J g tt te (ZO js σ) F H1)
  (fin:∀(D:Addr) (o:Obj) (ds kss:List (List Int)) (H2 H3:Hp) (s':Shared),Inv X pins σ H3 s'->s'.heap.get? D=some o->ST.ZfB X.prog X.w (λk y=>H2 y=some (.tup (k.map V.int))) o ds->(∀y ks,H2 y=some (.tup ks)->H3 y=some (.tup ks))->(∀k,k∈ds↔k∈kss)->F kss H3->QQ (.ref D) s') :
  wpAny (model X.prog X.w) X.A (comprehension (.SetComp elt [⟨tg,iter,ifs,0⟩] scope pos) scope X.env (firstIterPos [⟨tg,iter,ifs,0⟩] pos) (newSet (.type "set")) false (eval iter X.env) none) QQ X.xe s:=by
 have hcells:∀y∈scope.names,y.2=.free->∃c,X.env.cells.lookup y.1=some c:=λy hy hf=>I.ok.has y.1 (Zde hok y hy hf)
 obtain⟨cl,hcl,up,hfr⟩:=Zjd hcells
 have hk:=Zdc hok
 have hcell:=Zdd hok
 refine wpAny_comprehension_free (use:=none) rfl hs hcl hk (ZlF hok) (thn (hi pins s σ H _ I h) λv s1 h1=>thn h1 λitv s2 h2=>?_)
 obtain⟨it,fp,tn,J,H2,e,I2,T,st2,f2,W,⟨m0,w0⟩,turn⟩:=h2
 subst e
 refine ZoC (wpAny_newFunctionEnv hcell (by intro y hy;simp at hy) (λh₁ hns₁ hsb₁=>?_) hk)
 dsimp only at hns₁ hsb₁⊢
 generalize hH2:s2.heap.push {cls:=.type "set",dict:=none,data:=.set #[] 0 (.fresh 0 0 (!X.w.params.followText "set-order"))}=HH at hns₁ hsb₁⊢
 have hC:HH.objs.size=s2.heap.objs.size+1:=by rw[<-hH2,Heap.size_push]
 have hfl:∀b∈fp,b<s2.heap.objs.size:=λb hb=>by
  obtain⟨o,ho,_⟩:=T.obj 0 _ st2 b hb
  exact Yl ho
 have hDC:s2.heap.objs.size≠HH.objs.size:=by rw[hC];exact Yo (Nat.lt_succ_self _)
 have old:∀b o,s2.heap.get? b=some o->h₁.get? b=some o:=λb o e=>hsb₁.extBut b o (by rw[hC];exact Yo (YU (Yl e))) (Ym _ (hH2▸Ym _ e))
 have hacc:h₁.get? s2.heap.objs.size=some {cls:=.type "set",dict:=none,data:=.set #[] 0 (.fresh 0 0 (!X.w.params.followText "set-order"))}:=hsb₁.extBut _ _ hDC (Ym _ (hH2▸YC _ rfl))
 have I4:=ZnT (Nc:=Nc) (js:=js) (tk:=s2.toks+([]:List (Str×Value)).length) I2 hok htk up hfr f2 hfl rfl hC old hns₁ hacc (by intro v z;cases z)
 have st4:tn 0 h₁:=T.keep _ _ _ st2 λb _ o e=>old b o e
 generalize hXc:Zce X Nc scope cl HH.objs.size s2 H2 fp=Xc at I4
 have hXA:Xc.A=X.A:=by rw[<-hXc];rfl
 have hXe:Xc.env=compEnvC scope cl HH.objs.size X.env:=by rw[<-hXc];rfl
 have hXp:Xc.prog=X.prog:=by rw[<-hXc];rfl
 have hXw:Xc.w=X.w:=by rw[<-hXc];rfl
 have hXx:Xc.xe=λ_ _=>False:=by rw[<-hXc];rfl
 have hXk:Xc.K=X.K:=by rw[<-hXc];rfl
 have hXcalm:Xc.calm=true:=by rw[<-hXc];exact hc
 have fpok:∀{pl:List (Addr×Obj)}{H':Hp},(∀p∈pl,s2.heap.objs.size<=p.1)->(∀b∈fp,H' b=none)->∀b∈fp,FpOk Xc pl H' b:=λ{pl H'} hpl hn b hb=>by
  have k1:b≠HH.objs.size:=Yo (by rw[hC];exact YU (hfl b hb))
  have k2:b∉frs X.stack:=λq=>by
   rcases Yk.mp (I2.Zfp b q)with z|z
   .exact(f2 b hb).2.1 z
   .exact(f2 b hb).2.2.1 z
  rw[<-hXc]
  refine⟨hn b hb,k1,k2,.inl hb,λx c e=>(f2 b hb).2.2.2.2.1 x c (up _ _ e),λp hp=>?_⟩
  have hp':p∈pl:=by simpa[Zce]using hp
  exact Nat.ne_of_gt (YD (hfl b hb) (hpl p hp'))
 have gX:PG Xc tg g:=hXc▸hg cl HH.objs.size s2 H2 fp
 have tX:ZlG Xc ifs tt:=hXc▸ht cl HH.objs.size s2 H2 fp
 have eX:PE Xc elt te:=hXc▸he cl HH.objs.size s2 H2 fp
 have hs0:Xc.s₀=s2:=by rw[<-hXc];rfl
 have hh0:Xc.H₀=H2:=by rw[<-hXc];rfl
 have hfs:Xc.fs=frs X.stack:=by rw[<-hXc];rfl
 have hex:Xc.ex=fp:=by rw[<-hXc];rfl
 have loop:codeAny (model X.prog X.w) X.A (.compLoop (.SetComp elt [⟨tg,iter,ifs,0⟩] scope pos) 0 (.ref it) (.ref s2.heap.objs.size) (compEnvC scope cl HH.objs.size X.env)) (compPost (model X.prog X.w) X.A X.xe none QQ (.ref s2.heap.objs.size) HH.objs.size)
   {s2 with heap:=h₁,toks:=s2.toks+([]:List (Str×Value)).length}:=by
  refine Zni (λn s'=>∃i kss ds o H',Inv Xc [(s2.heap.objs.size,o)] (ZO js σ) H' s'/\(∀v,o.data≠.cell v)/\ST.ZfB X.prog X.w (λk y=>H2 y=some (.tup (k.map V.int))) o ds/\(∀k,k∈ds↔k∈kss)/\ds.length<=kss.length/\tn i s'.heap/\(∀b∈fp,H' b=none)/\W i n kss H') ?_ m0
   ⟨0,[],[],_,H2,I4,(by intro v z;cases z),ST.ZfB.fresh _ _ _,λk=>Iff.rfl,Yc _,st4,λb hb=>(f2 b hb).1,w0⟩
  rintro n s3 ⟨i,kss,ds,o,H3,I3,hcl0,hob,hds,hlen,st3,fr3,w3⟩
  have pg:∀p∈([(s2.heap.objs.size,o)]:List (Addr×Obj)),s2.heap.objs.size<=p.1:=λp hp=>by
   simp only[Yk,List.not_mem_nil,or_false]at hp
   subst hp;exact Yc _
  rcases turn i n kss H3 w3 with⟨stop,hl,qn⟩|⟨go,hl,step⟩
  .have q:=T.done Xc hXp hXw hXk hXcalm i _ s3 (ZO js σ) H3 (λ_ _=>False) I3 (fpok pg fr3) st3 stop
   rw[hXA]at q
   refine thn q λr s4 hz=>?_
   obtain⟨hr,I5⟩:=hz
   subst hr
   have hpin:=I5.pin _ (Yn _ (.head _))
   obtain⟨m5,hn5,_⟩:=I5.loc
   rw[hXe]at hn5
   refine⟨m5,hn5,λh' hsb=>?_⟩
   have same:∀b o,b≠HH.objs.size->s4.heap.get? b=some o->h'.get? b=some o:=λb o hb e=>hsb.extBut b o hb e
   have un:=I5.base
   rw[hfs,hex,hh0,hs0]at un
   have lt:∀b o,s2.heap.get? b=some o->b<s2.heap.objs.size:=λb o e=>Yl e
   have neC:∀b o,s2.heap.get? b=some o->b≠HH.objs.size:=λb o e=>Yo (by rw[hC];exact YU (lt b o e))
   have trkC:∀b o,H3 b=some o->b≠HH.objs.size:=λb o e z=>by
    have:=I5.free;rw[hXe]at this;rw[z,show H3 HH.objs.size=none from this]at e;cases e
   have J3:Inv X pins σ H3 {s4 with heap:=h'}:=by
    refine I2.Zrx (s':={s4 with heap:=h'}) (ch:=fp) (I5.os.trans (by rw[hs0])) ⟨λb o e n hb hx=>same _ _ (neC b o e) (un.keep b o e n hb hx),λb o e n hb hx=>?_,λb o e n hx=>un.free b o e n hx,λb o e hx=>?_,λb xs e=>un.tups b xs e,λb o u e=>un.frzs b o u e,λb ps e=>un.tbls b ps e⟩ (λa o e=>?_) I5.bare λb hb=>⟨(f2 b hb).2.2.2.1,(f2 b hb).2.1,(f2 b hb).2.2.2.2⟩
    .obtain⟨sl,z⟩:=un.slot b o e n hb hx
     exact⟨sl,same _ _ (neC b o e) z⟩
    .obtain⟨o',z⟩:=un.there b o e hx
     exact⟨o',same _ _ (neC b o e) z⟩
    .have q:=I5.hok a o e
     rw[hXp,hXw]at q
     refine q.ZiE (λb u hb z=>same b u ?_ z) (λb z=>z) (λb xs z=>z) λb o u z=>z
     rcases hb with hb|hb
     .subst hb;exact trkC _ _ e
     .exact trkC _ _ hb
   exact fin _ o ds kss H2 H3 _ J3 (same _ _ hDC hpin.1) hob (λy ks e=>un.tups y ks e) hds qn
  .have q:=T.item Xc hXp hXw hXk hXcalm i _ s3 (ZO js σ) H3 (λ_ _=>False) I3 (fpok pg fr3) st3 go
   rw[hXA]at q
   refine thn q λr s4 hz=>?_
   obtain⟨u,hr,h4⟩:=hz
   subst hr
   refine thn h4 λ_ s5 hz=>?_
   obtain⟨x,H5,I5,r5,y5,st5,fr5⟩:=hz
   have I5':=I5.pinned (fpok pg fr5) (T.obj _ _ st5)
   have again:∀{σ7:St}{H7:Hp}{s7:Shared}{kss7 ds7:List (List Int)}{o7:Obj}{m:Nat},Inv Xc ([(s2.heap.objs.size,o7)]++Zcc fp s5.heap) σ7 H7 s7->(∀v,o7.data≠.cell v)->ST.ZfB X.prog X.w (λk y=>H2 y=some (.tup (k.map V.int))) o7 ds7->(∀k,k∈ds7↔k∈kss7)->ds7.length<=kss7.length->W (i+1) m kss7 H7->σ7.length=(ZO js σ).length->(∀(k:Nat) v,(ZO js σ)[k]?=some (some v)->σ7[k]?=some (some v)) ->
     ∃i kss ds o H',Inv Xc [(s2.heap.objs.size,o)] (ZO js σ) H' s7/\(∀v,o.data≠.cell v)/\ST.ZfB X.prog X.w (λk y=>H2 y=some (.tup (k.map V.int))) o ds/\(∀k,k∈ds↔k∈kss)/\ds.length<=kss.length/\tn i s7.heap/\(∀b∈fp,H' b=none)/\W i m kss H':=λ{σ7 H7 s7 kss7 ds7 o7 m} I7 v7 b7 d7 l7 w7 hl7 hw7=>by
    refine⟨i+1,kss7,ds7,o7,H7,(I7.weak hl7.symm hw7).Zef,v7,b7,d7,l7,T.keep _ _ _ st5 λb hb o e=>(I7.pin (b,o) (Yn _ (Yn _ (ZbC hb e)))).1,λb hb=>?_,w7⟩
    obtain⟨o,e,d⟩:=T.obj _ _ st5 b hb
    exact(I7.pin (b,o) (Yn _ (Yn _ (ZbC hb e)))).2.1
   have keep:∀{σ6:St},ZnU L (ZO js σ) σ6->σ6.length=(ZO js σ).length/\∀(k:Nat) v,(ZO js σ)[k]?=some (some v)->σ6[k]?=some (some v):=λ{σ6} hk=>⟨hk.1,λk v e=>by
    rw[hk.2 k]
    .exact e
    .intro z
     have q:=List.all_eq_true.mp hL k z
     simp only[beq_iff_eq]at q
     unfold ZO at e
     rw[YE,q]at e
     cases e⟩
   have q6:=gX _ s5 (ZO js σ) H5 x u _ I5' r5 (ho _ _ _ _ _ (fun σ' H' kk z=>And.intro kk z) (step x H5 y5))
   rw[hXe,hXA,hXp,hXw,hXx]at q6
   refine thn q6 λ_ s6 hz=>?_
   obtain⟨σ6,H6,I6,k6,q6⟩:=hz
   obtain⟨kl,kv⟩:=keep k6
   have q7:=tX _ s6 σ6 H6 _ I6 q6
   rw[hXe,hXA,hXp,hXw,hXx]at q7
   refine thn q7 λb s7 hz=>?_
   obtain⟨H7,I7,q7⟩:=hz
   cases b with
   |false =>
    obtain⟨m',hm,w7⟩:=q7
    exact⟨m',hm,again I7 hcl0 hob hds hlen w7 kl kv⟩
   |true =>
    have q8:=eX _ s7 σ6 H7 _ I7 q7
    rw[hXe,hXA,hXp,hXw,hXx]at q8
    refine thn q8 λy s8 hz=>?_
    obtain⟨v8,H8,I8,r8,q,k,e8,hq2,m',hm,w8⟩:=hz
    subst e8
    cases(show y=Value.ref q from r8)
    have pinD:=I8.pin _ (Yn _ (YY _ (.head _)))
    have hnf:∀p∈Zcc fp s5.heap,p.1≠s2.heap.objs.size:=λp hp=>by
     obtain⟨z,_⟩:=ZhJ hp
     exact Yo (hfl _ z)
    have hXpn:Xc.pn=[]:=by rw[<-hXc];rfl
    have un:=I8.base
    rw[hfs,hex,hh0,hs0]at un
    have hok8:=I8.hok
    rw[hXp,hXw]at hok8
    have hTy:s8.TypeIs (.ref s2.heap.objs.size) "set":=by
     obtain⟨es,ep,t,xs,⟨⟨h1,_⟩,_⟩,_⟩:=hob
     exact⟨o,pinD.1,h1⟩
    refine wpAny_call_entry PySem.F.slot_set_add hTy PySem.F.entry_set_add ?_ (PySem.F.args_set_add_2 _ _)
    unfold Builtin.«set.add» Builtin.Frozenset.oneOther
    simp only[List.isEmpty_nil,bind_assoc]
    unfold Builtin.Frozenset.addrOf
    refine Ya (Ye ?_)
    try dsimp only
    refine Ya (Ye ?_)
    try dsimp only
    refine Ya (ST.Zu6 (N:=λk y=>H2 y=some (.tup (k.map V.int))) (o:=o) (by show X.A.units+1<cLine;omega) pinD.1 (λk y e=>ZsB hok8 (un.tups y _ e)) hq2 hob ⋯ λb o' h' tk hsb hg' hob'=>?_)
    show wpAny _ _ (ret Value.none) _ _ _
    refine Ye ⟨_,rfl,m',hm,?_⟩
    have I8':Inv Xc (Zcc fp s5.heap) σ6 H8 s8:=I8.ZG λp hp=>I8.pin p (Yn _ (Yn _ hp))
    have I9:=I8'.turned (t':=tk) (it:=s2.heap.objs.size) (h':=h') (λb o hb e=>(hsb.2 b hb).trans e) pinD.2.1 pinD.2.2.1
     (.inr (by rw[hs0];exact Yc _)) (λx c e=>by
      rw[hXe]at e
      intro z
      obtain⟨v,q⟩:=I2.cell x c (up _ _ e)
      exact absurd q.lt (by rw[z];exact YA _)) (λp hp=>by rw[hXpn,List.nil_append]at hp;exact hnf p hp)
    have hcl1:∀v,o'.data≠.cell v:=by
     obtain⟨es,ep,t,xs,⟨_,h1,_⟩,_⟩:=hob'
     rw[h1];intro v z;cases z
    have I10:=I9.ZG (pins':=[(s2.heap.objs.size,o')]++Zcc fp s5.heap) λp hp=>by
     rcases YB.mp hp with z|z
     .simp only[Yk,List.not_mem_nil,or_false]at z
      subst z
      exact⟨hg',pinD.2.1,pinD.2.2.1,pinD.2.2.2.1,hcl1⟩
     .exact I9.pin p (Yn _ z)
    refine again I10 hcl1 hob' (λk'=>?_) ?_ w8 kl kv
    .rw[YB,Y2,<-hds k']
     split
     .rename_i hm
      exact⟨.inl,λz=>z.elim id λz=>z▸hm⟩
     .rw[Yk]
      exact⟨λz=>z.elim .inr .inl,λz=>z.elim .inr .inl⟩
    .rw[YS,List.length_singleton]
     split
     .omega
     .rw[YN];omega
 exact ZsC loop (T.self _ 0 _ _ _ st4 loop)
theorem ZqV {A:Around}{E:Value->Shared->Prop}{s:Shared}{prog:Program}{w:World}{a:Addr}{o:Obj}{N:List Int->Addr->Prop}{ds:List (List Int)}{R:List Value->Shared->Prop} (hh:A.handled=none) (ho:s.heap.get? a=some o) (hS:ST.ZfB prog w N o ds) (hn:ds.length<1228)
  (k:∀(h':Heap) (tk:Nat) (as:List Addr) (rs:List (List Int)),(∀b o,s.heap.get? b=some o->h'.get? b=some o)->s.heap.objs.size<h'.objs.size->as.length=rs.length->(∀i (h1:i<as.length) (h2:i<rs.length),N rs[i] as[i])->rs.Perm ds->R (as.map Value.ref) {s with heap:=h',toks:=tk}) :
  wpAny (model prog w) A (collect (.ref a)) R E s:=by
 obtain⟨es,ep,t,xs,⟨g1,g2,g3,g4,g5⟩,hF,e1,e2,e3,e4⟩:=hS
 have hT:ST.TabAt w s.heap a es ep t:=⟨o,ho,g1,g2,g3,g4,g5⟩
 have hsz:es.size=xs.length:=by rw[<-Yp,e1,Yi]
 have hxs:xs.length=ds.length:=by rw[<-e3.length_eq,Yi]
 have hlt:∀h,ST.TabAt w h a es ep t->a<h.objs.size:=λh x=>by obtain⟨o,eo,_⟩:=x;exact Yl eo
 refine ZlU (ST.Zu5 (prog:=prog) hlt) hh hT (ST.ZgI ⋯) λh' tk acc hk hlt' hacc=>?_
 obtain⟨ys,y1,y2⟩:=ST.Ziq (f:=λp:List Int×Addr=>(ST.ZaE prog w p.1,Value.ref p.2)) (ST.ZjC w a ep es) xs e1
 have hyl:ys.length=xs.length:=y2.length_eq
 have ea:acc.toList=(ys.map (·.2)).map Value.ref:=by
  apply List.ext_getElem?
  intro j
  by_cases hj:j<acc.toList.length
  .obtain⟨e,f1,f2⟩:=hacc.2 j acc.toList[j] (by rw[<-YV,Yf hj])
   rw[<-YV,y1,YE]at f1
   cases hy:ys[j]? with
   |none=>rw[hy]at f1;cases f1
   |some p =>
    rw[hy]at f1
    have f1:(ST.ZaE prog w p.1,Value.ref p.2)=e:=YM f1
    subst f1
    rw[Yf hj,YE,YE,hy,f2];rfl
  .rw[List.getElem?_eq_none ⋯,List.getElem?_eq_none]
   rw[Yp,hacc.1]at hj
   rw[Yi,Yi];omega
 rw[ea]
 refine k h' tk (ys.map (·.2)) (ys.map (·.1)) hk hlt' (by simp) (λi h1 h2=>?_) ((List.Perm.map (λp:List Int×Addr=>p.1) y2).trans e3)
 rw[List.getElem_map,List.getElem_map]
 exact e2 _ (y2.mem_iff.mp (YF _))
theorem ZgJ:∀r:List Int,lxI r r=false
 |[]=>rfl
 |x::r=>by rw[Zbg,Yd rfl];exact ZgJ r
theorem Zlc:∀r r':List Int,lxI r r'=false->lxI r' r=false->r=r'
 |[],[],_,_=>rfl
 |[],_::_,h,_=>by cases h
 |_::_,[],_,h=>by cases h
 |x::r,y::r',h1,h2=>by
  rw[Zbg]at h1 h2
  by_cases e:x=y
  .subst e
   rw[Yd rfl]at h1 h2
   rw[Zlc r r' h1 h2]
  .rw[Yb e]at h1
   rw[Yb (λz=>e z.symm)]at h2
   have:=of_decide_eq_false h1
   have:=of_decide_eq_false h2
   omega
noncomputable def ZpX (H:Hp) (Q:VK) (kss:List (List Int)) (H3:Hp):Prop:=kss.length<64/\(∀k∈kss,k≠[])/\∀(rs:List (List Int)) (l:Addr) (H':Hp),(∀r,r∈rs↔r∈kss)->rs.Pairwise (λx y=>lxI x y=true)->H3 l=none->Zd H3 H'->Zo H' l rs->Q (.ref l) H'
noncomputable def Zld (wi:TI) (g:TG) (tt:TT) (te:TE) (js:List (Option Nat)):TE:=fun σ H Q=>wi σ H λJ H1=>ZpW J g tt te (ZO js σ) (ZpX H Q) H1
theorem ZoD:∀{a b:List (List Int)},a.Nodup->(∀x∈a,x∈b)->a.length<=b.length
 |[],b,_,_=>Yq _
 |x::a,b,hn,hs=>by
  obtain⟨h1,h2⟩:=List.nodup_cons.mp hn
  have hx:=hs x (.head _)
  have h3:=ZoD h2 (b:=b.erase x) λy hy=>(List.mem_erase_of_ne (λe:y=x=>h1 (e▸hy))).mpr (hs y (.tail _ hy))
  have h4:=List.length_erase_of_mem hx
  have h5:=List.length_pos_of_mem hx
  rw[YN];omega
theorem Znj {tg elt iter:Expr}{ifs:List Expr}{scope:Scope}{p1 ps pos:Pos}{wi:TI}{g:TG}{tt:TT}{te:TE}{m:Nat} (Nc:List Str) (js:List (Option Nat)) {L:List Nat}
  (hc:X.calm=true) (hr:Room m X.A) (hgs:Gl X "sorted") (hms:X.mg "sorted"=none) (hok:compOk X.env.scope scope=true) (htk:takesC X.N Nc scope js 0=true) (hi:PI X tg iter wi)
  (hg:∀cl C s2 H2 fp,PG (Zce X Nc scope cl C s2 H2 fp) tg g) (ht:∀cl C s2 H2 fp,ZlG (Zce X Nc scope cl C s2 H2 fp) ifs tt) (he:∀cl C s2 H2 fp,PE (Zce X Nc scope cl C s2 H2 fp) elt te)
  (ho:ZkO g L) (hL:(L.all λk=>js[k]?==some none)=true:=by rfl) (hs:∀x,foldedSetIterable iter X.env x=pure x:=by ac_nf)
  (hs2:starEach [.SetComp elt [⟨tg,iter,ifs,0⟩] scope pos] X.env=(false,eval (.SetComp elt [⟨tg,iter,ifs,0⟩] scope pos) X.env)::starEach [] X.env:=by rfl) :
  PE X (.Call (.Name "sorted" p1) [.SetComp elt [⟨tg,iter,ifs,0⟩] scope pos] [] ps) (Zld wi g tt te js):=by
 intro pins s σ H Q I h
 have hun:X.A.units+100<cLine:=by have:=hr.un;omega
 have hh:X.A.handled=none:=I.ok.hd hc
 refine wpAny_Call_Name_kw (Zcb I hgs hms Zgc ?_)
 refine PyProof.Rows.callWith_builtin1 ?_ hs2 (by rfl)
 rw[hs2]
 show wpAny _ _ (spliced ((false,eval (.SetComp elt [⟨tg,iter,ifs,0⟩] scope pos) X.env)::backTo ps (starEach [] X.env))) _ _ s
 refine Calls.spliced_cons ?_
 show wpAny _ _ (comprehension (.SetComp elt [⟨tg,iter,ifs,0⟩] scope pos) scope X.env (firstIterPos [⟨tg,iter,ifs,0⟩] pos) (newSet (.type "set")) false (eval iter X.env) none) _ _ s
 refine ZsD hc hun hok htk hi hg ht he hs ho hL I h λD o ds kss H2 H3 s' I3 hD hob hk2 hds ⟨hl,hne,fin⟩=>?_
 refine Calls.spliced_nil ?_
 have hdl:ds.length<64:=by
  have hnd:ds.Nodup:=by obtain⟨_,_,_,_,_,_,_,_,_,z⟩:=hob;exact z
  have:=ZoD hnd λx hx=>(hds x).mp hx
  omega
 have hnd:ds.Nodup:=by obtain⟨_,_,_,_,_,_,_,_,_,z⟩:=hob;exact z
 refine Calls.call_function_entry kind_sorted plain_sorted entry_sorted (args_sorted1 _) ?_
 unfold Builtin.«sorted»
 refine Ya (m:=checkCount "sorted" 1 1 _) (Ye ?_)
 refine Ya (ZqV (A:=X.A.in1) hh hD hob ⋯ λh2 tk2 as rs hkp hlt hal hN hP=>?_)
 have hrl:rs.length=ds.length:=hP.length_eq
 have I4:Inv X pins σ H3 {s' with heap:=h2,toks:=tk2}:=I3.kept hkp
 have hH3:∀i (h1:i<as.length) (h2:i<rs.length),H3 as[i]=some (.tup (rs[i].map V.int)):=λi h1 h2=>hk2 _ _ (hN i h1 h2)
 have hPr:∀i (h1:i<as.length) (h3:i<rs.length),PtW h2 (Value.ref as[i]) rs[i]:=λi h1 h3=>by
  obtain⟨_,tv,hv,o,g,c,n,d⟩:=I4.hok _ _ (hH3 i h1 h3)
  exact⟨as[i],o,n,_,rfl,g,c,d,by simpa using intsAre_of hv⟩
 have hits:(as.map Value.ref).length=as.length:=Yi ..
 have hPm:∀v∈as.map Value.ref,∃r,r≠[]/\PtW h2 v r:=λv hv=>by
  obtain⟨y,hy,rfl⟩:=YK.mp hv
  obtain⟨i,h1,rfl⟩:=YZ hy
  exact⟨_,hne _ ((hds _).mp (hP.mem_iff.mp (YF (show i<rs.length by omega)))),hPr i h1 ⋯⟩
 refine Ya (wpAny_newList ?_ (by rw[hits];exact Yr (show _<=1000 by omega) nofun))
 have hoL:(h2.push (seqObj "list" (as.map Value.ref).toArray 0)).get? h2.objs.size=some (seqObj "list" (as.map Value.ref).toArray 0):=YC _ rfl
 refine Ya (YH (wpAny_call_entry slot_list_sort ⟨_,hoL,rfl⟩ entry_list_sort (Zog (κ:=tuples' true) (key:=λi=>Zin rs (rs.getD i [])) hoL ⋯ (λs6 k6 h22=>⟨λQ' hq=>Zow h22 (λv hv=>?_) hq,λi j C hi hj hC=>?_⟩) λp' hB hSo=>⟨_,rfl,?_⟩) (args_list_sort _)))
 .obtain⟨r,hr',hp⟩:=hPm v hv
  exact⟨r,hr',hp.keep λb o e=>k6 b o (Yo (Yl e)) (Ym _ e)⟩
 .rw[hits]at hi hj
  have hp1:=hPr i hi ⋯
  have hp2:=hPr j hj ⋯
  have kp:∀b o,h2.get? b=some o->s6.heap.get? b=some o:=λb o e=>k6 b o (Yo (Yl e)) (Ym _ e)
  unfold kas_ask
  rw[show(as.map Value.ref).getD i Value.none=Value.ref as[i] by simp[hi],show(as.map Value.ref).getD j Value.none=Value.ref as[j] by simp[hj]]
  refine Zsp (hp1.keep kp) (hp2.keep kp) ?_
  have:=Zm5 (rs:=rs) (i:=i) (j:=j) ⋯ ⋯
  rw[this]at hC
  simpa[Yh,show i<rs.length by omega,show j<rs.length by omega]using hC
 .have hsz:p'.size=rs.length:=hB.size.trans (hits.trans hal)
  have hlt3:∀i∈p'.toList,i<rs.length:=λi hi=>by
   have:=(Array.perm_iff_toList_perm.mp hB).mem_iff.mp hi
   rw[hits,hal]at this
   simpa using this
  have hz2:s'.heap.objs.size<=h2.objs.size:=Y7 hlt
  have fr:H3 h2.objs.size=none:=I3.hok.fresh hz2
  have sm:Zd H3 (upd H3 h2.objs.size (.lst ((p'.toList.map λi=>as.getD i 0).map V.ref))):=(Zd.refl H3).upd fr
  have hperm:(p'.toList.map λi=>rs.getD i []).Perm rs:=by
   have:=(Array.perm_iff_toList_perm.mp hB).map λi=>rs.getD i []
   refine this.trans ?_
   have e:((List.range (as.map Value.ref).length).toArray.toList.map λi=>rs.getD i [])=rs:=by
    rw[hits,hal]
    refine List.ext_getElem (by simp) λi i1 i2=>?_
    have:i<rs.length:=i2
    simp[Yh,this]
   rw[e]
  refine Ye ⟨_,rfl,.ref h2.objs.size,_,I3.laid (t':=tk2) (a:=h2.objs.size) (o:=.lst ((p'.toList.map λi=>as.getD i 0).map V.ref)) (λb o e=>?_) hz2 ?_,rfl,fin (p'.toList.map λi=>rs.getD i []) _ _ (λr=>((hperm.trans hP).mem_iff).trans (hds r)) ?_ fr sm ⟨_,Zc,by simp,λi i1 i2=>sm _ _ ?_⟩⟩
  .have e1:=hkp _ _ e
   have hb:b<h2.objs.size:=Yl e1
   show(sortedHeap (h2.push (seqObj "list" (as.map Value.ref).toArray 0)) h2.objs.size (as.map Value.ref) (Zcn (as.map Value.ref) p')).get? b=some o
   rw[sortedHeap_old (Yo hb) (by rw[size_push'];exact YU hb)]
   exact Ym _ e1
  .obtain⟨n,e⟩:=sortedHeap_at (out:=Zcn (as.map Value.ref) p') hoL
   refine⟨Yr (show _<=1000 by simp;omega) nofun,(Zcn (as.map Value.ref) p').toList,n,?_,by rw[e]⟩
   have key:∀(l:List Nat),(∀i∈l,i<rs.length)->Vals ((l.map λi=>as.getD i 0).map V.ref) (l.map λi=>(as.map Value.ref).getD i Value.none):=by
    intro l
    induction l with
    |nil=>intro _;exact .nil
    |cons a l ih =>
     intro hl'
     refine .cons ?_ (ih λi hi=>hl' i (Yu _ hi))
     have ha:=hl' a Yv
     have h2:a<as.length:= ⋯
     show(as.map Value.ref).getD a Value.none=Value.ref (as.getD a 0)
     rw[show(as.map Value.ref).getD a Value.none=Value.ref as[a] by simp[h2],show as.getD a 0=as[a] by simp[h2]]
   exact key _ hlt3
  .have hnd2:(p'.toList.map λi=>rs.getD i []).Nodup:=(hperm.trans hP).nodup_iff.mpr hnd
   rw[List.pairwise_iff_getElem]
   intro a b ha hb hab
   have ha':a<p'.toList.length:=by simpa using ha
   have hb':b<p'.toList.length:=by simpa using hb
   have ne:(p'.toList.map λi=>rs.getD i [])[a]≠(p'.toList.map λi=>rs.getD i [])[b]:=List.pairwise_iff_getElem.mp hnd2 a b ha hb hab
   rw[List.getElem_map,List.getElem_map]at ne⊢
   have hle:=hSo a b (Y7 hab) (by rw[hits,hal,<-hsz,<-Yp];exact hb')
   have kka:kk (λi=>Zin rs (rs.getD i [])) p' a=Zin rs (rs.getD p'.toList[a] []):=by
    unfold kk;rw[YI,<-YV,Yf ha'];rfl
   have kkb:kk (λi=>Zin rs (rs.getD i [])) p' b=Zin rs (rs.getD p'.toList[b] []):=by
    unfold kk;rw[YI,<-YV,Yf hb'];rfl
   rw[kka,kkb]at hle
   have h1:=Zm5 (rs:=rs) (hlt3 _ (YF hb')) (hlt3 _ (YF ha'))
   rw[Yz ⋯]at h1
   cases h:lxI (rs.getD p'.toList[a] []) (rs.getD p'.toList[b] [])with
   |true=>rfl
   |false=>exact absurd (Zlc _ _ h h1.symm) ne
  .have i3:i<p'.toList.length:=by simpa using i1
   have hi:=hlt3 _ (YF i3)
   have h2':p'.toList[i]<as.length:= ⋯
   rw[List.getElem_map,List.getElem_map]
   have e1:as.getD p'.toList[i] 0=as[p'.toList[i]]:=by rw[Yh,Yf h2'];rfl
   have e2:rs.getD p'.toList[i] []=rs[p'.toList[i]]:=by rw[Yh,Yf hi];rfl
   rw[e1,e2]
   exact hH3 _ h2' hi
noncomputable def SA (n:Nat) (Pv:Nat->List (List Int)->Hp->Prop) (i m:Nat) (kss:List (List Int)) (H:Hp):Prop:=m=n-i/\i<=n/\kss.length<=i/\Pv i kss H
theorem SA.take {n:Nat}{Pv:Nat->List (List Int)->Hp->Prop}{i:Nat}{kss:List (List Int)}{k:List Int}{H:Hp} (hi:i<n) (hl:kss.length<=i) (h:Pv (i+1) (kss++[k]) H):∃m',m'<n-i/\SA n Pv (i+1) m' (kss++[k]) H:=⟨n-(i+1),⋯,rfl,hi,by simp;omega,h⟩
theorem SA.skip {n:Nat}{Pv:Nat->List (List Int)->Hp->Prop}{i:Nat}{kss:List (List Int)}{H:Hp} (hi:i<n) (hl:kss.length<=i) (h:Pv (i+1) kss H):∃m',m'<n-i/\SA n Pv (i+1) m' kss H:=⟨n-(i+1),⋯,rfl,hi,⋯,h⟩
theorem ZsE {J:It}{n:Nat}{H1:Hp}{g:TG}{tt:TT}{te:TE}{σ0:St}{F:List (List Int)->Hp->Prop} (Pv:Nat->List (List Int)->Hp->Prop) (hn:n<1000) (h0:Pv 0 [] H1) (hgo:∀i kss H,Pv i kss H->i<n->J.go i H) (hstop:∀kss H,Pv n kss H->J.stop n H)
  (hb:∀i x kss H H',i<n->kss.length<=i->Pv i kss H->J.yld i H x H'->g x σ0 H' fun σ2 H2=>tt σ2 H2 λb H3=>if b=true then te σ2 H3 λv H4=>∃q k,v=.ref q/\H1 q=some (.tup (k.map V.int))/\∃m',m'<n-i/\SA n Pv (i+1) m' (kss++[k]) H4 else ∃m',m'<n-i/\SA n Pv (i+1) m' kss H3)
  (hk:∀kss H',Pv n kss H'->kss.length<=n->F kss H'):ZpW J g tt te σ0 F H1:=by
 refine⟨SA n Pv,⟨n,rfl,Yq _,Yc _,h0⟩,?_⟩
 rintro i m kss H ⟨rfl,hi,hl,p⟩
 by_cases h:i<n
 .exact .inr ⟨hgo i kss H p h,⋯,λx H' y=>hb i x kss H H' h hl p y⟩
 .have e:i=n:= ⋯
  subst e
  exact .inl ⟨hstop kss H p,⋯,hk kss H p hl⟩
end
end Lake
namespace Lake
theorem Zhk {wi:TI}{g:TG}{tt:TT}{te:TE}{js:List (Option Nat)}{σ:St}{H:Hp}{Q:VK}:Zld wi g tt te js σ H Q=wi σ H λJ H1=>ZpW J g tt te (ZO js σ) (ZpX H Q) H1:=rfl
end Lake
namespace Lake
open PySem PySem.Spec PyProof.Rows PySem.W
noncomputable def Zl5 (K:Frag):V->List V->Hp->VK->Prop:=λx vs H Q=>∃(l q:Addr) (as:List Addr) (e:Addr->Bool),x=.ref l/\vs=[.ref q]/\SqL K H l (as.map V.ref)/\as.length<=100000/\(∀a∈as,EqD K H 3 (.ref a) (.ref q) (e a))/\Q (.int (as.countP e:Nat)) H
noncomputable def rOrC (r1 r2:List V->Hp->VK->Prop):List V->Hp->VK->Prop:=λxs H Q=>r1 xs H Q\/r2 xs H Q
section
variable {X:Cx}
theorem ZqW {K:Frag} (hK:X.K=K) {k:Nat} (hr:Room k X.A):MtM X "list.count" (Zl5 K):=by
 subst hK
 have hu0:=hr.un
 intro pins s σ H x vs v us Q I rx rv h
 obtain⟨l,q,as,e,rfl,rfl,hH,hz,he,hQ⟩:=h
 cases rx
 obtain⟨u,rfl,ru⟩:=rv.one
 cases ru
 obtain⟨its,r,pl,_⟩:=I.list hH
 have hi:=ZhW r
 subst hi
 obtain⟨⟨cls,dd,data,sl⟩,ho,hc,n,hd⟩:=pl.isList
 simp only at hc hd
 subst hc hd
 refine call_meets F.slot_list_count ⟨_,ho,rfl⟩ F.entry_list_count (F.args_list_count_2 _ _)
  (SeqAt.list_countAt l (as.map Value.ref).toArray n dd sl (.ref q) (eU e)) ⟨ho,λw hw=>?_,⟨.int _,H,I.tok _,⟨s.toks,?_⟩,hQ⟩⟩
 .have hw':w∈as.map Value.ref:=by simpa using hw
  obtain⟨a,ha,rfl⟩:=YK.mp hw'
  exact ZhP I (he a ha) _ _ _ (by show X.A.units+1+3<cLine;omega) rfl rfl
 .have:((as.map Value.ref).toArray.toList.countP (eU e):Nat)=(as.countP e:Nat):=by
   show(as.map Value.ref).countP (eU e)=_
   rw[List.countP_map];rfl
  rw[this]
theorem ZsF {f:Value}{r1 r2:List V->Hp->VK->Prop} (h1:Za1 X f r1) (h2:Za1 X f r2):Za1 X f (rOrC r1 r2):=λpins s σ H xs us Q I r h=>h.elim (h1 pins s σ H xs us Q I r) (h2 pins s σ H xs us Q I r)
end
end Lake
namespace Internal
open PySem PySem.Spec PyProof.Rows Lake
open PySem.W (nsIn mg_of fnOf keepIn codeIn mg_none_of)
local macro_rules|`(tactic|right)=>`(tactic|(try dsimp only[tIfS,tNot,Zpn,ZnP,rI0,rI,rU,Zlp,tC,tB,tIf,Zry,ZmC,ZkJ,Zql,tAsg,tSeq,tRet,ZrA,tOp,tUn,tAnd,tOr,ZrB,Zgl,gSub,tAug,tCB,tSl,ZnV,tLst,tTup,Lake.start,tYes,gTup,ZrC,gNil,ZO,Option.join_some,Option.join_none,rEq,Zpt,Zpu,Zpv,Zpw,Zpx,Zpy,tBM,Bool.true_eq_false,YR,List.map_nil,List.cons_append,List.nil_append,YN,List.length_nil,List.replicate,List.append_nil,List.set_cons_zero,List.set_cons_succ,List.getElem?_cons_zero,List.getElem?_cons_succ,Option.some.injEq,V.int.injEq,V.bl.injEq,V.ref.injEq,List.cons.injEq,and_true,true_and,exists_eq_left,exists_eq_left',exists_and_left,exists_eq,decide_eq_true_eq,Bool.not_eq_true',decide_eq_false_iff_not,cxK,and_assoc,Bool.false_eq_true,↓reduceIte,Zpr,ZkP,ZmK,ZrE,ZrF,Zpm,iTup,ZdB,Zfn,ZrL,rCat,rIsi,ZrX,ZlN,Zn1,rLen,rLof,rTof,Zm7,tBMH,Zhi,rEqD,ZrS,rIn,Zoa,rAll,rAny,rIxQ,rSlL,ZrJ,Zlt,tSl,ipI,ZlD,rRep,Zpz,ZrQ,ZlE,V.str.injEq,ZmX,Zr9,Zsa,tLam,ZlW,ZlX,Zon,Zop,gLst,Zsh,ZlZ,tOrT,Zhi,Zm7,tBMH,Zhk,Zl5,rOrC]);try simp only[tIfS,tNot,Zpn,ZnP,rI0,rI,rU,Zlp,tC,tB,tIf,Zry,ZmC,ZkJ,Zql,tAsg,tSeq,tRet,ZrA,tOp,tUn,tAnd,tOr,ZrB,Zgl,gSub,tAug,tCB,tSl,ZnV,tLst,tTup,Lake.start,tYes,gTup,ZrC,gNil,ZO,Option.join_some,Option.join_none,rEq,Zpt,Zpu,Zpv,Zpw,Zpx,Zpy,tBM,Bool.true_eq_false,YR,List.map_nil,List.cons_append,List.nil_append,YN,List.length_nil,List.replicate,List.append_nil,List.set_cons_zero,List.set_cons_succ,List.getElem?_cons_zero,List.getElem?_cons_succ,Option.some.injEq,V.int.injEq,V.bl.injEq,V.ref.injEq,List.cons.injEq,and_true,true_and,exists_eq_left,exists_eq_left',exists_and_left,exists_eq,decide_eq_true_eq,Bool.not_eq_true',decide_eq_false_iff_not,cxK,and_assoc,Bool.false_eq_true,↓reduceIte,Zpr,ZkP,ZmK,ZrE,ZrF,Zpm,iTup,ZdB,Zfn,ZrL,rCat,rIsi,ZrX,ZlN,Zn1,rLen,rLof,rTof,Zm7,tBMH,Zhi,rEqD,ZrS,rIn,Zoa,rAll,rAny,rIxQ,rSlL,ZrJ,Zlt,tSl,ipI,ZlD,rRep,Zpz,ZrQ,ZlE,V.str.injEq,ZmX,Zr9,Zsa,tLam,ZlW,ZlX,Zon,Zop,gLst,Zsh,ZlZ,tOrT,Zhi,Zm7,tBMH,Zhk,Zl5,rOrC])
noncomputable def top (i:Nat):Stmt:=PySem.Challenge.pw_dipkin_k52_least_stretches_told.main.body.getD i (.Pass ⟨0,0,0,0⟩)
noncomputable abbrev Zaf:Stmt:=top 5
noncomputable abbrev Zeq:Stmt:=top 7
noncomputable abbrev ZcI:Stmt:=top 8
noncomputable abbrev Zer:Stmt:=top 9
noncomputable abbrev ZbH:Stmt:=top 10
noncomputable abbrev ZaR:Stmt:=top 11
noncomputable abbrev ZaS:Stmt:=top 15
noncomputable abbrev ZaT:Stmt:=top 16
noncomputable abbrev Zax:Stmt:=top 17
noncomputable abbrev ZcJ:Stmt:=top 18
noncomputable abbrev ZbI:Stmt:=top 19
noncomputable abbrev Zay:Stmt:=top 21
noncomputable abbrev ZP:Stmt:=top 22
noncomputable abbrev Za9:Stmt:=top 24
noncomputable abbrev Zba:Stmt:=top 25
noncomputable abbrev ZbJ:Stmt:=top 26
noncomputable abbrev ZaU:Stmt:=top 27
noncomputable abbrev Zbb:Stmt:=top 28
noncomputable abbrev Zbc:Stmt:=top 29
noncomputable abbrev Zaz:Stmt:=top 30
noncomputable abbrev Zbd:Stmt:=top 31
noncomputable abbrev ZaA:Stmt:=top 32
noncomputable abbrev Zag:Stmt:=top 33
noncomputable abbrev ZaV:Stmt:=top 34
noncomputable abbrev Zbe:Stmt:=top 35
noncomputable abbrev ZaW:Stmt:=top 36
noncomputable abbrev ZaX:Stmt:=top 37
noncomputable abbrev ZQ:Stmt:=top 38
noncomputable abbrev ZR:Stmt:=top 39
noncomputable abbrev Z3:Stmt:=top 40
noncomputable abbrev Zhl:Stmt:=top 41
structure Txt (K:PySem.W.Frag) (mg:Str->Option Value):Prop where
 b_all:mg "all"=none
 b_any:mg "any"=none
 b_enumerate:mg "enumerate"=none
 b_isinstance:mg "isinstance"=none
 b_len:mg "len"=none
 b_list:mg "list"=none
 b_max:mg "max"=none
 b_min:mg "min"=none
 b_range:mg "range"=none
 b_sorted:mg "sorted"=none
 b_tuple:mg "tuple"=none
 c_DipError:mg "DipError"=some (.ref (clsAt mg "DipError"))
 x_DipError:PySem.W.excIn K (clsAt mg "DipError") bmV newV=true
 c_Empty:mg "Empty"=some (.ref (clsAt mg "Empty"))
 x_Empty:PySem.W.excIn K (clsAt mg "Empty") bmV newV=true
 c_TooMany:mg "TooMany"=some (.ref (clsAt mg "TooMany"))
 x_TooMany:PySem.W.excIn K (clsAt mg "TooMany") bmV newV=true
 m_MOST_HELD:mg "MOST_HELD"=some (.int 6 (tokAt mg "MOST_HELD"))
 m_MOST_HOLDING:mg "MOST_HOLDING"=some (.int 16 (tokAt mg "MOST_HOLDING"))
noncomputable def Zfg (K:PySem.W.Frag) (mg:Str->Option Value):List (Addr×Str):=[(Zfo K mg "from_below",ZgH "from_below"),(Zfo K mg "best_ahead",ZgH "best_ahead"),(Zfo K mg "best_behind",ZgH "best_behind"),(Zfo K mg "_law_table",ZgH "_law_table")]
noncomputable abbrev SpT:=PySem.W.Frag->(Str->Option Value)->Sp
noncomputable def ZpY (K:PySem.W.Frag) (mg:Str->Option Value):Sp:=λvs H Q E=>∃(a:Addr) (ns:List Int),vs=[.ref a]/\SqL K H a (ns.map V.int)/\ns.length<=63/\(∀p∈Zfg K mg,H p.1=some (ZiG p.2))/\∀H',Q (.bl true) H'
noncomputable def Zh1:SpT:=λK mg vs H Q E=>∃(t:Addr) (T:List Int) (p:Nat),vs=[.ref t,.int p]/\(SqL K H t (T.map V.int)\/SqT K H t (T.map V.int))/\T.length<=1000/\p<T.length/\∀(w:Addr) H',H w=none->Zd H H'->H' w=some (.lst ((Zqz T p).map V.int))->Q (.ref w) H'
noncomputable def dpI (T:List Int) (i:Int):Int:=((Zqz T i.toNat).length:Int)
noncomputable def ZdC:SpT:=λK mg vs H Q E=>∃(t:Addr) (T:List Int),vs=[.ref t]/\SqT K H t (T.map V.int)/\Zcm T/\ZU K mg "from_below" H/\∀(l:Addr) (ps:List Int) H',H l=none->Zd H H'->ps.Perm (nats (T.length:Int))->(ps.Pairwise λx y=>dpI T y<=dpI T x)->H' l=some (.lst (ps.map V.int))->Q (.ref l) H'
noncomputable abbrev Pt:=Option (Int×Int)
noncomputable def ZaZ (H:Hp) (v:V):Pt->Prop
 |none=>v=.non
 |some z=>∃a:Addr,v=.ref a/\H a=some (.tup [.int z.1,.int z.2])
noncomputable def Zir (H:Hp) (a:Addr) (ps:List Pt):Prop:=∃vals:List V,H a=some (.lst vals)/\vals.length=ps.length/\∀(i:Nat) (v:V) (p:Pt),vals[i]?=some v->ps[i]?=some p->ZaZ H v p
noncomputable def Zfh (H:Hp) (l:Addr) (tab:List (List Pt)):Prop:=∃as:List Addr,H l=some (.lst (as.map V.ref))/\l∉as/\as.length=tab.length/\∀(i:Nat) (a:Addr) (ps:List Pt),as[i]?=some a->tab[i]?=some ps->Zir H a ps
noncomputable def optN:Option Nat->V
 |none=>.non
 |some j=>.int (j:Int)
noncomputable def ZV (ps:List Pt) (j:Nat):Int×Int:=(ps.getD j none).getD (0,0)
noncomputable def Zat (ts:List Int) (ps:List Pt) (i j:Nat):Prop:=j<i/\(ps.getD j none).isSome=true/\nth ts i<nth ts j/\(ZV ps j).2<i
noncomputable def Zau (ts:List Int) (ps:List Pt) (i j:Nat):Prop:=i<j/\j<ts.length/\(ps.getD j none).isSome=true/\nth ts i<=nth ts j/\(i:Int)<(ZV ps j).1
noncomputable def BestA (ts:List Int) (ps:List Pt) (i:Nat):Option Nat->Prop
 |none=>∀j,¬ Zat ts ps i j
 |some j=>Zat ts ps i j/\∀j',Zat ts ps i j'->(ZV ps j').1<=(ZV ps j).1
noncomputable def BestB (ts:List Int) (ps:List Pt) (i:Nat):Option Nat->Prop
 |none=>∀j,¬ Zau ts ps i j
 |some j=>Zau ts ps i j/\∀j',Zau ts ps i j'->(ZV ps j).2<=(ZV ps j').2
noncomputable def ZdD:SpT:=λK mg vs H Q E=>∃(x q:Addr) (ts:List Int) (ps:List Pt) (i:Nat),vs=[.ref x,.ref q,.int (i:Int)]/\(SqL K H x (ts.map V.int)\/SqT K H x (ts.map V.int))/\Zir H q ps/\ps.length=ts.length/\ts.length<=16/\i<ts.length/\ZU K mg "best_ahead" H/\∀(r:Option Nat) H',Zd H H'->BestA ts ps i r->Q (optN r) H'
noncomputable def ZcU:SpT:=λK mg vs H Q E=>∃(x q:Addr) (ts:List Int) (ps:List Pt) (i:Nat),vs=[.ref x,.ref q,.int (i:Int)]/\(SqL K H x (ts.map V.int)\/SqT K H x (ts.map V.int))/\Zir H q ps/\ps.length=ts.length/\ts.length<=16/\i<ts.length/\ZU K mg "best_behind" H/\∀(r:Option Nat) H',Zd H H'->BestB ts ps i r->Q (optN r) H'
noncomputable def ZbN (ts:List Int) (tab:List (List Pt)) (i:Nat) (ah:Option Nat) (r:Option Int):Prop:=match ah with
 |none=>r=some (i:Int)
 |some c=>match r with
  |none=>∀j,¬ Zat ts (tab.getD c []) i j
  |some m=>(∃j,Zat ts (tab.getD c []) i j/\m=(ZV (tab.getD c []) j).1)/\∀j,Zat ts (tab.getD c []) i j->(ZV (tab.getD c []) j).1<=m
noncomputable def ZdE (ts:List Int) (tab:List (List Pt)) (i:Nat) (bh:Option Nat) (r:Option Int):Prop:=match bh with
 |none=>r=some (i:Int)
 |some c=>match r with
  |none=>∀j,¬ Zau ts (tab.getD c []) i j
  |some m=>(∃j,Zau ts (tab.getD c []) i j/\m=(ZV (tab.getD c []) j).2)/\∀j,Zau ts (tab.getD c []) i j->m<=(ZV (tab.getD c []) j).2
noncomputable def Zl6:Option Int->Option Int->Pt
 |some a,some b=>some (a,b)
 |_,_=>none
noncomputable def ZbO (ts:List Int) (tab:List (List Pt)) (i:Nat) (ah bh:Option Nat) (p:Pt):Prop:=∃a b,ZbN ts tab i ah a/\ZdE ts tab i bh b/\p=Zl6 a b
noncomputable def ZpZ (tab:List (List Pt)) (n:Nat):Option Nat->Prop
 |none=>True
 |some c=>c<tab.length/\(tab.getD c []).length=n
noncomputable def ZgK:SpT:=λK mg vs H Q E=>∃(x l y:Addr) (ts:List Int) (tab:List (List Pt)) (ah bh:Option Nat) (i:Nat),vs=[.ref x,.ref l,.ref y,.int (i:Int)]/\(SqL K H x (ts.map V.int)\/SqT K H x (ts.map V.int))/\Zfh H l tab/\H y=some (.lst [optN ah,optN bh])/\ZpZ tab ts.length ah/\ZpZ tab ts.length bh/\ts.length<=16/\i<ts.length/\ZU K mg "best_ahead" H/\ZU K mg "best_behind" H/\∀(v:V) (p:Pt) H',Zd H H'->ZbO ts tab i ah bh p->ZaZ H' v p->Q v H'
noncomputable def Za3:SpT:=λK mg vs H Q E=>∃(r:Addr) (ns:List Int) (k:Int),vs=[.ref r,.int k]/\(SqL K H r (ns.map V.int)\/SqT K H r (ns.map V.int))/\ns.length<=1000/\0<=k/\k<=1000/\(k<=ns.length->Q .non H)/\((ns.length:Int)<k->E (.ref (clsAt mg "Empty")) none H)
noncomputable def Zh2:SpT:=λK mg vs H Q E=>∃(el sp:Addr) (es:List Int) (A B:List Nat) (i:Nat),vs=[.ref el,.ref sp,.int i,.int A.length]/\H el=some (.lst (es.map V.int))/\H sp=some (.lst (ZD (A++B)))/\el≠sp/\i<es.length/\(∀q∈A++B,q<es.length)/\(A++B).length<=1000 /\
 ∀H',(∀b o,b≠el->b≠sp->H b=some o->H' b=some o)->H' el=some (.lst ((Zgk es A B i).map V.int))->H' sp=some (.lst (ZD (A++[i])))->Q .non H'
noncomputable def ZgL:SpT:=λK mg vs H Q E=>∃(r:Addr) (ns:List Int),vs=[.ref r]/\(SqL K H r (ns.map V.int)\/SqT K H r (ns.map V.int))/\ns.length<=1000/\∀(t:Addr) (es:List Int) H',Zp ns es->Zd H H'->Zl1 H' t (es.map V.int)->Q (.ref t) H'
noncomputable def Zab (T:List Int) (v:Nat):Option Nat->Prop
 |none=>∀c,c<v->c<T.length->nth T c≠v
 |some c=>c<v/\c<T.length/\nth T c=v
noncomputable def ZT (T:List Int) (v:Nat):Option Nat->Prop
 |none=>∀c,v<c->c<T.length->nth T c≠v
 |some c=>v<c/\c<T.length/\nth T c=v
noncomputable def Zp0 (H:Hp) (y:Addr) (T:List Int):Prop:=∃as:List Addr,H y=some (.lst (as.map V.ref))/\as.length=T.length/\∀(v:Nat) (a:Addr),as[v]?=some a->∃ah bh,Zab T v ah/\ZT T v bh/\H a=some (.lst [optN ah,optN bh])
noncomputable def ZfC:SpT:=λK mg vs H Q E=>∃(t:Addr) (T:List Int),vs=[.ref t]/\SqT K H t (T.map V.int)/\Zcm T/\∀(y:Addr) H',H y=none->Zp0 H' y T->Zd H H'->Q (.ref y) H'
noncomputable def Zdg (T ts:List Int) (tab:List (List Pt)):Prop:=tab.length=T.length/\∀v,v<T.length->(tab.getD v []).length=ts.length/\∀i,i<ts.length->∃ah bh,Zab T v ah/\ZT T v bh/\ZbO ts tab i ah bh ((tab.getD v []).getD i none)
noncomputable def FrL (H H':Hp) (l:Addr):Prop:=∃as:List Addr,H' l=some (.lst (as.map V.ref))/\∀a∈as,H a=none
noncomputable def ZfD:SpT:=λK mg vs H Q E=>∃(t x:Addr) (T ts:List Int),vs=[.ref t,.ref x]/\SqT K H t (T.map V.int)/\(SqL K H x (ts.map V.int)\/SqT K H x (ts.map V.int))/\Zcm T/\ts.length<=16/\ZU K mg "from_below" H/\ZU K mg "best_ahead" H/\ZU K mg "best_behind" H/\∀(l:Addr) (tab:List (List Pt)) H',H l=none->Zfh H' l tab->FrL H H' l->Zdg T ts tab->Zd H H'->Q (.ref l) H'
noncomputable def ZdF:SpT:=λK mg vs H Q E=>∃(r x:Addr) (ns ts:List Int),vs=[.ref r,.ref x]/\(SqL K H r (ns.map V.int)\/SqT K H r (ns.map V.int))/\(SqL K H x (ts.map V.int)\/SqT K H x (ts.map V.int))/\0<ns.length/\ns.length<=6/\ts.length<=16/\Q .non H
noncomputable def ZeD:SpT:=λK mg vs H Q E=>∃(a:Addr) (ns:List Int) (k:Int),vs=[.ref a,.int k]/\SqL K H a (ns.map V.int)/\0<=k/\k<=100/\∀p H',H p=none->Zd H H'->ZK H' p->Q (.ref p) H'
noncomputable def Zbi:SpT:=λK mg vs H Q E=>∃(p:Addr) (many:Int),vs=[.ref p,.int many]/\0<many/\many<=1000000001/\ZK H p/\∀d H',0<=d->d<many->ZK H' p->Exc p H H'->Q (.int d) H'
noncomputable def ZfE:SpT:=λK mg vs H Q E=>∃(p:Addr) (most:Int),vs=[.ref p,.int most]/\0<=most/\most<=1000/\ZK H p/\∀(r:Addr) (ns:List Int) H',H r=none->(ns.length:Int)<=most->H' r=some (.lst (ns.map V.int))->ZK H' p->Exc p H H'->Q (.ref r) H'
noncomputable def ZdG:SpT:=λK mg vs H Q E=>∃(r:Addr) (ns:List Int) (i:Nat),vs=[.ref r,.int (i:Int)]/\(SqL K H r (ns.map V.int)\/SqT K H r (ns.map V.int))/\ns.length<=1000/\i<ns.length/\∀(e:Int) H',Zx (nth ns) ns.length i e->Zd H H'->Q (.int e) H'
noncomputable def Zbj:SpT:=λK mg vs H Q E=>∃(r:Addr) (ns:List Int),vs=[.ref r]/\(SqL K H r (ns.map V.int)\/SqT K H r (ns.map V.int))/\ns.length<=1000/\((∀(t:Addr) (es:List Int) H',Zp ns es->Zd H H'->H' t=some (.tup (es.map V.int))->Q (.ref t) H')\/∀(t:Addr) (es:List Int) H',Zp ns es->Zd H H'->Zl1 H' t (es.map V.int)->Q (.ref t) H')
noncomputable def ZeE:SpT:=λK mg vs H Q E=>∃(t:Addr) (T:List Int) (p:Nat),vs=[.ref t,.int p]/\H t=some (.tup (T.map V.int))/\T.length<=1000/\p<T.length/\ZcR T T.length (nth T p)/\∀(w:Addr) H',H w=none->Zd H H'->H' w=some (.lst ((Zqz T p).map V.int))->Q (.ref w) H'
noncomputable def ZeF:SpT:=λK mg vs H Q E=>∃(t:Addr) (T:List Int) (v:Nat) (lt:Bool),vs=[.ref t,.int (v:Int),.bl lt]/\H t=some (.tup (T.map V.int))/\Zcm T/\v<T.length/\∀(o:Option Nat) H',(lt=false->Zab T v o)->(lt=true->ZT T v o)->Zd H H'->Q (optN o) H'
noncomputable def ZdH:SpT:=λK mg vs H Q E=>∃(t x l:Addr) (T ts:List Int) (tab:List (List Pt)) (v i:Nat),vs=[.ref t,.ref x,.ref l,.int (v:Int),.int (i:Int)]/\H t=some (.tup (T.map V.int))/\H x=some (.lst (ts.map V.int))/\Zfh H l tab/\Zcm T/\v<T.length/\i<ts.length/\ts.length<=16/\(∀c,c<T.length->nth T c=v->c<tab.length/\(tab.getD c []).length=ts.length)/\∀(u:V) (p:Pt) (ah bh:Option Nat) H',Zab T v ah->ZT T v bh->ZbO ts tab i ah bh p->ZaZ H' u p->Zd H H'->Q u H'
noncomputable def unN (T:List Int) (v:Nat):Nat:=((List.range T.length).filter λo=>decide (o=v\/v∈way T o)).length
noncomputable def unL (T:List Int) (v:Nat):List Int:=((List.range T.length).filter λo=>decide (o=v\/v∈way T o)).map λ(o:Nat)=>(o:Int)
noncomputable def ZdI:SpT:=λK mg vs H Q E=>∃(t:Addr) (T:List Int) (v:Nat),vs=[.ref t,.int (v:Int)]/\H t=some (.tup (T.map V.int))/\Zcm T/\∀(l:Addr) (us:List V) H',H l=none->H' l=some (.lst us)->us.length=unN T v/\us=(unL T v).map V.int->Zd H H'->Q (.ref l) H'
noncomputable def FsOk (ts:List Int) (tab:List (List Pt)) (i:Nat) (ah:Option Nat) (fs:List Int):Prop:=match ah with
 |none=>fs=[(i:Int)]
 |some c=>∀x,x∈fs↔∃j,Zat ts (tab.getD c []) i j/\x=(ZV (tab.getD c []) j).1
noncomputable def LsOk (ts:List Int) (tab:List (List Pt)) (i:Nat) (bh:Option Nat) (ls:List Int):Prop:=match bh with
 |none=>ls=[(i:Int)]
 |some c=>∀x,x∈ls↔∃j,Zau ts (tab.getD c []) i j/\x=(ZV (tab.getD c []) j).2
noncomputable def unI (T:List Int) (i:Int):Int:=(unN T i.toNat:Int)
noncomputable def ZdJ:SpT:=λK mg vs H Q E=>∃(r x:Addr) (ns ts:List Int),vs=[.ref r,.ref x]/\H r=some (.lst (ns.map V.int))/\H x=some (.lst (ts.map V.int))/\ns.length<=6/\ts.length<=16/\ZU K mg "_law_table" H/\∀(l:Addr) (T:List Int) (tab:List (List Pt)) H',H l=none->Zp ns T->Zfh H' l tab->Zdg T ts tab->Zd H H'->Q (.ref l) H'
noncomputable def ZcV:SpT:=λK mg vs H Q E=>∃(p r:Addr) (xs:List V),vs=[.ref p,.ref r]/\ZK H p/\r≠p/\H r=some (.lst xs)/\xs.length<=1000/\∀(u:Addr) H',H u=none->(H' u=some (.lst xs)\/H' u=some (.tup xs))->ZK H' p->Exc p H H'->Q (.ref u) H'
noncomputable def ZeG:SpT:=λK mg vs H Q E=>∃(p:Addr) (most wide:Int),vs=[.ref p,.int most,.int wide]/\1<=most/\most<=100/\0<=wide/\wide<=100/\ZK H p/\∀(t r x:Addr) (ns ts:List Int) H',H r=none->H x=none->0<ns.length->(ns.length:Int)<=most->(ts.length:Int)<=wide->H' r=some (.lst (ns.map V.int))->H' x=some (.lst (ts.map V.int))->H' t=some (.tup [.ref r,.ref x])->ZK H' p->Exc p H H'->Q (.ref t) H'
noncomputable def Ris (N:Nat) (r:List Int):Prop:=(∀x∈r,0<=x/\x<(N:Int))/\r.Pairwise (· < ·)
noncomputable def ZcW:SpT:=λK mg vs H Q E=>∃(many size:Nat),vs=[.int (many:Int),.int (size:Int)]/\many<=9/\size<=4/\∀(l:Addr) (rs:List (List Int)) H',H l=none->Zo H' l rs->rs.length<=6561->(∀r,r∈rs↔r.length=size/\Ris many r)->Zd H H'->Q (.ref l) H'
noncomputable def atL (ts r:List Int):List Int:=r.map λx=>nth ts x.toNat
noncomputable def ZjF (ns ts r:List Int):Prop:=r.length=ns.length/\Ris ts.length r/\∃W,Zp ns W/\Zp (atL ts r) W
noncomputable def Zcg:SpT:=λK mg vs H Q E=>∃(r x:Addr) (ns ts:List Int),vs=[.ref r,.ref x]/\(SqL K H r (ns.map V.int)\/SqT K H r (ns.map V.int))/\H x=some (.lst (ts.map V.int))/\ns.length<=4/\ts.length<=9/\∀(l:Addr) (rs:List (List Int)) H',H l=none->Zo H' l rs->rs.length<=6561->(∀r,r∈rs↔ZjF ns ts r)->Zd H H'->Q (.ref l) H'
noncomputable abbrev Win (q r:List Int):Prop:=nth r 0<=nth q 0/\nth q 1<=nth r 1
noncomputable def Zch (S:List Int->Prop) (rs:List (List Int)):Prop:=(rs.Pairwise λx y=>lxI x y=true)/\∀r,r∈rs↔(S r/\∀q,S q->Win q r->q=r)
noncomputable def ZiH (T:List Int) (tab:List (List Pt)) (r:List Int):Prop:=∃e:Int×Int,some e∈tab.getD (T.idxOf (-1)) []/\r=[e.1,e.2]
noncomputable def ZcX:SpT:=λK mg vs H Q E=>∃(p q:Addr) (a b c d:Int),vs=[.ref p,.ref q]/\H p=some (.tup [.int a,.int b])/\H q=some (.tup [.int c,.int d])/\∀z:Bool,(z=true↔¬ (a=c/\b=d)/\c<=a/\b<=d)->Q (.bl z) H
noncomputable def Za6:SpT:=λK mg vs H Q E=>∃(r x:Addr) (ns ts:List Int),vs=[.ref r,.ref x]/\(SqL K H r (ns.map V.int)\/SqT K H r (ns.map V.int))/\(SqL K H x (ts.map V.int)\/SqT K H x (ts.map V.int))/\0<ns.length/\ns.length<=6/\ts.length<=16/\ZU K mg "from_below" H/\ZU K mg "best_ahead" H/\ZU K mg "best_behind" H/\∀(l:Addr) (T:List Int) (tab:List (List Pt)) (rs:List (List Int)) H',H l=none->Zp ns T->Zdg T ts tab->Zch (ZiH T tab) rs->rs.length<=16->Zo H' l rs->Zd H H'->Q (.ref l) H'
noncomputable def Zao:SpT:=λK mg vs H Q E=>∃(l:Addr) (ps:List (List Int)),vs=[.ref l]/\Zo H l ps/\(∀r∈ps,∃x y,r=[x,y]/\0<=y/\y<100000)/\ps.length<=7000/\∀(l':Addr) (rs:List (List Int)) H',H l'=none->Zch (λr=>r∈ps) rs->Zo H' l' rs->Zd H H'->Q (.ref l') H'
noncomputable def Za7:SpT:=λK mg vs H Q E=>∃(p r x d:Addr) (ns ts T:List Int) (tab:List (List Pt)) (rs:List (List Int)),vs=[.ref p,.ref r,.ref x,.ref d]/\ZK H p/\r≠p/\x≠p/\d≠p/\H r=some (.lst (ns.map V.int))/\H x=some (.lst (ts.map V.int))/\0<ns.length/\ns.length<=6/\ts.length<=16/\Zp ns T/\Zdg T ts tab/\Zch (ZiH T tab) rs/\Zo H d rs/\ZU K mg "from_below" H/\ZU K mg "best_ahead" H/\ZU K mg "best_behind" H/\∀H',ZK H' p->Exc p H H'->Q (.bl true) H'
noncomputable def ZbK:SpT:=λK mg vs H Q E=>∃(r x:Addr) (ns ts:List Int),vs=[.ref r,.ref x]/\H r=some (.lst (ns.map V.int))/\H x=some (.lst (ts.map V.int))/\0<ns.length/\ns.length<=6/\ts.length<=16/\ZU K mg "_law_table" H/\∀(l:Addr) (T:List Int) (tab:List (List Pt)) (rs:List (List Int)) H',H l=none->Zp ns T->Zdg T ts tab->Zch (ZiH T tab) rs->Zo H' l rs->Zd H H'->Q (.ref l) H'
section
variable {P:Program}{w:World}{K:PySem.W.Frag}{mg:Str->Option Value}{base:Heap}
theorem ZiI:FnScope ["row","fewest"] ["row","fewest"] (defScope Zaf):=by infer_instance
theorem ZqX:FnScope ["elders","spine","place","keep"] ["elders","spine","place","keep"] (defScope Zeq):=by infer_instance
theorem ZbL:FnScope ["row","elders","spine","place","keep"] ["row"] (defScope ZcI):=by infer_instance
theorem Zge:FnScope ["tree","place","way","at"] ["tree","place"] (defScope Zer):=by infer_instance
theorem Zdh:FnScope ["tree","young","place","elder"] ["tree"] (defScope ZbH):=by infer_instance
theorem Zkl:FnScope ["tree"] ["tree"] (defScope ZaR):=by infer_instance
theorem Zkm:FnScope ["row","text"] ["row","text"] (defScope ZaS):=by infer_instance
theorem Zgo:FnScope ["text","pairs","i","fit"] ["text","pairs","i"] (defScope ZaT):=by infer_instance
theorem ZfF:FnScope ["text","pairs","i","fit"] ["text","pairs","i"] (defScope Zax):=by infer_instance
theorem Zap:FnScope ["text","table","young","i","ahead","behind","first","last","j"] ["text","table","young","i"] (defScope ZcJ):=by infer_instance
theorem Zdi:FnScope ["tree","text","young","table","v"] ["tree","text"] (defScope ZbI):=by infer_instance
theorem ZjG:FnScope ["pair","other"] ["pair","other"] (defScope Zay):=by infer_instance
theorem Zaq:FnScope ["row","text","tree","tops","pairs"] ["row","text"] (defScope ZP):=by infer_instance
theorem Z6:FnScope ["script","k","cell","seed","number","turn"] ["script","k"] (defScope Za9):=by infer_instance
theorem Zhm:FnScope ["pot","many","digit"] ["pot","many"] (defScope Zba):=by infer_instance
theorem ZaN:FnScope ["pot","most","many","kind","turn","row","k"] ["pot","most"] (defScope ZbJ):=by infer_instance
theorem ZdK:FnScope ["row","place","earlier","later"] ["row","place"] (defScope ZaU):=by infer_instance
theorem Zl7:FnScope ["row"] ["row"] (defScope Zbb):=by infer_instance
theorem Zcq:FnScope ["tree","place","way","here"] ["tree","place"] (defScope Zbc):=by infer_instance
theorem ZjH:FnScope ["pot","some"] ["pot","some"] (defScope Zaz):=by infer_instance
theorem Zcr:FnScope ["pot","most","wide","row","text"] ["pot","most","wide"] (defScope Zbd):=by infer_instance
theorem Zah:FnScope ["many","size","told","turn","longer","one"] ["many","size"] (defScope ZaA):=by infer_instance
theorem Zfi:FnScope ["row","text","tree"] ["row","text"] (defScope Zag):=by infer_instance
theorem Zkn:FnScope ["tree","place"] ["tree","place"] (defScope ZaV):=by infer_instance
theorem Zhn:FnScope ["tree","place","later","told"] ["tree","place","later"] (defScope Zbe):=by infer_instance
theorem ZN:FnScope ["tree","text","table","place","at","firsts","lasts","ahead","behind","pairs"] ["tree","text","table","place","at"] (defScope ZaW):=by infer_instance
theorem ZbP:FnScope ["row","text","tree","table","place"] ["row","text"] (defScope ZaX):=by infer_instance
theorem Zar:FnScope ["pairs","told","pair","inner"] ["pairs"] (defScope ZQ):=by infer_instance
theorem Za8:FnScope ["pot","row","text","due","handed","told"] ["pot","row","text","due"] (defScope ZR):=by infer_instance
theorem Zes:FnScope ["row","text","tree"] ["row","text"] (defScope Z3):=by infer_instance
theorem ZfG:FnScope ["script","k","pot","row","text","due"] ["script"] (defScope Zhl):=by infer_instance
theorem Zl8 {f:Addr}{fd:FuncData} (F:Fun K "_law_deal" "_law_deal" Za9 f fd) (T:Txt K mg):FnOk P w K mg base (CXE P w) 1 f fd ["script","k"] (ZeD K mg):=by
 refine F.okX Z6 (λvs H Q E h=>?_) (λcdv A outer s H vs Q E hr h=>?_)
 .obtain⟨a,ns,k,rfl,_⟩:=h;rfl
 obtain⟨a,ns,k,rfl,hS,h0,h1,k1⟩:=h
 refine⟨_,(Ze (Zu (i:=2) Z6.nd rfl (Or.inl rfl) Zf)
   (Ze (Zaa (Zj Zg6 (pv 1) (Zn (Zt (K:=K) rfl) rfl T.b_len YL (Za (pv 0) Zb)) (Zl _)) (Zg (Zu (i:=2) Z6.nd rfl (Or.inl rfl) (Zy Zfs (Zk Zr (pv 0) (pv 1) (λ_ _=>rfl)) (Zy Zdf (Zy Zdf (Zy Zdf (Zy ZgA Zf Zf) (Zy ZgA Zf Zf)) (Zy ZgA Zf Zf)) (Zy ZgA Zf Zf))))) ZI)
   (Ze (Zaa (Zj ZmB (pv 2) (Zy ZgA Zf Zf) (Zl _)) (Zg (Zz (ZZ (Za (Zy ZhK (pv 2) (Zy ZgA Zf Zf)) Zb)))) ZI)
   (Ze (Zu (i:=3) Z6.nd rfl (Or.inl rfl) (Zy Zcd (Zy Zcd (Zy Zfs (pv 2) Zf) (Zy Zdf Zf (pv 1))) Zf))
   (Ze (Zu (i:=4) Z6.nd rfl (Or.inl rfl) Zf)
   (Ze (ZbD (Zdz PassesOwn.never rfl (ZM rfl T.b_range (Za Zf Zb)) (Zm (i:=5) Z6.nd rfl (Or.inl rfl)) (Ze (Zu (i:=3) Z6.nd rfl (Or.inl rfl) (Zy Zfs (Zy Zcd (Zy Zdf (pv 3) Zf) Zf) Zf))
   (Zg (Zu (i:=4) Z6.nd rfl (Or.inl rfl) (Zy Zcd (Zy Zdf (pv 4) Zf) (Zy Zfs (Zy Zjn (Zy Zfs (Zy Zdf (pv 3) (pv 3)) Zf) Zf) Zf)))))))
   (Zg (Zz (ZZ (Za (pv 4) Zb)))))))))),?_⟩
 simp only[tIfS,tNot,Zpn,ZnP,rI0,rI,rU,Zlp,tC,tB,tIf,Zry,ZmC,ZkJ,Zql,tAsg,tSeq,tRet,ZrA,tOp,tUn,tAnd,tOr,ZrB,Zgl,gSub,tAug,tCB,tSl,ZnV,tLst,tTup,Lake.start,tYes,gTup,ZrC,gNil,ZO,Option.join_some,Option.join_none,rEq,Zpt,Zpu,Zpv,Zpw,Zpx,Zpy,tBM,Bool.true_eq_false,YR,List.map_nil,List.cons_append,List.nil_append,YN,List.length_nil,List.replicate,List.append_nil,List.set_cons_zero,List.set_cons_succ,List.getElem?_cons_zero,List.getElem?_cons_succ,Option.some.injEq,V.int.injEq,V.bl.injEq,V.ref.injEq,List.cons.injEq,and_true,true_and,exists_eq_left,exists_eq_left',exists_and_left,exists_eq,decide_eq_true_eq,Bool.not_eq_true',decide_eq_false_iff_not,cxK,and_assoc,Bool.false_eq_true,↓reduceIte,Zpr,ZkP,ZmK,ZrE,ZrF,Zpm,iTup,ZdB,Zfn,ZrL,rCat,rIsi,ZrX,ZlN,Zn1,rLen,rLof,rTof,Zm7,tBMH,Zhi,rEqD,ZrS,rIn,Zoa,rAll,rAny,rIxQ,rSlL,ZrJ,Zlt,tSl,ipI,ZlD,rRep,Zpz,ZrQ,ZlE,V.str.injEq,ZmX,Zr9,Zsa,tLam,ZlW,ZlX,Zon,Zop,gLst,Zsh,ZlZ,tOrT,Zhi,Zm7,tBMH,Zhk,Zl5,rOrC,cp18,cp60,qm1,qm2,qm3,qm4]
 have fin:∀g:Int,0<=g->∀p,H p=none->Q (V.ref p) (upd H p (.lst [V.int g])):=λg hg p hp=>k1 p _ hp ((Zd.refl H).upd hp) ⟨_,Zc,hg⟩
 refine⟨_,.inl hS,ZA (λhk=>?_) (λhk=>?_)⟩
 case' refine_1 =>
  obtain⟨j,hj0⟩:=Jg h0
  have hj:j<(ns.map V.int).length:= ⋯
  refine⟨_,hS,_,ZgC hj0 hj,ns[j]'(by simpa using hj),by simp,ZA (λc=>⟨by decide,fin _ (Int.sub_nonneg.mpr c)⟩) (λ_=>⟨by decide,Zps nofun nofun,by decide,by decide,?_⟩)⟩
 case' refine_2 =>
  refine ZA (λz=>absurd z nofun) (λ_=>⟨by decide,Zps nofun nofun,by decide,by decide,?_⟩)
 all_goals
  refine Zeg (λi σ H'=>∃v2 g o v5,σ=[some (.ref a),some (.int k),v2,some (.int o),some (.int g),v5]/\0<=g/\H'=H) ⟨_,0,_,none,rfl,Int.le_refl _,rfl⟩ ?_ ?_
  .rintro i σ H' hi ⟨v2,g,o,v5,rfl,hg,rfl⟩
   right
   have b1:=Int.emod_nonneg (o*48271+12345) (b:=2147483647) nofun
   have b2:=Int.emod_lt_of_pos (o*48271+12345) (b:=2147483647) nofun
   refine⟨mul_r nofun nofun,by decide,mul_r nofun nofun,Zps ⋯ ⋯,by decide,⟨by decide,by decide⟩,by decide,?_⟩
   have b3:=Int.emod_nonneg ((o*48271+12345) % 2147483647*((o*48271+12345) % 2147483647) % 2147483629 / 64) (b:=16777216) nofun
   have b4:=Int.mul_nonneg hg (show(0:Int)<=16777216 by decide)
   omega
  .rintro σ H' ⟨v2,g,o,v5,rfl,hg,rfl⟩
   right
   exact⟨by decide,fin g hg⟩
theorem Zl9 {f:Addr}{fd:FuncData} (F:Fun K "_law_take" "_law_take" Zba f fd) (T:Txt K mg):FnOk P w K mg base (CXE P w) 1 f fd ["pot","many"] (Zbi K mg):=by
 refine F.okX Zhm (λvs H Q E h=>?_) (λcdv A outer s H vs Q E hr h=>?_)
 .obtain⟨p,many,rfl,_⟩:=h;rfl
 obtain⟨p,many,rfl,h0,h1,⟨x,hp,hx⟩,k1⟩:=h
 refine⟨_,(Ze (Zu (i:=2) Zhm.nd rfl (Or.inl rfl) (Zy Zfs (Zk Zr (pv 0) Zf (λ_ _=>rfl)) (pv 1)))
   (Ze (Zet (Zy Zjn (Zk Zr (pv 0) Zf (λ_ _=>rfl)) (pv 1)) (ZhI (pv 0) Zf set_list (λ_=>rfl)))
   (Zg (Zz (pv 2))))),?_⟩
 right
 refine⟨_,SqL.of hp,_,rfl,_,rfl,h0,?_⟩
 refine⟨_,SqL.of hp,_,rfl,_,rfl,⟨h0,⋯⟩,_,hp,_,rfl,?_⟩
 exact k1 _ _ (Int.emod_nonneg _ ⋯) (Int.emod_lt_of_pos _ h0) ⟨_,Zc,Int.ediv_nonneg hx ⋯⟩ Exc.upd
theorem Znk {f:Addr}{fd:FuncData} (F:Fun K "_law_row" "_law_row" ZbJ f fd) (Zv:Callee P w K mg base "_law_take" 1 ["pot","many"] (Zbi K mg)) (T:Txt K mg):FnOk P w K mg base (CXE P w) 2 f fd ["pot","most"] (ZfE K mg):=by
 refine F.okX ZaN (λvs H Q E h=>?_) (λcdv A outer s H vs Q E hr h=>?_)
 .obtain⟨p,most,rfl,_⟩:=h;rfl
 obtain⟨p,most,rfl,h0,h1,hP,k1⟩:=h
 refine⟨_,(Ze (Zu (i:=2) ZaN.nd rfl (Or.inl rfl) (Zi Zv (hr.mono nofun) rfl ZC (Za (pv 0) (Za (Zy Zcd (pv 1) Zf) Zb))))
   (Ze (Zu (i:=3) ZaN.nd rfl (Or.inl rfl) (Zi Zv (hr.mono nofun) rfl ZC (Za (pv 0) (Za Zf Zb))))
   (Ze (Zu (i:=4) ZaN.nd rfl (Or.inl rfl) (Zy Zcd Zf (Zi Zv (hr.mono nofun) rfl ZC (Za (pv 0) (Za Zf Zb)))))
   (Ze (Zu (i:=5) ZaN.nd rfl (Or.inr rfl) (ZZ Zb))
   (Ze (ZbD (Zdz PassesOwn.never rfl (ZM rfl T.b_range (Za (pv 2) Zb)) (Zm (i:=6) ZaN.nd rfl (Or.inl rfl)) (Zg (Zaa (Zj Zg6 (pv 3) Zf (Zl _)) (Zg (Zal (Zdb PySem.F.plainAttrs_list PySem.F.slot_list_append PySem.F.type_list_append Zav (pv 5) (Za (Zi Zv (hr.mono nofun) rfl ZC (Za (pv 0) (Za (pv 4) Zb))) Zb)))) (Zg (Zaa (Zj Zgm (pv 3) Zf (Zl _)) (Zg (Zal (Zdb PySem.F.plainAttrs_list PySem.F.slot_list_insert PySem.F.type_list_insert Zqw (pv 5) (Za (Zi Zv (hr.mono nofun) rfl ZC (Za (pv 0) (Za (Zy Zcd (pv 6) Zf) Zb))) (Za (pv 6) Zb))))) (Zg (Zaa (Zj Zgm (pv 3) Zf (Zl _)) (Zg (Zal (Zdb PySem.F.plainAttrs_list PySem.F.slot_list_append PySem.F.type_list_append Zav (pv 5) (Za (Zy ZhK (Zy Zfs (pv 6) (pv 4)) (Zy Zjn (pv 6) (pv 4))) Zb)))) (Zg (Zaa (Zj Zgm (pv 3) Zf (Zl _)) (Zg (Zal (Zdb PySem.F.plainAttrs_list PySem.F.slot_list_append PySem.F.type_list_append Zav (pv 5) (Za (Zk Zr (ZZ (Za (pv 6) (Za (Zfr ZcL (pv 6)) Zb))) (Zy Zfs (pv 4) Zf) (λ_ _=>rfl)) Zb)))) (Zg (Zaa (Zj Zgm (pv 3) Zf (Zl _)) (Zg (Zal (Zdb PySem.F.plainAttrs_list PySem.F.slot_list_append PySem.F.type_list_append Zav (pv 5) (Za (Zy Zdf (Zy ZhK (Zi Zv (hr.mono nofun) rfl ZC (Za (pv 0) (Za Zf Zb))) Zf) (Zy ZgA Zf Zf)) Zb)))) (Zg (Zal (Zdb PySem.F.plainAttrs_list PySem.F.slot_list_append PySem.F.type_list_append Zav (pv 5) (Za (Zy ZhK (Zi Zv (hr.mono nofun) rfl ZC (Za (pv 0) (Za Zf Zb))) Zf) Zb))))))))))))))))
   (Ze (Zaa (Zj Zgm (pv 3) Zf (Zl _)) (Zg (Zu (i:=5) ZaN.nd rfl (Or.inr rfl) (Z2 ["k","row"] [none,some 5] rfl rfl rfl (ZM rfl T.b_range (Za (pv 2) Zb)) (λ_ _ _ _ _=>(Zm (i:=0) (show(["k","row"]:List Str).Nodup from by decide +kernel) rfl (Or.inl rfl))) (λ_ _ _ _ _=>Zad) (λ_ _ _ _ _=>(pe_bmK (K:=K) rfl PySem.F.plainAttrs_list PySem.F.slot_list_index PySem.F.type_list_index (ZrW (K:=K) rfl) (pv 1) (Za (pv 0) Zb))) Zs))) ZI)
   (Zg (Zz (pv 5))))))))),?_⟩
 refine ZaP (fun σ Hx=>∃m:Int,σ=[some (.ref p),some (.int most),some (.int m),none,none,none,none]/\0<=m/\m<=most/\ZK Hx p/\Exc p H Hx) (λR hR=>?_) ?_
 .right
  exact⟨p,_,rfl,⋯,⋯,hP,λd H1 d0 d1 P1 e1=>hR _ _ ⟨d,rfl,d0,⋯,P1,e1⟩⟩
 rintro σ H1 ⟨many,rfl,m0,m1,P1,e1⟩
 refine ZaP (fun σ Hx=>∃k:Int,σ=[some (.ref p),some (.int most),some (.int many),some (.int k),none,none,none]/\0<=k/\k<8/\ZK Hx p/\Exc p H Hx) (λR hR=>?_) ?_
 .right
  exact⟨p,_,rfl,by decide,by decide,P1,λd H2 d0 d1 P2 e2=>hR _ _ ⟨d,rfl,d0,d1,P2,e1.trans e2⟩⟩
 clear P1 e1 H1
 rintro σ H1 ⟨kd,rfl,d0,d1,P1,e1⟩
 refine ZaP (fun σ Hx=>∃t:Int,σ=[some (.ref p),some (.int most),some (.int many),some (.int kd),some (.int t),none,none]/\2<=t/\t<6/\ZK Hx p/\Exc p H Hx) (λR hR=>?_) ?_
 .right
  exact⟨p,_,rfl,by decide,by decide,P1,λd H2 d0 d1 P2 e2=>⟨d,rfl,hR _ _ ⟨_,rfl,⋯,⋯,P2,e1.trans e2⟩⟩⟩
 clear P1 e1 H1
 rintro σ H1 ⟨tn,rfl,t0,t1,P1,e1⟩
 refine ZaP (fun σ Hx=>∃q:Addr,σ=[some (.ref p),some (.int most),some (.int many),some (.int kd),some (.int tn),some (.ref q),none]/\H q=none/\q≠p/\Hx q=some (.lst [])/\ZK Hx p/\Exc p H Hx) (λR hR=>?_) ?_
 .right
  exact⟨Yq _,λq hq=>hR _ _ ⟨q,rfl,e1.free (P1.ne hq) hq,P1.ne hq,Zc,P1.upd hq,e1.same ((Zd.refl H1).upd hq)⟩⟩
 clear P1 e1 H1
 rintro σ H1 ⟨q,rfl,zq,nqp,hq1,P1,e1⟩
 refine ZaP (fun σ Hx=>∃(ns:List Int) (v6:Option V),σ=[some (.ref p),some (.int most),some (.int many),some (.int kd),some (.int tn),some (.ref q),v6]/\(ns.length:Int)=many/\(kd=3->∀j:Nat,(j:Int)<many->(j:Int)∈ns)/\Hx q=some (.lst (ns.map V.int))/\ZK Hx p/\Exc p H Hx) (λR hR=>?_) ?_
 .right
  refine⟨⋯,⋯,?_⟩
  refine Zeg (λi σ Hx=>∃(ns:List Int) (v6:Option V),σ=[some (.ref p),some (.int most),some (.int many),some (.int kd),some (.int tn),some (.ref q),v6]/\ns.length=i/\(kd=3->∀j:Nat,j<i->(j:Int)∈ns)/\Hx q=some (.lst (ns.map V.int))/\ZK Hx p/\Exc p H Hx) ⟨[],none,rfl,rfl,(λ_ j hj=>absurd hj ⋯),hq1,P1,e1⟩ ?_ ?_
  .rintro i σ Hx hi ⟨ns,v6,rfl,hl,hin,hqx,Px,ex⟩
   have hi':i<1000:= ⋯
   have hb:(ns.map V.int).length<sizeLine:=YG (show _<=1000 by rw[Yi];omega) nofun
   have app:kd≠3->∀(y:Int) (Hy:Hp),Hy q=some (.lst (ns.map V.int))->ZK Hy p->Exc p H Hy->∃x_1,Hy q=some (HO.lst x_1)/\x_1.length<sizeLine/\∃ns':List Int,ns'.length=i+1/\(kd=3->∀(j:Nat),j<i+1->(j:Int)∈ns')/\upd Hy q (HO.lst (x_1++[V.int y])) q=some (HO.lst (List.map V.int ns'))/\ZK (upd Hy q (HO.lst (x_1++[V.int y]))) p/\Exc p H (upd Hy q (HO.lst (x_1++[V.int y]))):=λn3 y Hy hy Py ey =>
    ⟨_,hy,hb,ns++[y],by simp[hl],(λz=>absurd z n3),by rw[Zc];simp,Py.updN nqp,ey.updN zq⟩
   right
   refine ZA (λk3=>⟨Z5 hqx,p,_,rfl,⋯,⋯,Px,λd H2 d0 d1 P2 e2=>app ⋯ d H2 (e2 _ _ nqp hqx) P2 (ex.trans e2)⟩) λk3=>?_
   refine ZA (λk4=>⟨Z5 hqx,p,_,rfl,⋯,⋯,Px,λd H2 d0 d1 P2 e2=>?_⟩) λk4=>?_
   .refine⟨_,d,rfl,e2 _ _ nqp hqx,d0,⋯,hb,ns.take d.toNat++(0+(i:Int))::ns.drop d.toNat,by simp;omega,λ_ j hj=>?_,by rw[Zc];simp,P2.updN nqp,(ex.trans e2).updN zq⟩
    by_cases ej:j=i
    .rw[ej];simp
    .have hm:=hin k4 j ⋯
     rw[<-Jh d.toNat ns]at hm
     rcases YB.mp hm with z|z
     .exact YY _ z
     .exact Yn _ (Yu _ z)
   refine ZA (λk5=>⟨Z5 hqx,⋯,⟨⋯,⋯⟩,app k4 _ Hx hqx Px ex⟩) λk5=>?_
   refine ZA (λk6=>⟨Z5 hqx,by decide,λu hu=>⟨by decide,?_⟩⟩) λk6=>?_
   .obtain⟨v,hv,y,rfl⟩:=ZuI (xs:=[V.int (0+(i:Int)),V.int (-(0+(i:Int)))]) (i:=tn % 2) (λv=>∃y:Int,v=V.int y) ⋯ (by show _<((2:Nat):Int);omega) (by
     intro x hx
     simp only[Yk,List.not_mem_nil,or_false]at hx
     rcases hx with rfl|rfl<;>exact⟨_,rfl⟩)
    have g:=(Zd.refl Hx).upd (o:=.lst [V.int (0+(i:Int)),V.int (-(0+(i:Int)))]) hu
    exact⟨_,SqL.of Zc,_,hv,app k4 y _ (g _ _ hqx) (Px.same g) (ex.same g)⟩
   exact ZA (λk7=>⟨Z5 hqx,p,_,rfl,by decide,by decide,Px,λd H2 d0 d1 P2 e2=>⟨d,rfl,cp59,Zps ⋯ ⋯,app k4 _ H2 (e2 _ _ nqp hqx) P2 (ex.trans e2)⟩⟩) λk7=>⟨Z5 hqx,p,_,rfl,by decide,by decide,Px,λd H2 d0 d1 P2 e2=>⟨d,rfl,app k4 _ H2 (e2 _ _ nqp hqx) P2 (ex.trans e2)⟩⟩
  .rintro σ Hx ⟨ns,v6,rfl,hl,hin,hqx,Px,ex⟩
   exact hR _ _ ⟨ns,v6,rfl,⋯,(λz j hj=>hin z j ⋯),hqx,Px,ex⟩
 clear P1 e1 hq1 H1
 rintro σ H1 ⟨ns,v6,rfl,hl,hin,hq1,P1,e1⟩
 refine ZaP (fun σ Hx=>∃(q:Addr) (ns:List Int) (v6:Option V),σ=[some (.ref p),some (.int most),some (.int many),some (.int kd),some (.int tn),some (.ref q),v6]/\H q=none/\(ns.length:Int)=many/\Hx q=some (.lst (ns.map V.int))/\ZK Hx p/\Exc p H Hx) (λR hR=>?_) ?_
 .right
  refine ZA (λk3=>⟨⋯,⋯,?_⟩) λk3=>hR _ _ ⟨q,ns,v6,rfl,zq,hl,hq1,P1,e1⟩
  refine comp_map (n:=many.toNat) (λj=>V.int ((ns.idxOf ((j:Nat):Int):Nat):Int)) (YG (show _<=1000 by omega) nofun) (λj Hx s hj=>hj) (λHx s=>Yc _) ?_ ?_
  .rintro j x Hx Hy hj s ⟨rfl,rfl⟩
   have e0:((0:Int)+(j:Int))=(j:Int):= ⋯
   rw[e0]
   right
   exact⟨Z5 (s _ _ hq1),_,SqL.of (s _ _ hq1),⋯,hin k3 j ⋯,CW.next hj rfl s⟩
  .intro l Hx s hlx
   have em:(List.range many.toNat).map (λj=>V.int ((ns.idxOf ((j:Nat):Int):Nat):Int))=((List.range many.toNat).map λj=>((ns.idxOf ((j:Nat):Int):Nat):Int)).map V.int:=by rw[Je];rfl
   rw[em]
   exact hR _ _ ⟨l,_,v6,rfl,e1.free ((P1.same s).ne hlx) (s.free hlx),by simp;omega,Zc,(P1.same s).upd hlx,(e1.same s).same ((Zd.refl Hx).upd hlx)⟩
 rintro σ H2 ⟨q2,ms,v6',rfl,zq2,hl2,hq2,P2,e2⟩
 right
 exact k1 q2 ms _ zq2 ⋯ hq2 P2 e2
theorem Zko {f:Addr}{fd:FuncData} (F:Fun K "_law_elder" "_law_elder" ZaU f fd) (T:Txt K mg):FnOk P w K mg base (CXE P w) 1 f fd ["row","place"] (ZdG K mg):=by
 refine F.okX ZdK (λvs H Q E h=>?_) (λcdv A outer s H vs Q E hr h=>?_)
 .obtain⟨r,ns,i,rfl,_⟩:=h;rfl
 obtain⟨r,ns,i,rfl,hr1,hn,hi,k1⟩:=h
 refine⟨_,(Ze (Zas (i:=2) ["other","row","place"] [none,some 0,some 1] ZdK.nd rfl (Or.inl rfl) rfl rfl rfl (ZM rfl T.b_range (Za (pv 1) Zb)) (λ_ _ _ _ _=>(Zm (i:=0) (show(["other","row","place"]:List Str).Nodup from by decide +kernel) rfl (Or.inl rfl))) (λ_ _ _ _ _=>Z1 (Zj ZkI (Zk (Zg8 (K:=K) rfl) (pv 1) (pv 0) (λ_ _=>rfl)) (Zk (Zg8 (K:=K) rfl) (pv 1) (pv 2) (λ_ _=>rfl)) (Zl _))) (λ_ _ _ _ _=>(pv 0)) Zs)
   (Ze (Zas (i:=3) ["other","row","place"] [none,some 0,some 1] ZdK.nd rfl (Or.inl rfl) rfl rfl rfl (Zf8 rfl T.b_range (Za (Zy Zcd (pv 1) Zf) (Za (Zn (Zt (K:=K) rfl) rfl T.b_len YL (Za (pv 0) Zb)) Zb))) (λ_ _ _ _ _=>(Zm (i:=0) (show(["other","row","place"]:List Str).Nodup from by decide +kernel) rfl (Or.inl rfl))) (λ_ _ _ _ _=>Z1 (Zj Zg6 (Zk (Zg8 (K:=K) rfl) (pv 1) (pv 0) (λ_ _=>rfl)) (Zk (Zg8 (K:=K) rfl) (pv 1) (pv 2) (λ_ _=>rfl)) (Zl _))) (λ_ _ _ _ _=>(pv 0)) Zs)
   (Ze (Zaa (PW.pt (ZkH (Zj (Zfu (K:=K) rfl hr) (pv 2) (ZZ Zb) (Zl _)) (Zi6 (Zj (Zfu (K:=K) rfl hr) (pv 3) (ZZ Zb) (Zl _))))) (Zg (Zz (Zk Zr (Zy ZnS (Zy ZnS (Zjb Zlz (pv 2) (Zlv (Zfr ZcL Zf)) Zlu) (Zjb Zlz (pv 3) Zlu (Zlv Zf))) (ZZ (Za (Zfr ZcL Zf) Zb))) Zf (λ_ _=>rfl)))) ZI)
   (Ze (Zaa (Zj Zfd (Zk (Zg8 (K:=K) rfl) (pv 0) (Zk Zr (pv 2) (Zfr ZcL Zf) (λ_ _=>rfl)) (λ_ _=>rfl)) (Zk (Zg8 (K:=K) rfl) (pv 0) (Zk Zr (pv 3) Zf (λ_ _=>rfl)) (λ_ _=>rfl)) (Zl _)) (Zg (Zz (Zk Zr (pv 2) (Zfr ZcL Zf) (λ_ _=>rfl)))) ZI)
   (Zg (Zz (Zk Zr (pv 3) Zf (λ_ _=>rfl)))))))),?_⟩
 have eL:(ns.map V.int).length=ns.length:=Yi ..
 have EE:=Zfv (f:=nth ns) hi
 generalize hA:((List.range i).filter λq=>decide (nth ns q<=nth ns i))=A at EE
 generalize hB:((List.range (ns.length-(i+1))).filter λj=>decide (nth ns (i+1+j)<nth ns i))=B at EE
 have hqa:∀q∈A,q<ns.length:=λq hq=>by
  rw[<-hA]at hq
  have:=Yy.mp (YQ.mp hq).1;omega
 have hqb:∀j∈B,i+1+j<ns.length:=λj hq=>by
  rw[<-hB]at hq
  have:=Yy.mp (YQ.mp hq).1;omega
 refine ZaP (fun σ Hz=>∃a,σ=[some (.ref r),some (.int (i:Int)),some (.ref a),none]/\Zd H Hz/\Hz a=some (.lst (ZD A))) (λR hR=>?_) ?_
 .right
  refine⟨⋯,⋯,?_⟩
  have e1:((i:Int)).toNat=i:= ⋯
  rw[e1]
  refine Zaw (n:=i) (λq=>decide (nth ns q<=nth ns i)) (λq=>V.int ((q:Nat):Int)) (YG (show _<=1000 by omega) nofun) (λj Hx s hj=>hj) (λHx s=>Yc _) ?_ ?_
  .rintro j x Hx Hz hj s ⟨rfl,rfl⟩
   have e0:((0:Int)+(j:Int))=(j:Int):= ⋯
   rw[e0]
   right
   exact⟨_,s.q hr1,_,Z7 ⋯,_,s.q hr1,_,Z7 ⋯,_,rfl,_,rfl,ZA (λh=>CF.take hj (Yt h) rfl s) (λh=>CF.skip hj (Yz h) s)⟩
  .intro l1 H1 s1 hl1
   exact hR _ _ ⟨l1,rfl,s1.Zaj hl1,by rw[Zc,hA];rfl⟩
 rintro σ Hx ⟨a,rfl,sx,hxa⟩
 refine ZaP (fun σ Hy=>∃b,σ=[some (.ref r),some (.int (i:Int)),some (.ref a),some (.ref b)]/\Zd H Hy/\Hy a=some (.lst (ZD A))/\Hy b=some (.lst (ZD (B.map λj=>i+1+j)))) (λR hR=>?_) ?_
 .right
  refine⟨_,(sx.q hr1),⋯,⋯,⋯,by rw[eL];omega,?_⟩
  have e1:((((ns.map V.int).length:Nat):Int)-((i:Int)+1)).toNat=ns.length-(i+1):=by rw[eL];omega
  rw[e1]
  refine Zaw (n:=ns.length-(i+1)) (λq=>decide (nth ns (i+1+q)<nth ns i)) (λq=>V.int ((i+1+q:Nat):Int)) (YG (show _<=1000 by omega) nofun) (λj Hx s hj=>hj) (λHx s=>Yc _) ?_ ?_
  .rintro j x Hy Hz hj s ⟨rfl,rfl⟩
   have e0:((i:Int)+1+(j:Int))=((i+1+j:Nat):Int):= ⋯
   rw[e0]
   right
   exact⟨_,(sx.trans s).q hr1,_,Z7 ⋯,_,(sx.trans s).q hr1,_,Z7 ⋯,_,rfl,_,rfl,ZA (λh=>CF.take hj (Yt h) rfl s) (λh=>CF.skip hj (Yz h) s)⟩
  .intro l1 H1 s1 hl1
   exact hR _ _ ⟨l1,rfl,(sx.trans s1).Zaj hl1,(s1.Zaj hl1) _ _ hxa,by rw[Zc,hB];simp[ZD,Function.comp_def]⟩
 clear sx hxa Hx
 rintro σ Hx ⟨b,rfl,sx,hxa,hxb⟩
 have ka:ZhL (ZD A) (some (-1)) none=ZD (A.drop (A.length-1)):=by rw[cut_m1,ZY];simp[ZD,List.map_drop]
 have kb:ZhL (ZD (B.map λj=>i+1+j)) none (some 1)=ZD ((B.take 1).map λj=>i+1+j):=by rw[ZuJ];simp[ZD,List.map_take]
 have lA:A.length<=1000:=by rw[<-hA];exact Yr (Jc _ _) (by simp;omega)
 refine ZaP (fun σ Hy=>σ=[some (.ref r),some (.int (i:Int)),some (.ref a),some (.ref b)]/\Zd Hx Hy/\A≠[]/\B≠[]) (λR hR=>?_) ?_
 .refine ifR (λH1=>Zd Hx H1/\(A=[]\/B=[])) (λH1=>Zd Hx H1/\A≠[]/\B≠[]) ?_ ?_ ?_
  .rintro H1 ⟨s1,hc⟩
   have key:∃e:Int,atI (ZD (A.drop (A.length-1))++ZD ((B.take 1).map λj=>i+1+j)++[V.int (-1)]) 0=some (V.int e)/\Zx (nth ns) ns.length i e:=by
    rcases hc with rfl|rfl
    .cases B with
     |nil=>exact⟨-1,rfl,by simpa using EE⟩
     |cons j B'=>exact⟨((i+1+j:Nat):Int),rfl,by simpa using EE⟩
    .rcases snoc_cases A with rfl|⟨ys,y,rfl⟩
     .exact⟨-1,rfl,by simpa using EE⟩
     .refine⟨(y:Int),?_,by simpa using EE⟩
      have:(ys++[y]).drop ((ys++[y]).length-1)=[y]:=by simp
      rw[this];rfl
   obtain⟨e,he,hE⟩:=key
   have m1:=s1 _ _ hxa
   have m2:=s1 _ _ hxb
   right
   refine⟨_,SqL.of m1,λc1 z1=>?_⟩
   rw[ka]
   have u1:=(Zd.refl H1).upd (o:=.lst (ZD (A.drop (A.length-1)))) z1
   refine⟨_,SqL.of (u1 _ _ m2),λc2 z2=>?_⟩
   rw[kb]
   have u2:=(Zd.refl _).upd (o:=.lst (ZD ((B.take 1).map λj=>i+1+j))) z2
   refine⟨_,u2 _ _ Zc,_,Zc,Yr (show _<=1001 by rw[ZY,ZY];simp;omega) nofun,λc3 z3=>⟨by decide,λc4 z4=>?_⟩⟩
   have u4:=(Zd.refl _).upd (o:=.lst [V.int (-1)]) z4
   refine⟨_,u4 _ _ Zc,_,Zc,Yr (show _<=1003 by rw[YS,ZY,ZY];simp;omega) nofun,λc5 z5=>⟨_,SqL.of Zc,_,he,k1 e _ hE (((((((sx.trans s1).trans u1).trans u2).Zaj z3).trans u4).Zaj z5))⟩⟩
  .rintro H1 ⟨s1,hc⟩
   right
   exact hR _ _ ⟨rfl,s1,hc⟩
  .intro B0 hT hU
   right
   refine⟨Yq _,λc hc=>?_⟩
   have u1:=(Zd.refl Hx).upd (o:=.lst []) hc
   refine⟨_,ZpE (u1 _ _ hxa) Zc,?_⟩
   by_cases zA:A=[]
   .exact ZA (λ_=>hT _ ⟨u1,.inl zA⟩) λz=>absurd (Yt zA) z
   refine ZA (λz=>absurd (YT z) zA) λ_=>⟨Yq _,λd hd=>?_⟩
   have u2:=u1.Zaj (o:=.lst []) hd
   refine⟨_,ZpE (u2 _ _ hxb) Zc,?_⟩
   by_cases zB:B=[]
   .have:decide (B.map (λj=>i+1+j)=[])=true:=Yt (by rw[zB];rfl)
    rw[this];exact hT _ ⟨u2,.inr zB⟩
   .have:decide (B.map (λj=>i+1+j)=[])=false:=Yz (by simpa using zB)
    rw[this];exact hU _ ⟨u2,zA,zB⟩
 rintro σ Hy ⟨rfl,sy,nA,nB⟩
 replace hxa:=sy _ _ hxa
 replace hxb:=sy _ _ hxb
 replace sx:=sx.trans sy
 rcases snoc_cases A with rfl|⟨ys,y,rfl⟩
 .exact absurd rfl nA
 cases B with
 |nil=>exact absurd rfl nB
 |cons j B' =>
  have hy:y<ns.length:=hqa y (by simp)
  have hj:i+1+j<ns.length:=hqb j (by simp)
  have el:atI (ZD (ys++[y])) (-1)=some (V.int (y:Int)):=by rw[Zej];exact ZrK _ _
  have ej:atI (ZD ((j::B').map λj=>i+1+j)) 0=some (V.int ((i+1+j:Nat):Int)):=Zg9 (j:=0) rfl
  have eg:(ys++[y]).getLast?=some y:=by simp
  rw[eg]at EE
  right
  refine⟨_,SqL.of hxa,_,el,_,_,rfl,sx.q hr1,_,Z7 hy,_,SqL.of hxb,_,ej,_,_,rfl,sx.q hr1,_,Z7 hj,_,rfl,_,rfl,ZA (λz=>⟨_,SqL.of hxa,_,el,k1 _ _ ?_ sx⟩) λz=>⟨_,SqL.of hxb,_,ej,k1 _ _ ?_ sx⟩⟩
  .simp only[List.head?_cons,Yb (show ¬ nth ns y<=nth ns (i+1+j) by omega)]at EE
   exact EE
  .simp only[List.head?_cons,Yd (show nth ns y<=nth ns (i+1+j) by omega)]at EE
   exact EE
theorem Zma {f:Addr}{fd:FuncData} (F:Fun K "_law_tree" "_law_tree" Zbb f fd) (ZeK:Callee P w K mg base "_law_elder" 1 ["row","place"] (ZdG K mg)) (T:Txt K mg):FnOk P w K mg base (CXE P w) 2 f fd ["row"] (Zbj K mg):=by
 refine F.okX Zl7 (λvs H Q E h=>?_) (λcdv A outer s H vs Q E hr h=>?_)
 .obtain⟨r,ns,rfl,_⟩:=h;rfl
 obtain⟨r,ns,rfl,hr0,hn,k1⟩:=h
 refine⟨_,(Zg (Zz (ZcG (ZsF (Zk6 (K:=K) rfl) (ZkQ (K:=K) rfl)) rfl T.b_tuple Zg7 (Za (Z2 ["place","row"] [none,some 0] rfl rfl rfl (ZM rfl T.b_range (Za (Zn (Zt (K:=K) rfl) rfl T.b_len YL (Za (pv 0) Zb)) Zb)) (λ_ _ _ _ _=>(Zm (i:=0) (show(["place","row"]:List Str).Nodup from by decide +kernel) rfl (Or.inl rfl))) (λ_ _ _ _ _=>Zad) (λ_ _ _ _ _=>(Zi ZeK (hr.mono nofun) rfl ZC (Za (pv 1) (Za (pv 0) Zb)))) Zs) Zb)))),?_⟩
 right
 have eL:(ns.map V.int).length=ns.length:=Yi ..
 refine⟨_,hr0,⋯,⋯,?_⟩
 have e1:(((ns.map V.int).length:Nat):Int).toNat=ns.length:=by rw[eL];omega
 rw[e1]
 refine ZaL (n:=ns.length) (λi acc Hx=>∃es:List Int,acc=es.map V.int/\es.length=i/\(∀p,p<i->Zx (nth ns) ns.length p (es.getD p 0))/\Zd H Hx) (YG (show _<=1000 by omega) nofun) ⟨[],rfl,rfl,(λp hp=>absurd hp ⋯),Zd.refl _⟩ (λi acc Hx _ hi=>hi) (λacc Hx _=>Yc _) ?_ ?_
 .rintro i x acc Hx Hy hi hla ⟨es,rfl,hl,hE,sx⟩ ⟨rfl,rfl⟩
  right
  refine⟨r,ns,i,by rw[Int.zero_add],sx.q hr0,hn,hi,λe H2 he s2=>CA.take hi hla ⟨es++[e],by simp,by simp[hl],λp hp=>?_,sx.trans s2⟩⟩
  by_cases z:p<es.length
  .rw[show(es++[e]).getD p 0=es.getD p 0 by simp[Yh,Y8 z]]
   exact hE p ⋯
  .have ep:p=es.length:= ⋯
   rw[show(es++[e]).getD p 0=e by rw[ep];simp[Yh],ep,hl]
   exact he
 .rintro l acc Hx ⟨es,rfl,hl,hE,sx⟩ _ hlx
  refine k1.elim (λk1=>.inr ⟨l,rfl,_,.inl ⟨SqL.of Zc,λt ht=>k1 t es _ ⟨hl,hE⟩ ((sx.Zaj hlx).Zaj ht) Zc⟩⟩) λk1=>.inl ⟨l,rfl,_,SqL.of Zc,λt H5 ht s5 tf=>k1 t es _ ⟨hl,hE⟩ ((sx.Zaj hlx).trans s5) tf⟩
theorem ZqY {f:Addr}{fd:FuncData} (F:Fun K "settle" "settle" Zeq f fd) (T:Txt K mg):FnOk P w K mg base (CXE P w) 1 f fd ["elders","spine","place","keep"] (Zh2 K mg):=by
 refine F.okX ZqX (λvs H Q E h=>?_) (λcdv A outer s H vs Q E hr h=>?_)
 .obtain⟨el,sp,es,A,B,i,rfl,_⟩:=h;rfl
 obtain⟨el,sp,es,A',B,i,rfl,hel,hsp,hne,hi,hq,hlen,k1⟩:=h
 refine⟨_,(Ze (Zaa (Zj Zg6 (pv 3) (Zn (Zt (K:=K) rfl) rfl T.b_len YL (Za (pv 1) Zb)) (Zl _)) (Zg (Zet (pv 2) (ZhI (pv 0) (Zk Zr (pv 1) (pv 3) (λ_ _=>rfl)) set_list (λ_=>rfl)))) ZI)
   (Ze (Zaa (Zj Zfd (pv 3) Zf (Zl _)) (Zg (Zet (Zk Zr (pv 1) (Zy ZhK (pv 3) Zf) (λ_ _=>rfl)) (ZhI (pv 0) (pv 2) set_list (λ_=>rfl)))) ZI)
   (Ze (Zn3 (pv 1) (pv 3))
   (Zg (Zal (Zdb PySem.F.plainAttrs_list PySem.F.slot_list_append PySem.F.type_list_append Zav (pv 1) (Za (pv 2) Zb))))))),?_⟩
 right
 have hb1:(ZD A').length<sizeLine:=by
  rw[ZY]
  rw[YS]at hlen
  exact YG (show _<=1000 by omega) nofun
 have etk:List.take A'.length (ZD (A'++B))=ZD A':=by
  rw[Zej]
  have:A'.length=(ZD A').length:=(ZY A').symm
  rw[this,List.take_left]
 have hle:A'.length<=(ZD (A'++B)).length:=by rw[ZY,YS];omega
 have esn:ZD A'++[V.int (i:Nat)]=ZD (A'++[i]):=by rw[Zej];rfl
 refine⟨_,.inl (SqL.of hsp),?_⟩
 rw[ZY,YS]
 -- the end: behind the two stores
 have fin:∀(es1:List Int) (Hx:Hp),(∀b o,b≠el->b≠sp->H b=some o->Hx b=some o)->Hx el=some (.lst (es1.map V.int))->Hx sp=some (.lst (ZD (A'++B)))->es1=Zgk es A' B i ->
   ∃(xs:List V) (k:Nat),(A'.length:Int)=(k:Int)/\Hx sp=some (HO.lst xs)/\k<=xs.length/\tyV K "list" (V.ref sp) (upd Hx sp (HO.lst (List.take k xs)))/\∃x,upd Hx sp (HO.lst (List.take k xs)) sp=some (HO.lst x)/\x.length<sizeLine/\Q V.non (upd (upd Hx sp (HO.lst (List.take k xs))) sp (HO.lst (x++[V.int (i:Nat)]))):=by
  intro es1 Hx h1 h2 h3 h4
  refine⟨_,A'.length,rfl,h3,hle,Z5 Zc,_,Zc,by rw[etk];exact hb1,k1 _ (λb o n1 n2 z=>by rw[Zh n2,Zh n2];exact h1 b o n1 n2 z) (by rw[Zh hne,Zh hne,h2,h4]) (by rw[Zc,etk,esn])⟩
 -- elders[place]=spine[keep-1]
 have mid:∀(es1:List Int) (Hx:Hp),(∀b o,b≠el->b≠sp->H b=some o->Hx b=some o)->Hx el=some (.lst (es1.map V.int))->es1.length=es.length->Hx sp=some (.lst (ZD (A'++B)))->∀q,A'.getLast?=some q->es1.set i (q:Int)=Zgk es A' B i ->
   ∃x,SqL K Hx sp x/\∃x_1,atI x ((A'.length:Int)-1)=some x_1/\∃x,Hx el=some (HO.lst x)/\∃x_2,ixN x.length (i:Int)=some x_2/\∃(xs:List V) (k:Nat),(A'.length:Int)=(k:Int)/\upd Hx el (HO.lst (x.set x_2 x_1)) sp=some (HO.lst xs)/\k<=xs.length/\tyV K "list" (V.ref sp) (upd (upd Hx el (HO.lst (x.set x_2 x_1))) sp (HO.lst (List.take k xs))) /\
    ∃x_3,upd (upd Hx el (HO.lst (x.set x_2 x_1))) sp (HO.lst (List.take k xs)) sp=some (HO.lst x_3)/\x_3.length<sizeLine/\Q V.non (upd (upd (upd Hx el (HO.lst (x.set x_2 x_1))) sp (HO.lst (List.take k xs))) sp (HO.lst (x_3++[V.int (i:Nat)]))):=by
  intro es1 Hx h1 h2 hl1 h3 q hq h4
  have hpos:0<A'.length:=by
   cases A' with
   |nil=>cases hq
   |cons _ _=>simp
  have hat:(A'++B)[A'.length-1]?=some q:=by
   rw[Y8 ⋯]
   rw[List.getLast?_eq_getElem?]at hq;exact hq
  have ei:((A'.length:Int)-1)=((A'.length-1:Nat):Int):= ⋯
  refine⟨_,SqL.of h3,_,by rw[ei];exact Zg9 hat,_,h2,i,by rw[Yi,hl1];exact Zha hi,?_⟩
  have em:(es1.map V.int).set i (V.int (q:Nat))=(es1.set i (q:Int)).map V.int:=by rw[List.map_set]
  rw[em]
  exact fin _ _ (λb o n1 n2 z=>by rw[Zh n1];exact h1 b o n1 n2 z) Zc (by rw[Zh hne.symm];exact h3) h4
 cases B with
 |nil =>
  rw[Yb (by simp)]
  cases hq:A'.getLast? with
  |none =>
   have:A'=[]:=List.getLast?_eq_none_iff.mp hq
   rw[Yb (by rw[this];simp)]
   exact fin es H (λb o _ _ z=>z) hel hsp (by unfold Zgk;rw[hq];rfl)
  |some q =>
   have:A'≠[]:=λz=>by rw[z]at hq;cases hq
   rw[Yd (by have:=List.length_pos_iff.mpr this;omega)]
   exact mid es H (λb o _ _ z=>z) hel rfl hsp q hq (by unfold Zgk;rw[hq];rfl)
 |cons b Br =>
  rw[Yd (by simp;omega)]
  have hat:(A'++b::Br)[A'.length]?=some b:=by rw[Y4 (Yc _)];simp
  have hbn:b<es.length:=hq b (by simp)
  refine⟨_,SqL.of hsp,_,Zg9 hat,_,_,rfl,hel,b,by rw[Yi];exact Zha hbn,?_⟩
  have em:(es.map V.int).set b (V.int (i:Nat))=(es.set b (i:Int)).map V.int:=by rw[List.map_set]
  rw[em]
  cases hq2:A'.getLast? with
  |none =>
   have:A'=[]:=List.getLast?_eq_none_iff.mp hq2
   rw[Yb (by rw[this];simp)]
   exact fin (es.set b i) _ (λc o n1 n2 z=>by rw[Zh n1];exact z) Zc (by rw[Zh hne.symm];exact hsp) (by unfold Zgk;rw[hq2];rfl)
  |some q =>
   have:A'≠[]:=λz=>by rw[z]at hq2;cases hq2
   rw[Yd (by have:=List.length_pos_iff.mpr this;omega)]
   exact mid (es.set b i) _ (λc o n1 n2 z=>by rw[Zh n1];exact z) Zc (by simp) (by rw[Zh hne.symm];exact hsp) q hq2 (by unfold Zgk;rw[hq2];rfl)
theorem ZoE {f:Addr}{fd:FuncData} (F:Fun K "tree_of" "tree_of" ZcI f fd) (ZjR:Callee P w K mg base "settle" 1 ["elders","spine","place","keep"] (Zh2 K mg)) (T:Txt K mg):FnOk P w K mg base (CXE P w) 2 f fd ["row"] (ZgL K mg):=by
 refine F.okX ZbL (λvs H Q E h=>?_) (λcdv A outer s H vs Q E hr h=>?_)
 .obtain⟨r,ns,rfl,_⟩:=h;rfl
 obtain⟨r,ns,rfl,hS,hn,k1⟩:=h
 refine⟨_,(Ze (Zu (i:=1) ZbL.nd rfl (Or.inl rfl) (Zy op_rep (ZZ (Za (Zfr ZcL Zf) Zb)) (Zn (Zt (K:=K) rfl) rfl T.b_len YL (Za (pv 0) Zb))))
   (Ze (Zu (i:=2) ZbL.nd rfl (Or.inl rfl) (ZZ Zb))
   (Ze (ZbD (Zdz PassesOwn.never rfl (ZM rfl T.b_range (Za (Zn (Zt (K:=K) rfl) rfl T.b_len YL (Za (pv 0) Zb)) Zb)) (Zm (i:=3) ZbL.nd rfl (Or.inl rfl)) (Ze (Zu (i:=4) ZbL.nd rfl (Or.inl rfl) (Zn (Zt (K:=K) rfl) rfl T.b_len YL (Za (pv 2) Zb)))
   (Ze (ZbD (Zi8 PassesOwn.never (PW.pt (ZcK (Zj Zfd (pv 4) Zf (Zl _)) (Zco (Zj Zfd (Zk (Zg8 (K:=K) rfl) (pv 0) (Zk Zr (pv 2) (Zy ZhK (pv 4) Zf) (λ_ _=>rfl)) (λ_ _=>rfl)) (Zk (Zg8 (K:=K) rfl) (pv 0) (pv 3) (λ_ _=>rfl)) (Zl _))))) (Zg (ps_aug (i:=4) ZbL.nd rfl (Or.inl rfl) Zf ip_sub))))
   (Zg (Zal (Zi ZjR (hr.mono nofun) rfl ZC (Za (pv 1) (Za (pv 2) (Za (pv 3) (Za (pv 4) Zb)))))))))))
   (Zg (Zz (ZcG (Zk6 (K:=K) rfl) rfl T.b_tuple Zg7 (Za (pv 1) Zb))))))),?_⟩
 right
 have eL:(ns.map V.int).length=ns.length:=Yi ..
 refine⟨by decide,λp hp=>⟨_,((Zd.refl H).upd hp).q hS,_,Zc,⋯,by rw[eL];omega,?_,λel hel=>⟨Yq _,λsp hsp=>?_⟩⟩⟩
 .exact Yr (show _<=1000 by simp;omega) nofun
 have s0:Zd H (upd (upd (upd H p (.lst [V.int (-1)])) el (.lst (List.replicate (((ns.map V.int).length:Nat):Int).toNat [V.int (-1)]).flatten)) sp (.lst [])):=(((Zd.refl H).upd hp).Zaj hel).Zaj hsp
 refine⟨_,s0.q hS,⋯,by rw[eL];omega,?_⟩
 have en:(((ns.map V.int).length:Nat):Int).toNat=ns.length:=by rw[eL];omega
 have hel0:(upd (upd (upd H p (.lst [V.int (-1)])) el (.lst (List.replicate (((ns.map V.int).length:Nat):Int).toNat [V.int (-1)]).flatten)) sp (.lst [])) el=some (.lst ((List.replicate ns.length (-1:Int)).map V.int)):=by
  have:=((Zd.refl _).Zaj (o:=.lst []) hsp) el _ Zc
  rw[this,en];simp
 have hsp0:(upd (upd (upd H p (.lst [V.int (-1)])) el (.lst (List.replicate (((ns.map V.int).length:Nat):Int).toNat [V.int (-1)]).flatten)) sp (.lst [])) sp=some (.lst (ZD [])):=Zc
 have nes:el≠sp:=λz=>by
  subst z
  rw[Zc]at hsp;cases hsp
 have zel:H el=none:=((Zd.refl H).upd hp).free hel
 have zsp:H sp=none:=(((Zd.refl H).upd hp).Zaj hel).free hsp
 rw[en]at hel0 hsp0 s0⊢
 generalize (upd (upd (upd H p (.lst [V.int (-1)])) el (.lst (List.replicate ns.length [V.int (-1)]).flatten)) sp (.lst []))=H0 at s0 hel0 hsp0⊢
 refine Zeg (λi σ Hx=>∃(es:List Int) (S:List Nat) (v3 v4:Option V),σ=[some (.ref r),some (.ref el),some (.ref sp),v3,v4]/\Zd H Hx/\Hx el=some (.lst (es.map V.int))/\Hx sp=some (.lst (ZD S))/\es.length=ns.length/\Zjh (nth ns) i S/\(∀p e,p<i->e=es.getD p 0->Zx (nth ns) i p e)/\∀p,i<=p->p<ns.length->es.getD p 0=-1)
  ⟨List.replicate ns.length (-1),[],none,none,rfl,s0,hel0,hsp0,by simp,⟨List.Pairwise.nil,λq=>by simp⟩,λp e hp=>⋯,λp _ hp=>by simp[Yh,hp]⟩ ?_ ?_
 .rintro i σ Hx hi ⟨es,S,v3,v4,rfl,sx,hxe,hxs,hesl,hS2,hE,hE2⟩
  right
  have hin:i<ns.length:= ⋯
  have hSl:S.length<=1000:=by
   rcases ZrZ S i 0 hS2.1 (λq hq=>⟨Yq _,((hS2.2 q).mp hq).1⟩)with z|z
   .omega
   .rw[z];simp
  refine⟨_,.inl (SqL.of hxs),?_⟩
  rw[ZY]
  refine ZpB S.length (λj σ Hy=>∃A B,S=A++B/\B.length=j/\(∀q∈B,nth ns i<nth ns q)/\σ=[some (.ref r),some (.ref el),some (.ref sp),some (.int (0+(i:Int))),some (.int (A.length:Nat))]/\Hy=Hx) ⟨S,[],by simp,rfl,(λq hq=>absurd hq (by simp)),rfl,rfl⟩ ?_
  rintro j σ Hy hj ⟨A,B,hAB,hBl,hBg,rfl,rfl⟩
  right
  have hmem:∀q,q∈A++B->q<i:=λq hq=>((hS2.2 q).mp (by rw[hAB];exact hq)).1
  have hix:(0+(i:Int))=(i:Int):= ⋯
  rw[hix]
  by_cases hA0:A=[]
  case' pos =>
   rw[Yb (by rw[hA0];simp)]
   have hA:∀q∈A,nth ns q<=nth ns i:=λq hq=>absurd hq (by rw[hA0];simp)
  case' neg =>
   obtain⟨q,Al,rfl⟩:∃q Al,A=Al++[q]:=⟨A.getLast hA0,A.dropLast,(List.dropLast_concat_getLast hA0).symm⟩
   have hal:(Al++[q]).length=Al.length+1:=by simp
   rw[Yd (by rw[hal];omega)]
   have eiA:(((Al++[q]).length:Nat):Int)-1=(Al.length:Int):=by rw[hal];omega
   have hat:S[Al.length]?=some q:=by
    rw[hAB,YX,Y4 (Yc _)];simp
   have hqi:q<i:=hmem q (by simp)
   refine⟨_,SqL.of hxs,_,by rw[eiA];exact Zg9 hat,_,_,rfl,sx.q hS,_,Z7 ⋯,_,sx.q hS,_,Z7 hin,_,rfl,_,rfl,ZA (λhlt=>?_) (λhge=>?_)⟩
   .have hj2:j+1<=S.length:=by rw[hAB,YS,hal];omega
    refine⟨_,WI.next,hj2,Al,q::B,by rw[hAB];simp,by simp[hBl],λx hx=>?_,by rw[eiA],rfl⟩
    rcases Yk.mp hx with z|z
    .rw[z];exact hlt
    .exact hBg x z
   have hA:∀x∈Al++[q],nth ns x<=nth ns i:=λx hx=>by
    by_cases z:x=q
    .rw[z];omega
    .have hxa:x∈Al:=by
      rcases YB.mp hx with y|y
      .exact y
      .exact absurd (by simpa using y) z
     have hpw:=hS2.1
     rw[hAB]at hpw
     have hxq:x<q:=(List.pairwise_append.mp (List.pairwise_append.mp hpw).1).2.2 x hxa q (by simp)
     have:=((hS2.2 x).mp (by rw[hAB];exact YY _ hx)).2 q hxq hqi
     omega
   generalize Al++[q]=A at hA hAB hmem hA0⊢
  all_goals
   have SS:=Zji (f:=nth ns) (i:=i) (A:=A) (B:=B) (by rw[<-hAB];exact hS2) hA hBg
   refine⟨el,sp,es,A,B,i,rfl,hxe,by rw[<-hAB];exact hxs,nes,⋯,λq hq=>by have:=hmem q hq;omega,by rw[<-hAB];exact hSl,λH' q1 q2 q3=>?_⟩
   have hbi:∀b,B.head?=some b->b≠i:=λb hb=>by
    have:=hmem b (Yn _ (List.mem_of_head? hb));omega
   refine⟨λb o z=>q1 b o (Zw z zel) (Zw z zsp) (sx b o z),Zgk es A B i,q2,A++[i],q3,by rw[ZmN];exact hesl,SS.1,λp e hp he=>?_,λp hp1 hp2=>?_⟩
   .rw[ZiU _ _ _ _ _ ⋯ hbi]at he
    by_cases z:p=i
    .subst z
     rw[Yd rfl,hE2 p (Yc _) ⋯]at he
     rw[he];exact SS.2.1
    .rw[Yb z]at he
     rw[he]
     exact SS.2.2 p _ ⋯ (hE p _ ⋯ rfl)
   .rw[ZiU _ _ _ _ _ ⋯ hbi,Yb ⋯,Yb (λz=>?_)]
    .exact hE2 p ⋯ hp2
    .have:=hmem p (Yn _ (List.mem_of_head? z));omega
 .rintro σ Hx ⟨es,S,v3,v4,rfl,sx,hxe,hxs,hesl,hS2,hE,hE2⟩
  right
  exact⟨_,SqL.of hxe,λt H7 zt s7 ht=>k1 t es H7 ⟨hesl,λp hp=>hE p _ hp rfl⟩ (sx.trans s7) ht⟩
theorem ZqZ {f:Addr}{fd:FuncData} (F:Fun K "way_up" "way_up" Zer f fd) (T:Txt K mg):FnOk P w K mg base (CXE P w) 1 f fd ["tree","place"] (Zh1 K mg):=by
 refine F.okX Zge (λvs H Q E h=>?_) (λcdv A outer s H vs Q E hr h=>?_)
 .obtain⟨t,T,p,rfl,_⟩:=h;rfl
 obtain⟨t,T',p,rfl,ht,hn,hp,k1⟩:=h
 have hQ:∀Hx,Zd H Hx->(SqL K Hx t (T'.map V.int)\/SqT K Hx t (T'.map V.int)):=λHx sx=>ht.elim (λz=>.inl (sx.seq z)) λz=>.inr (sx.ZhR z)
 refine⟨_,(Ze (Zu (i:=2) Zge.nd rfl (Or.inl rfl) (ZZ Zb))
   (Ze (Zu (i:=3) Zge.nd rfl (Or.inl rfl) (Zk (Zg8 (K:=K) rfl) (pv 0) (pv 1) (λ_ _=>rfl)))
   (Ze (ZbD (Zi8 PassesOwn.never (PW.pt (ZcK (ZrH ZkI Zg6 Zf (pv 3) (Zn (Zt (K:=K) rfl) rfl T.b_len YL (Za (pv 0) Zb))) (Zco (Zj Zg6 (Zn (Zt (K:=K) rfl) rfl T.b_len YL (Za (pv 2) Zb)) (Zn (Zt (K:=K) rfl) rfl T.b_len YL (Za (pv 0) Zb)) (Zl _))))) (Ze (Zal (Zdb PySem.F.plainAttrs_list PySem.F.slot_list_append PySem.F.type_list_append Zav (pv 2) (Za (pv 3) Zb)))
   (Zg (Zu (i:=3) Zge.nd rfl (Or.inl rfl) (Zk (Zg8 (K:=K) rfl) (pv 0) (pv 3) (λ_ _=>rfl)))))))
   (Zg (Zz (pv 2)))))),?_⟩
 right
 refine⟨Yq _,λl hl=>⟨_,hQ _ ((Zd.refl H).upd hl),_,Z7 hp,?_⟩⟩
 refine ZpB T'.length (λj σ Hx=>Zd H Hx/\Hx l=some (.lst (ZD (Z9 T' j (nth T' p))))/\(Z9 T' j (nth T' p)).length=j/\σ=[some (.ref t),some (.int p),some (.ref l),some (.int (ZaY T' j (nth T' p)))]) ⟨(Zd.refl H).upd hl,Zc,rfl,rfl⟩ ?_
 rintro j σ Hx hj ⟨sx,hxl,hjl,rfl⟩
 right
 have hlen:(ZD (Z9 T' j (nth T' p))).length=j:=by rw[ZY];exact hjl
 have eL:(T'.map V.int).length=T'.length:=Yi ..
 have done:(j=T'.length\/¬ (0<=ZaY T' j (nth T' p)/\ZaY T' j (nth T' p)<T'.length))->Q (.ref l) Hx:=λz=>by
  refine k1 l Hx hl sx ?_
  have:Z9 T' T'.length (nth T' p)=Z9 T' j (nth T' p):=by
   rcases z with z|z
   .rw[<-z]
   .exact ZkX T' j _ _ hj hjl z
  rw[hxl];unfold Zqz;rw[this];simp[ZD]
 refine ZA (λh0=>⟨_,hQ _ sx,ZA (λh1=>⟨_,.inl (SqL.of hxl),_,hQ _ sx,ZA (λh2=>?_) λh2=>done (.inl (by rw[hlen,eL]at h2;omega))⟩) λh1=>done (.inr (by rw[eL]at h1;omega))⟩) λh0=>done (.inr ⋯)
 rw[eL]at h1;rw[hlen,eL]at h2
 obtain⟨a1,a2⟩:=ZkW T' j (nth T' p) h0 h1 hjl
 have ei:ZaY T' j (nth T' p)=(((ZaY T' j (nth T' p)).toNat:Nat):Int):= ⋯
 refine⟨_,WI.next,Z5 hxl,_,hxl,by rw[hlen];exact YG (show _<=1000 by omega) nofun,_,hQ _ (sx.upd hl),_,(congrArg (atI _) ei).trans (Z7 ⋯),⋯,sx.upd hl,?_,?_,?_⟩
 .rw[Zc,a1,Zej]
  have:ZD [(ZaY T' j (nth T' p)).toNat]=[V.int (ZaY T' j (nth T' p))]:=by rw[ei];simp[ZD]
  rw[this]
 .rw[a1];simp[hjl]
 .rw[a2]
theorem Zfj {f:Addr}{fd:FuncData}{dV:Value} (F:FunD K "need_numbers" "need_numbers" Zaf f fd dV) (T:Txt K mg):FnOk P w K mg base (CXE P w) 1 f fd ["row","fewest"] (Za3 K mg):=by
 refine F.okX ZiI (λvs H Q E h=>?_) (λcdv A outer s H vs Q E hr h=>?_)
 .obtain⟨r,ns,k,rfl,_⟩:=h;rfl
 obtain⟨r,ns,k,rfl,hS,hn,h0,h1,k1,k2⟩:=h
 refine⟨_,(Zg (Zaa (Zj Zg6 (Zn (Zt (K:=K) rfl) rfl T.b_len YL (Za (pv 0) Zb)) (pv 1) (Zl _)) (Zg (Zje rfl rfl T.c_Empty T.x_Empty (Za (ZhO (Zex nofun (ZlK (Zn (Zt (K:=K) rfl) rfl T.b_len YL (Za (pv 0) Zb)) (Zex nofun (ZlK (pv 1) (Zex nofun ZnW)))))) Zb) ZlL)) ZI)),?_⟩
 right
 have eN:(ns.map V.int).length=ns.length:=Yi ..
 exact⟨_,hS,ZA (λz=>⟨_,hS,⋯,by rw[eN];omega,h0,⋯,λy=>⟨by decide,k2 (by rw[eN]at z;exact z)⟩⟩) λz=>k1 (by rw[eN]at z;omega)⟩
theorem Zmb {f:Addr}{fd:FuncData} (F:Fun K "_law_over" "_law_over" Zbc f fd) (T:Txt K mg):FnOk P w K mg base (CXE P w) 1 f fd ["tree","place"] (ZeE K mg):=by
 refine F.okX Zcq (λvs H Q E h=>?_) (λcdv A outer s H vs Q E hr h=>?_)
 .obtain⟨t,T,p,rfl,_⟩:=h;rfl
 obtain⟨t,T',p,rfl,ht,hn,hp,hen,k1⟩:=h
 refine⟨_,(Ze (Zu (i:=2) Zcq.nd rfl (Or.inl rfl) (ZZ Zb))
   (Ze (Zu (i:=3) Zcq.nd rfl (Or.inl rfl) (Zk ZF (pv 0) (pv 1) (λ_ _=>rfl)))
   (Ze (ZbD (Zi8 PassesOwn.never (Zj ZmB (pv 3) Zf (Zl _)) (Ze (Zal (Zdb PySem.F.plainAttrs_list PySem.F.slot_list_append PySem.F.type_list_append Zav (pv 2) (Za (pv 3) Zb)))
   (Zg (Zu (i:=3) Zcq.nd rfl (Or.inl rfl) (Zk ZF (pv 0) (pv 3) (λ_ _=>rfl)))))))
   (Zg (Zz (pv 2)))))),?_⟩
 right
 have eL:(T'.map V.int).length=T'.length:=Yi ..
 refine⟨Yq _,λl hl=>⟨_,SqT.of (((Zd.refl H).upd hl) _ _ ht),_,Z7 hp,?_⟩⟩
 have nlt:t≠l:=Zw ht hl
 refine ZuL (λm σ Hx=>∃(h:Int) (L:List Nat),m+L.length=T'.length/\ZcR T' m h/\L++Z9 T' m h=way T' p/\Zd H Hx/\Hx l=some (.lst (ZD L))/\σ=[some (.ref t),some (.int p),some (.ref l),some (.int h)]) T'.length ⟨nth T' p,[],by simp,hen,rfl,(Zd.refl H).upd hl,Zc,rfl⟩ ?_
 rintro m σ Hx ⟨h,L,hm,he,hw,sx,hxl,rfl⟩
 right
 refine ZA (λz=>?_) λz=>?_
 .cases m with
  |zero=>exact absurd (show h=-1 from he) ⋯
  |succ m =>
   rcases he with he|⟨he1,he2,he3⟩
   .omega
   .obtain⟨j,rfl⟩:=Jg he1
    have ej:((j:Int)).toNat=j:= ⋯
    rw[ej]at he3
    simp only[Z9,Yd (And.intro he1 he2),ej]at hw
    refine⟨_,fun σ' H' z=>z,Z5 hxl,_,hxl,YG (show _<=1000 by rw[ZY];omega) nofun,_,SqT.of (by rw[Zh nlt];exact sx _ _ ht),_,Z7 ⋯,m,⋯,nth T' j,L++[j],by simp;omega,he3,by rw[<-hw];simp,sx.upd hl,?_,rfl⟩
    rw[Zc,Zej];rfl
 .refine k1 l Hx hl sx ?_
  have:Z9 T' m h=[]:=by
   cases m with
   |zero=>rfl
   |succ m=>simp only[Z9];rw[Yb ⋯]
  rw[this,List.append_nil]at hw
  rw[hxl,Zhc,hw];simp[ZD]
theorem Zkp {f:Addr}{fd:FuncData} (F:Fun K "from_below" "from_below" ZaR f fd) (ZjS:Callee P w K mg base "way_up" 1 ["tree","place"] (Zh1 K mg)) (L:ZlY K mg "from_below" f) (B:BM mg base) (T:Txt K mg):FnOk P w K mg base (CXE P w) 5 f fd ["tree"] (ZdC K mg):=by
 refine F.okL L B Zkl (λvs H Q E h=>?_) (λcdv A outer s H vs Q E LI hr h=>?_)
 .obtain⟨t,T,rfl,_⟩:=h;rfl
 obtain⟨t,T',rfl,ht,hG,hTb,k1⟩:=h
 refine⟨_,(Zg (Zz (ZqK (Nc:=["place","tree"]) (js:=[none,some 0]) (pn:="place") (q:=ZgH "from_below") (P:=Zfo K mg "from_below") rfl hr ⟨rfl,rfl,rfl,rfl,rfl,rfl,rfl,λ_ _ _ _ _ _=>rfl⟩ (λ_ _ _ _ _ _=>(Zn (Zt (K:=K) rfl) rfl T.b_len YL (Za (Zi ZjS ((hr.in1.in1.deeper _).mono nofun) rfl ZC (Za (pv 1) (Za (pv 0) Zb))) Zb))) rfl T.b_sorted (Za (ZkS rfl T.b_range (Za (Zn (Zt (K:=K) rfl) rfl T.b_len YL (Za (pv 0) Zb)) Zb)) Zb) (Zev (ZlV ⟨LI.code,LI.bm,LI.ql⟩ rfl) (Zev Zi4 Zls))))),?_⟩
 right
 have eL:(T'.map V.int).length=T'.length:=Yi ..
 have h40:=hG.1
 refine⟨_,.inr (ht),⋯,⋯,λp1 hp1=>?_⟩
 rw[eL]
 have g1:=(Zd.refl H).Zaj (o:=.rng 0 (T'.length:Int)) hp1
 have h1:=Zc (H:=H) (a:=p1) (o:=.rng 0 (T'.length:Int))
 generalize upd H p1 (.rng 0 (T'.length:Int))=H4 at g1 h1⊢
 refine⟨g1 _ _ hTb,λf1 H5 zf s5 LO=>⟨_,s5 _ _ h1,⋯,⋯,LO,dpI T',λi H6 i0 i1 s6=>?_,λps l H6 hpm hpw s6 zl hl=>k1 l ps H6 ((g1.trans s5).free zl) ((g1.trans s5).trans s6) hpm hpw hl⟩⟩
 obtain⟨j,rfl⟩:=Jg i0
 have g6:=(g1.trans s5).trans s6
 exact⟨t,T',j,rfl,.inr ((g6).ZhR ht),⋯,⋯,λw H7 zw s7 hw=>⟨w,rfl,_,.inl (SqL.of hw),by rw[Yi];rfl,s7⟩⟩
theorem Znl {ns:List Int}{i:Nat} (h:i<ns.length):(ns.map V.int)[i]?=some (V.int (nth ns i)):=by
 unfold nth
 rw[YE,Yf h,Yh,Yf h];rfl
noncomputable instance (ts:List Int) (ps:List Pt) (i j:Nat):Decidable (Zat ts ps i j):=by unfold Zat;exact inferInstance
noncomputable instance (ts:List Int) (ps:List Pt) (i j:Nat):Decidable (Zau ts ps i j):=by unfold Zau;exact inferInstance
theorem ZaZ.same {H H':Hp}{v:V}{pr:Pt} (h:ZaZ H v pr) (s:Zd H H'):ZaZ H' v pr:=by
 cases pr with
 |none=>exact h
 |some z=>obtain⟨a,e,h⟩:=h;exact⟨a,e,s _ _ h⟩
theorem Zir.same {H H':Hp}{a:Addr}{ps:List Pt} (h:Zir H a ps) (s:Zd H H'):Zir H' a ps:=by
 obtain⟨vals,h1,h2,h3⟩:=h
 exact⟨vals,s _ _ h1,h2,λi v p e1 e2=>(h3 i v p e1 e2).same s⟩
theorem Zfh.same {H H':Hp}{a:Addr}{tab:List (List Pt)} (h:Zfh H a tab) (s:Zd H H'):Zfh H' a tab:=by
 obtain⟨as,h1,h0,h2,h3⟩:=h
 exact⟨as,s _ _ h1,h0,h2,λi v p e1 e2=>(h3 i v p e1 e2).same s⟩
theorem ZdL {H:Hp}{vals:List V}{ps:List Pt} (hl:vals.length=ps.length) (h:∀(i:Nat) (v:V) (p:Pt),vals[i]?=some v->ps[i]?=some p->ZaZ H v p) {j:Nat} (hj:j<ps.length):∃v,atI vals (j:Int)=some v/\ZaZ H v (ps.getD j none):=by
 refine⟨vals[j]'⋯,ZgC rfl ⋯,h j _ _ (Yf ⋯) ?_⟩
 rw[Yh,Yf hj];rfl
theorem Zdj {H:Hp}{v:V}{ps:List Pt}{j:Nat} (h:ZaZ H v (ps.getD j none)) (hs:(ps.getD j none).isSome=true):∃a,v=.ref a/\H a=some (.tup [.int (ZV ps j).1,.int (ZV ps j).2]):=by
 unfold ZV
 cases e:ps.getD j none with
 |none=>rw[e]at hs;cases hs
 |some z=>rw[e]at h;exact h
theorem ZfH {H:Hp}{v:V}{ps:List Pt}{j:Nat} (h:ZaZ H v (ps.getD j none)):v=.non↔(ps.getD j none).isSome=false:=by
 cases e:ps.getD j none with
 |none=>rw[e]at h;exact⟨λ_=>rfl,λ_=>h⟩
 |some z=>rw[e]at h;obtain⟨a,rfl,_⟩:=h;exact⟨λz=>absurd z (λy=>by cases y),λz=>absurd z (by simp)⟩
theorem Zp1 {ps:List Pt}{ns:List Int}{i:Nat}{P:Nat->Prop} (hm:∀x,x∈ns↔∃j:Nat,x=j/\P j) (hi:i<ns.length):∃j:Nat,nth ns i=j/\P j:=(hm _).mp (by unfold nth;rw[Yh,Yf hi];exact YF hi)
theorem ZoF (P:Nat->Prop) (f:Nat->Int):∀n,(∀j,j<n->¬ P j)\/∃j,(j<n/\P j)/\∀j',j'<n->P j'->f j'<=f j
 |0=>.inl λj h=>absurd h ⋯
 |n+1=>by
  classical
  rcases ZoF P f n with h|⟨j,hj,h⟩
  .by_cases c:P n
   .refine .inr ⟨n,⟨⋯,c⟩,λj' h1 h2=>?_⟩
    by_cases e:j'=n
    .subst e;exact Int.le_refl _
    .exact absurd h2 (h j' ⋯)
   .refine .inl λj' h1 h2=>?_
    by_cases e:j'=n
    .subst e;exact c h2
    .exact h j' ⋯ h2
  .by_cases c:P n/\f j<f n
   .refine .inr ⟨n,⟨⋯,c.1⟩,λj' h1 h2=>?_⟩
    by_cases e:j'=n
    .subst e;exact Int.le_refl _
    .have:=h j' ⋯ h2;omega
   .refine .inr ⟨j,⟨⋯,hj.2⟩,λj' h1 h2=>?_⟩
    by_cases e:j'=n
    .subst e
     exact Int.not_lt.mp λz=>c ⟨h2,z⟩
    .exact h j' ⋯ h2
theorem Znm (ts:List Int) (tab:List (List Pt)) (i:Nat) (ah:Option Nat):∃r,ZbN ts tab i ah r:=by
 cases ah with
 |none=>exact⟨_,rfl⟩
 |some c =>
  rcases ZoF (Zat ts (tab.getD c []) i) (λj=>(ZV (tab.getD c []) j).1) i with h|⟨j,hj,h⟩
  .exact⟨none,λj hj=>h j hj.1 hj⟩
  .exact⟨some _,⟨j,hj.2,rfl⟩,λj' hj'=>h j' hj'.1 hj'⟩
theorem Zmc (ts:List Int) (tab:List (List Pt)) (i:Nat) (bh:Option Nat):∃r,ZdE ts tab i bh r:=by
 cases bh with
 |none=>exact⟨_,rfl⟩
 |some c =>
  rcases ZoF (Zau ts (tab.getD c []) i) (λj=>-(ZV (tab.getD c []) j).2) ts.length with h|⟨j,hj,h⟩
  .exact⟨none,λj hj=>h j hj.2.1 hj⟩
  .exact⟨some _,⟨j,hj.2,rfl⟩,λj' hj'=>by have:=h j' hj'.2.1 hj';omega⟩
theorem ZiZ {H:Hp}{as:List Addr}{tab:List (List Pt)} (hl:as.length=tab.length) (h:∀(i:Nat) (a:Addr) (ps:List Pt),as[i]?=some a->tab[i]?=some ps->Zir H a ps) {c:Nat} (hc:c<tab.length):∃a,atI (as.map V.ref) (c:Int)=some (V.ref a)/\Zir H a (tab.getD c []):=by
 refine⟨as[c]'⋯,?_,h c _ _ (Yf ⋯) ?_⟩
 .rw[ZgC rfl (by rw[Yi];omega)];simp
 .rw[Yh,Yf hc];rfl
theorem Zi0 {vals:List V}{j:Nat}{w:V} (h:atI vals (j:Int)=some w):vals.getD j .non=w:=by
 by_cases hj:j<vals.length
 .unfold atI at h
  rw[Zha hj]at h
  rw[Yh,show vals[j]?=some w from h];rfl
 .obtain⟨_,_,_,_,_,z⟩:=Zlx h
  omega
noncomputable def Zho (T:List Int) (j v:Nat):Option Nat->Prop
 |none=>∀c,c<v->c<j->nth T c≠v
 |some c=>c<v/\c<j/\nth T c=v
noncomputable def ZfI (T:List Int) (j v:Nat):Option Nat->Prop
 |none=>∀c,v<c->c<j->nth T c≠v
 |some c=>v<c/\c<j/\nth T c=v
noncomputable def YTo (H:Hp) (as:List Addr) (T:List Int) (j:Nat):Prop:=∀(v:Nat) (a:Addr),as[v]?=some a->∃ah bh,Zho T j v ah/\ZfI T j v bh/\H a=some (.lst [optN ah,optN bh])
theorem Zho.skip {T:List Int}{j v:Nat}{o:Option Nat} (h:Zho T j v o) (n:¬ (j<v/\nth T j=v)):Zho T (j+1) v o:=by
 cases o with
 |none =>
  intro c c1 c2 e
  by_cases z:c=j
  .subst z;exact n ⟨c1,e⟩
  .exact h c c1 ⋯ e
 |some c=>exact⟨h.1,by have:=h.2.1;omega,h.2.2⟩
theorem ZfI.skip {T:List Int}{j v:Nat}{o:Option Nat} (h:ZfI T j v o) (n:¬ (v<j/\nth T j=v)):ZfI T (j+1) v o:=by
 cases o with
 |none =>
  intro c c1 c2 e
  by_cases z:c=j
  .subst z;exact n ⟨c1,e⟩
  .exact h c c1 ⋯ e
 |some c=>exact⟨h.1,by have:=h.2.1;omega,h.2.2⟩
theorem YTo.same {H H':Hp}{as:List Addr}{T:List Int}{j:Nat} (h:YTo H as T j) (s:Zd H H'):YTo H' as T j:=λv a e=>by
 obtain⟨ah,bh,h1,h2,h3⟩:=h v a e
 exact⟨ah,bh,h1,h2,s _ _ h3⟩
theorem YTo.skip {H:Hp}{as:List Addr}{T:List Int}{j:Nat} (h:YTo H as T j) (n:∀v:Nat,v<as.length->nth T j≠v):YTo H as T (j+1):=λv a e=>by
 obtain⟨ah,bh,h1,h2,h3⟩:=h v a e
 have hv:=(Yw.mp e).1
 exact⟨ah,bh,h1.skip λz=>n v hv z.2,h2.skip λz=>n v hv z.2,h3⟩
theorem YTo.set {H:Hp}{as:List Addr}{T:List Int}{j q:Nat}{a:Addr}{ah bh:Option Nat} (h:YTo H as T j) (nd:as.Nodup) (ea:as[q]?=some a) (hA:Zho T (j+1) q ah) (hB:ZfI T (j+1) q bh) (eq:nth T j=q):YTo (upd H a (.lst [optN ah,optN bh])) as T (j+1):=λv b e=>by
 by_cases c:v=q
 .subst c
  rw[ea]at e;cases e
  exact⟨ah,bh,hA,hB,Zc⟩
 .have nb:b≠a:=λz=>by
   subst z
   obtain⟨h1,e1⟩:=Yw.mp ea
   obtain⟨h2,e2⟩:=Yw.mp e
   exact c ((List.getElem_inj nd (h₀:=h2) (h₁:=h1)).mp (e2.trans e1.symm))
  obtain⟨ah',bh',h1,h2,h3⟩:=h v b e
  exact⟨ah',bh',h1.skip λz=>c (by have:=z.2;omega),h2.skip λz=>c (by have:=z.2;omega),by rw[Zh nb];exact h3⟩
theorem Zu7 {ts:List Int}{tab:List (List Pt)}{i:Nat}{ah:Option Nat} (h:FsOk ts tab i ah []):ZbN ts tab i ah none:=by
 cases ah with
 |none=>exact absurd (show([]:List Int)=[(i:Int)]from h) (by simp)
 |some c=>exact λj hj=>absurd ((h _).mpr ⟨j,hj,rfl⟩) (by simp)
theorem Zu8 {ts fs:List Int}{tab:List (List Pt)}{i:Nat}{ah:Option Nat}{m:Int} (h:FsOk ts tab i ah fs) (hm:m∈fs) (hx:∀a∈fs,a<=m):ZbN ts tab i ah (some m):=by
 cases ah with
 |none =>
  have e:fs=[(i:Int)]:=h
  rw[e]at hm
  exact congrArg some (Y2.mp hm)
 |some c =>
  obtain⟨j,hj,e⟩:=(h m).mp hm
  exact⟨⟨j,hj,e⟩,λj' hj'=>hx _ ((h _).mpr ⟨j',hj',rfl⟩)⟩
theorem Zu9 {ts:List Int}{tab:List (List Pt)}{i:Nat}{bh:Option Nat} (h:LsOk ts tab i bh []):ZdE ts tab i bh none:=by
 cases bh with
 |none=>exact absurd (show([]:List Int)=[(i:Int)]from h) (by simp)
 |some c=>exact λj hj=>absurd ((h _).mpr ⟨j,hj,rfl⟩) (by simp)
theorem Zva {ts fs:List Int}{tab:List (List Pt)}{i:Nat}{bh:Option Nat}{m:Int} (h:LsOk ts tab i bh fs) (hm:m∈fs) (hx:∀a∈fs,m<=a):ZdE ts tab i bh (some m):=by
 cases bh with
 |none =>
  have e:fs=[(i:Int)]:=h
  rw[e]at hm
  exact congrArg some (Y2.mp hm)
 |some c =>
  obtain⟨j,hj,e⟩:=(h m).mp hm
  exact⟨⟨j,hj,e⟩,λj' hj'=>hx _ ((h _).mpr ⟨j',hj',rfl⟩)⟩
theorem Zle {a:Option Int}:Zl6 none a=none:=by cases a<;>rfl
theorem ZoG {a:Option Int}:Zl6 a none=none:=by cases a<;>rfl
theorem Zh3 {ns T:List Int} (hT:Zp ns T) {p q:Nat} (hp:p<ns.length) (h:nth T p=q):dpI T (p:Int)=dpI T (q:Int)+1:=by
 unfold dpI
 simp only[Jj,Zhc,Yi]
 rw[ZcQ hT hp h,YN];omega
theorem ZjI (n:Int):(nats n).Nodup:=by
 unfold nats
 exact List.Pairwise.map _ (λa b (h:a≠b)=>λ(e:(a:Int)=(b:Int))=>h ⋯) List.nodup_range
theorem Zlf {ns T qs:List Int} (hT:Zp ns T) (hpm:qs.Perm (nats (T.length:Int))) (hpw:qs.Pairwise λx y=>dpI T y<=dpI T x) {k c v:Nat} (e:qs[k]?=some (v:Int)) (hc:c<T.length) (h:nth T c=v):(c:Int)∈qs.take k:=by
 have eT:=hT.1
 have hd:=Zh3 hT (p:=c) ⋯ h
 have hm:(c:Int)∈qs:=hpm.mem_iff.mpr (YK.mpr ⟨c,Yy.mpr ⋯,rfl⟩)
 obtain⟨m,hm1,em⟩:=YZ hm
 obtain⟨hk,ek⟩:=Yw.mp e
 by_cases hlt:m<k
 .exact List.mem_take_iff_getElem.mpr ⟨m,⋯,em⟩
 .exfalso
  by_cases he:m=k
  .subst he
   rw[em]at ek
   rw[ek]at hd;omega
  .have:=List.pairwise_iff_getElem.mp hpw k m hk hm1 ⋯
   rw[em,ek]at this
   omega
noncomputable def Zbk (T ts:List Int) (tab:List (List Pt)) (v:Nat):Prop:=(tab.getD v []).length=ts.length/\∀i,i<ts.length->∃ah bh,Zab T v ah/\ZT T v bh/\ZbO ts tab i ah bh ((tab.getD v []).getD i none)
theorem Zb9 {tab:List (List Pt)}{v c:Nat}{rs:List Pt} (h:c≠v):(tab.set v rs).getD c []=tab.getD c []:=by
 rw[Yh,Yh,List.getElem?_set_ne (Ne.symm h)]
theorem Zlg {tab:List (List Pt)}{v:Nat}{rs:List Pt} (h:v<tab.length):(tab.set v rs).getD v []=rs:=by
 rw[Yh,List.getElem?_set_self h];rfl
theorem Zh4 {T ts:List Int}{tab:List (List Pt)}{v w i:Nat}{rs:List Pt}{ah bh:Option Nat}{p:Pt} (hA:Zab T w ah) (hB:ZT T w bh) (hk:∀c,c<T.length->nth T c=w->c≠v) (h:ZbO ts tab i ah bh p):ZbO ts (tab.set v rs) i ah bh p:=by
 obtain⟨a,b,h1,h2,h3⟩:=h
 refine⟨a,b,?_,?_,h3⟩
 .cases ah with
  |none=>exact h1
  |some c =>
   unfold ZbN at h1⊢
   dsimp only at h1⊢
   rw[Zb9 (hk c hA.2.1 hA.2.2)];exact h1
 .cases bh with
  |none=>exact h2
  |some c =>
   unfold ZdE at h2⊢
   dsimp only at h2⊢
   rw[Zb9 (hk c hB.2.1 hB.2.2)];exact h2
theorem Zbk.set {T ts:List Int}{tab:List (List Pt)}{v w:Nat}{rs:List Pt} (h:Zbk T ts tab w) (hw:w≠v) (hk:∀c,c<T.length->nth T c=w->c≠v):Zbk T ts (tab.set v rs) w:=by
 unfold Zbk
 rw[Zb9 hw]
 refine⟨h.1,λi hi=>?_⟩
 obtain⟨ah,bh,hA,hB,hR⟩:=h.2 i hi
 exact⟨ah,bh,hA,hB,Zh4 hA hB hk hR⟩
theorem Zbk.new {T ts:List Int}{tab:List (List Pt)}{v:Nat}{rs:List Pt}{ah bh:Option Nat} (hv:v<tab.length) (hl:rs.length=ts.length) (hA:Zab T v ah) (hB:ZT T v bh) (hk:∀c,c<T.length->nth T c=v->c≠v) (h:∀i,i<ts.length->ZbO ts tab i ah bh (rs.getD i none)):Zbk T ts (tab.set v rs) v:=by
 unfold Zbk
 rw[Zlg hv]
 exact⟨hl,λi hi=>⟨ah,bh,hA,hB,Zh4 hA hB hk (h i hi)⟩⟩
theorem ZaZ.excL {H H':Hp}{v:V}{pr:Pt}{l:Addr}{xs:List V} (h:ZaZ H v pr) (hl:H l=some (.lst xs)) (s:Exc l H H'):ZaZ H' v pr:=by
 cases pr with
 |none=>exact h
 |some z =>
  obtain⟨a,e,h⟩:=h
  exact⟨a,e,s _ _ (λy=>by rw[y,hl]at h;cases h) h⟩
theorem lmin (f:Nat->Int) (a:Nat):∀d,∃m,a<=m/\m<=a+d/\(∀r,a<=r->r<=a+d->f m<=f r)/\∀r,a<=r->r<m->f m<f r
 |0=>⟨a,⋯,⋯,λr h1 h2=>by rw[show r=a by omega];exact Int.le_refl _,λr h1 h2=>absurd h2 ⋯⟩
 |d+1=>by
  obtain⟨m,h1,h2,h3,h4⟩:=lmin f a d
  by_cases c:f (a+(d+1))<f m
  .refine⟨a+(d+1),⋯,⋯,λr r1 r2=>?_,λr r1 r2=>?_⟩
   .by_cases e:r=a+(d+1)
    .rw[e];exact Int.le_refl _
    .have:=h3 r r1 ⋯;omega
   .have:=h3 r r1 ⋯;omega
  .refine⟨m,h1,⋯,λr r1 r2=>?_,h4⟩
   by_cases e:r=a+(d+1)
   .rw[e];omega
   .exact h3 r r1 ⋯
theorem Zgf {ns T:List Int} (hT:Zp ns T) {c1 c2 v:Nat} (h12:c1<c2) (h2v:c2<v) (hv:v<ns.length) (e1:nth T c1=v) (e2:nth T c2=v):False:=by
 obtain⟨m,m1,m2,m3,m4⟩:=lmin (nth ns) c1 (c2-c1)
 have E1:Zx (nth ns) ns.length c1 (v:Int):=e1▸hT.2 c1 ⋯
 have E2:Zx (nth ns) ns.length c2 (v:Int):=e2▸hT.2 c2 ⋯
 have hv1:Over (nth ns) v c1:=(Zb8 ⋯ hv E1).mpr (.inl rfl)
 have lt:nth ns v<nth ns m:=by
  rcases hv1 with h|h
  .omega
  .exact h.2 m ⋯ ⋯
 have hm:Over (nth ns) m v:=by
  by_cases c:m=c1
  .have:Over (nth ns) m c2:=.inl ⟨⋯,λr r1 r2=>m3 r ⋯ ⋯⟩
   exact((Zb8 ⋯ ⋯ E2).mp this).resolve_left ⋯
  .have:Over (nth ns) m c1:=.inr ⟨⋯,λr r1 r2=>m4 r r1 r2⟩
   exact((Zb8 ⋯ ⋯ E1).mp this).resolve_left ⋯
 rcases hm with h|h
 .have:=h.2 v ⋯ ⋯;omega
 .omega
theorem ZeH {ns T:List Int} (hT:Zp ns T) {c1 c2 v:Nat} (hv1:v<c1) (h12:c1<c2) (hc:c2<ns.length) (e1:nth T c1=v) (e2:nth T c2=v):False:=by
 obtain⟨m,m1,m2,m3,m4⟩:=lmin (nth ns) c1 (c2-c1)
 have E1:Zx (nth ns) ns.length c1 (v:Int):=e1▸hT.2 c1 ⋯
 have E2:Zx (nth ns) ns.length c2 (v:Int):=e2▸hT.2 c2 ⋯
 have hv2:Over (nth ns) v c2:=(Zb8 ⋯ ⋯ E2).mpr (.inl rfl)
 have le:nth ns v<=nth ns m:=by
  rcases hv2 with h|h
  .exact h.2 m ⋯ ⋯
  .omega
 have hm:Over (nth ns) m v:=by
  by_cases c:m=c1
  .have:Over (nth ns) m c2:=.inl ⟨⋯,λr r1 r2=>m3 r ⋯ ⋯⟩
   exact((Zb8 ⋯ ⋯ E2).mp this).resolve_left ⋯
  .have:Over (nth ns) m c1:=.inr ⟨⋯,λr r1 r2=>m4 r r1 r2⟩
   exact((Zb8 ⋯ ⋯ E1).mp this).resolve_left ⋯
 rcases hm with h|h
 .omega
 .have:=h.2 v ⋯ ⋯;omega
theorem ZoH {T:List Int} (hG:Zcm T) {v:Nat}{o1 o2:Option Nat} (hv:v<T.length) (h1:Zab T v o1) (h2:Zab T v o2):o1=o2:=by
 obtain⟨_,ns,hT⟩:=hG
 have eT:=hT.1
 cases o1 with
 |none =>
  cases o2 with
  |none=>rfl
  |some c=>exact absurd h2.2.2 (h1 c h2.1 h2.2.1)
 |some c =>
  cases o2 with
  |none=>exact absurd h1.2.2 (h2 c h1.1 h1.2.1)
  |some d =>
   by_cases z:c=d
   .rw[z]
   .exfalso
    rcases Nat.lt_or_gt_of_ne z with z|z
    .exact Zgf hT z h2.1 ⋯ h1.2.2 h2.2.2
    .exact Zgf hT z h1.1 ⋯ h2.2.2 h1.2.2
theorem Znn {T:List Int} (hG:Zcm T) {v:Nat}{o1 o2:Option Nat} (h1:ZT T v o1) (h2:ZT T v o2):o1=o2:=by
 obtain⟨_,ns,hT⟩:=hG
 have eT:=hT.1
 cases o1 with
 |none =>
  cases o2 with
  |none=>rfl
  |some c=>exact absurd h2.2.2 (h1 c h2.1 h2.2.1)
 |some c =>
  cases o2 with
  |none=>exact absurd h1.2.2 (h2 c h1.1 h1.2.1)
  |some d =>
   by_cases z:c=d
   .rw[z]
   .exfalso
    rcases Nat.lt_or_gt_of_ne z with z|z
    .exact ZeH hT h1.1 z (by have:=h2.2.1;omega) h1.2.2 h2.2.2
    .exact ZeH hT h2.1 z (by have:=h1.2.1;omega) h2.2.2 h1.2.2
theorem ZoI {ts:List Int}{t1 t2:List (List Pt)}{i:Nat}{ah:Option Nat}{r1 r2:Option Int} (he:∀c,ah=some c->t1.getD c []=t2.getD c []) (h1:ZbN ts t1 i ah r1) (h2:ZbN ts t2 i ah r2):r1=r2:=by
 cases ah with
 |none=>exact(show r1=_ from h1).trans (show r2=_ from h2).symm
 |some c =>
  unfold ZbN at h1 h2
  dsimp only at h1 h2
  rw[he c rfl]at h1
  cases r1 with
  |none =>
   cases r2 with
   |none=>rfl
   |some b=>obtain⟨⟨j,hj,_⟩,_⟩:=h2;exact absurd hj (h1 j)
  |some a =>
   cases r2 with
   |none=>obtain⟨⟨j,hj,_⟩,_⟩:=h1;exact absurd hj (h2 j)
   |some b =>
    obtain⟨⟨j,hj,ej⟩,hj'⟩:=h1
    obtain⟨⟨k,hk,ek⟩,hk'⟩:=h2
    have x1:=hj' k hk
    have x2:=hk' j hj
    rw[show a=b by omega]
theorem Zq0 {ts:List Int}{t1 t2:List (List Pt)}{i:Nat}{ah:Option Nat}{r1 r2:Option Int} (he:∀c,ah=some c->t1.getD c []=t2.getD c []) (h1:ZdE ts t1 i ah r1) (h2:ZdE ts t2 i ah r2):r1=r2:=by
 cases ah with
 |none=>exact(show r1=_ from h1).trans (show r2=_ from h2).symm
 |some c =>
  unfold ZdE at h1 h2
  dsimp only at h1 h2
  rw[he c rfl]at h1
  cases r1 with
  |none =>
   cases r2 with
   |none=>rfl
   |some b=>obtain⟨⟨j,hj,_⟩,_⟩:=h2;exact absurd hj (h1 j)
  |some a =>
   cases r2 with
   |none=>obtain⟨⟨j,hj,_⟩,_⟩:=h1;exact absurd hj (h2 j)
   |some b =>
    obtain⟨⟨j,hj,ej⟩,hj'⟩:=h1
    obtain⟨⟨k,hk,ek⟩,hk'⟩:=h2
    have x1:=hj' k hk
    have x2:=hk' j hj
    rw[show a=b by omega]
theorem Zno {T ts:List Int}{t1 t2:List (List Pt)} (hG:Zcm T) (h1:Zdg T ts t1) (h2:Zdg T ts t2):t1=t2:=by
 obtain⟨h40,ns,hT⟩:=id hG
 have eT:=hT.1
 have row:∀n v:Nat,v<T.length->T.length<dpI T (v:Int)+n->t1.getD v []=t2.getD v []:=λn=>by
  induction n with
  |zero =>
   intro v hv hn
   exfalso
   have:=ZmO T T.length (nth T v)
   unfold dpI at hn
   rw[Jj,Zhc,Yi]at hn
   unfold way at hn
   omega
  |succ n ih =>
   intro v hv hn
   have kid:∀c,c<T.length->nth T c=v->t1.getD c []=t2.getD c []:=λc hc e=>by
    have:=Zh3 hT (p:=c) ⋯ e
    exact ih c hc ⋯
   obtain⟨l1,q1⟩:=h1.2 v hv
   obtain⟨l2,q2⟩:=h2.2 v hv
   refine List.ext_getElem ⋯ λi i1 i2=>?_
   obtain⟨a1,b1,A1,B1,f1,g1,F1,G1,e1⟩:=q1 i ⋯
   obtain⟨a2,b2,A2,B2,f2,g2,F2,G2,e2⟩:=q2 i ⋯
   have ea:=ZoH hG hv A1 A2
   have eb:=Znn hG B1 B2
   subst ea eb
   have ef:=ZoI (λc z=>by subst z;exact kid c A1.2.1 A1.2.2) F1 F2
   have eg:=Zq0 (λc z=>by subst z;exact kid c B1.2.1 B1.2.2) G1 G2
   subst ef eg
   have:=e1.trans e2.symm
   rw[Yh,Yh (l:=t2.getD v []),Yf i1,Yf i2]at this
   exact this
 refine List.ext_getElem (by rw[h1.1,h2.1]) λv v1 v2=>?_
 have hv:v<T.length:=by rw[<-h1.1];exact v1
 have:=row (T.length+1) v hv (by unfold dpI;omega)
 rw[Yh,Yh,Yf v1,Yf v2]at this
 exact this
theorem Zkq {f:Addr}{fd:FuncData} (F:Fun K "best_ahead" "best_ahead" ZaT f fd) (L:ZlY K mg "best_ahead" f) (B:BM mg base) (T:Txt K mg):FnOk P w K mg base (CXE P w) 1 f fd ["text","pairs","i"] (ZdD K mg):=by
 refine F.okL L B Zgo (λvs H Q E h=>?_) (λcdv A outer s H vs Q E LI hr h=>?_)
 .obtain⟨x,q,ts,ps,i,rfl,_⟩:=h;rfl
 obtain⟨x,q,ts,ps,i,rfl,hx,hq,hl,h16,hi,hTb,k1⟩:=h
 refine⟨_,(Ze (Zas (i:=3) ["j","i","pairs","text"] [none,some 2,some 1,some 0] Zgo.nd rfl (Or.inl rfl) rfl rfl rfl (ZM rfl T.b_range (Za (pv 2) Zb)) (λ_ _ _ _ _=>(Zm (i:=0) (show(["j","i","pairs","text"]:List Str).Nodup from by decide +kernel) rfl (Or.inl rfl))) (λ_ _ _ _ _=>Z1 (PW.pt (ZcK (Zj ZbM (Zk (r:=ZdB K) Zr (pv 2) (pv 0) (λ_ _=>rfl)) Zac (Zl _)) (ZcK (Zj Zfd (Zk (Zg8 (K:=K) rfl) (pv 3) (pv 0) (λ_ _=>rfl)) (Zk (Zg8 (K:=K) rfl) (pv 3) (pv 1) (λ_ _=>rfl)) (Zl _)) (Zco (Zj Zg6 (Zk (r:=Zfn K) ZF (Zk (r:=ZdB K) Zr (pv 2) (pv 0) (λ_ _=>rfl)) Zf (λ_ _=>rfl)) (pv 1) (Zl _))))))) (λ_ _ _ _ _=>(pv 0)) Zs)
   (Zg (Zz (Zsf (Nc:=["j","pairs"]) (js:=[none,some 1]) (pn:="j") (q:=ZgH "best_ahead") (P:=Zfo K mg "best_ahead") rfl hr ⟨rfl,rfl,rfl,rfl,rfl,rfl,rfl,λ_ _ _ _ _ _=>rfl⟩ (λ_ _ _ _ _ _=>(Zk (r:=Zfn K) ZF (Zk (r:=ZdB K) Zr (pv 1) (pv 0) (λ_ _=>rfl)) Zf (λ_ _=>rfl))) rfl T.b_max (Za (pv 3) Zb) (Zev (ZlV ⟨LI.code,LI.bm,LI.ql⟩ rfl) (Zev Zac Zls)))))),?_⟩
 right
 obtain⟨vals,hqv,hvl,hvp⟩:=hq
 refine⟨⋯,⋯,?_⟩
 rw[show((i:Nat):Int).toNat=i by omega]
 refine Zaw (n:=i) (λj=>decide (Zat ts ps i j)) (λj=>V.int (j:Int)) (YG (show _<=1000 by omega) nofun) (λj Hz s hj=>hj) (λHz s=>Yc _) ?_ ?_
 .rintro j y Hz Hw hj sz ⟨rfl,rfl⟩
  rw[show(0:Int)+(j:Int)=((j:Nat):Int) by omega]
  right
  obtain⟨v,ev,hv⟩:=ZdL hvl hvp (show j<ps.length by omega)
  have hv:=hv.same sz
  refine⟨_,SqL.of (sz _ _ hqv),_,ev,ZA (λc=>?_) λc=>?_⟩
  .have hs:(ps.getD j none).isSome=true:=by
    cases e:(ps.getD j none).isSome with
    |true=>rfl
    |false=>exact absurd ((ZfH hv).mpr e) c
   obtain⟨a,rfl,ha⟩:=Zdj hv hs
   refine⟨_,sz.q hx,_,Z7 ⋯,_,sz.q hx,_,Z7 ⋯,_,rfl,_,rfl,ZA (λc2=>?_) λc2=>CF.skip hj (Yz λz=>c2 z.2.2.1) sz⟩
   refine⟨_,SqL.of (sz _ _ hqv),_,ev,a,rfl,_,SqT.of ha,_,rfl,_,rfl,?_⟩
   exact ZA (λc3=>CF.take hj (Yt ⟨hj,hs,c2,c3⟩) rfl sz) λc3=>CF.skip hj (Yz λz=>c3 z.2.2.2) sz
  .refine CF.skip hj (Yz λz=>?_) sz
   have z1:=z.2.1
   rw[(ZfH hv).mp (Decidable.of_not_not c)]at z1
   cases z1
 .intro lf Hz sz hlf
  have eN:(((List.range i).filter λj=>decide (Zat ts ps i j)).map λ(j:Nat)=>V.int (j:Int))=(((List.range i).filter λj=>decide (Zat ts ps i j)).map λ(j:Nat)=>(j:Int)).map V.int:=by rw[Je];rfl
  rw[eN]
  have hmem:∀y,y∈(((List.range i).filter λj=>decide (Zat ts ps i j)).map λ(j:Nat)=>(j:Int))↔∃j:Nat,y=j/\Zat ts ps i j:=λy=>by
   rw[YK]
   constructor
   .rintro⟨j,hj,rfl⟩
    exact⟨j,rfl,YT (YQ.mp hj).2⟩
   .rintro⟨j,rfl,hj⟩
    exact⟨j,YQ.mpr ⟨Yy.mpr hj.1,Yt hj⟩,rfl⟩
  generalize (((List.range i).filter λj=>decide (Zat ts ps i j)).map λ(j:Nat)=>(j:Int))=ns at hmem⊢
  have g1:=sz.Zaj (o:=.lst (ns.map V.int)) hlf
  have h1:=Zc (H:=Hz) (a:=lf) (o:=.lst (ns.map V.int))
  generalize upd Hz lf (.lst (ns.map V.int))=H1 at g1 h1⊢
  refine⟨ZU.same hTb g1,λf1 H5 zf s5 LO=>⟨lf,rfl,ns,s5 _ _ h1,LO,λn=>(ZV ps n.toNat).1,λn H6 hn s6=>?_,λhns H6 s6=>?_,λa H6 ha hB s6=>?_⟩⟩
  .obtain⟨j,rfl,hj⟩:=(hmem n).mp hn
   obtain⟨v,ev,hv⟩:=ZdL hvl hvp (show j<ps.length by have:=hj.1;omega)
   have sA:=g1.trans (s5.trans s6)
   obtain⟨a,rfl,ha⟩:=Zdj (hv.same sA) hj.2.1
   exact⟨_,SqL.of (sA _ _ hqv),_,ev,a,rfl,_,SqT.of ha,_,rfl,by simp,Zd.refl _⟩
  .exact k1 none H6 (g1.trans (s5.trans s6)) λj hj=>by
    have:=(hmem (j:Int)).mpr ⟨j,rfl,hj⟩
    rw[hns]at this;cases this
  .obtain⟨j,e,hj⟩:=Zp1 (ps:=ps) hmem ha
   rw[e]
   refine k1 (some j) H6 (g1.trans (s5.trans s6)) ⟨hj,λj' hj'=>?_⟩
   obtain⟨b,hb,eb⟩:=YZ ((hmem (j':Int)).mpr ⟨j',rfl,hj'⟩)
   have:=(hB b hb).1
   rw[e,show nth ns b=(j':Int) by unfold nth;rw[Yh,Yf hb,eb];rfl]at this
   simpa using this
theorem ZjJ {f:Addr}{fd:FuncData} (F:Fun K "best_behind" "best_behind" Zax f fd) (L:ZlY K mg "best_behind" f) (B:BM mg base) (T:Txt K mg):FnOk P w K mg base (CXE P w) 1 f fd ["text","pairs","i"] (ZcU K mg):=by
 refine F.okL L B ZfF (λvs H Q E h=>?_) (λcdv A outer s H vs Q E LI hr h=>?_)
 .obtain⟨x,q,ts,ps,i,rfl,_⟩:=h;rfl
 obtain⟨x,q,ts,ps,i,rfl,hx,hq,hl,h16,hi,hTb,k1⟩:=h
 refine⟨_,(Ze (Zas (i:=3) ["j","i","pairs","text"] [none,some 2,some 1,some 0] ZfF.nd rfl (Or.inl rfl) rfl rfl rfl (Zf8 rfl T.b_range (Za (Zy Zcd (pv 2) Zf) (Za (Zn (Zt (K:=K) rfl) rfl T.b_len YL (Za (pv 0) Zb)) Zb))) (λ_ _ _ _ _=>(Zm (i:=0) (show(["j","i","pairs","text"]:List Str).Nodup from by decide +kernel) rfl (Or.inl rfl))) (λ_ _ _ _ _=>Z1 (PW.pt (ZcK (Zj ZbM (Zk (r:=ZdB K) Zr (pv 2) (pv 0) (λ_ _=>rfl)) Zac (Zl _)) (ZcK (Zj ZmB (Zk (Zg8 (K:=K) rfl) (pv 3) (pv 0) (λ_ _=>rfl)) (Zk (Zg8 (K:=K) rfl) (pv 3) (pv 1) (λ_ _=>rfl)) (Zl _)) (Zco (Zj Zfd (Zk (r:=Zfn K) ZF (Zk (r:=ZdB K) Zr (pv 2) (pv 0) (λ_ _=>rfl)) Zf (λ_ _=>rfl)) (pv 1) (Zl _))))))) (λ_ _ _ _ _=>(pv 0)) Zs)
   (Zg (Zz (Zsg (Nc:=["j","pairs"]) (js:=[none,some 1]) (pn:="j") (q:=ZgH "best_behind") (P:=Zfo K mg "best_behind") rfl hr ⟨rfl,rfl,rfl,rfl,rfl,rfl,rfl,λ_ _ _ _ _ _=>rfl⟩ (λ_ _ _ _ _ _=>(Zk (r:=Zfn K) ZF (Zk (r:=ZdB K) Zr (pv 1) (pv 0) (λ_ _=>rfl)) Zf (λ_ _=>rfl))) rfl T.b_min (Za (pv 3) Zb) (Zev (ZlV ⟨LI.code,LI.bm,LI.ql⟩ rfl) (Zev Zac Zls)))))),?_⟩
 right
 obtain⟨vals,hqv,hvl,hvp⟩:=hq
 have eX:(ts.map V.int).length=ts.length:=Yi ..
 refine⟨_,hx,⋯,⋯,⋯,⋯,?_⟩
 rw[eX,show(((ts.length:Nat):Int)-((i:Int)+1)).toNat=ts.length-(i+1) by omega]
 refine Zaw (n:=ts.length-(i+1)) (λk=>decide (Zau ts ps i (i+1+k))) (λk=>V.int ((i+1+k:Nat):Int)) (YG (show _<=1000 by omega) nofun) (λj Hz s hj=>hj) (λHz s=>Yc _) ?_ ?_
 .rintro k y Hz Hw hk sz ⟨rfl,rfl⟩
  rw[show(i:Int)+1+(k:Int)=((i+1+k:Nat):Int) by omega]
  have hj1:i<i+1+k:= ⋯
  have hj2:i+1+k<ts.length:= ⋯
  generalize hjg:i+1+k=j at hj1 hj2⊢
  right
  obtain⟨v,ev,hv⟩:=ZdL hvl hvp (show j<ps.length by omega)
  have hv:=hv.same sz
  refine⟨_,SqL.of (sz _ _ hqv),_,ev,ZA (λc=>?_) λc=>?_⟩
  .have hs:(ps.getD j none).isSome=true:=by
    cases e:(ps.getD j none).isSome with
    |true=>rfl
    |false=>exact absurd ((ZfH hv).mpr e) c
   obtain⟨a,rfl,ha⟩:=Zdj hv hs
   refine⟨_,sz.q hx,_,Z7 ⋯,_,sz.q hx,_,Z7 ⋯,_,rfl,_,rfl,ZA (λc2=>?_) λc2=>CF.skip hk (Yz λz=>c2 (hjg▸z).2.2.2.1) sz⟩
   refine⟨_,SqL.of (sz _ _ hqv),_,ev,a,rfl,_,SqT.of ha,_,rfl,_,rfl,?_⟩
   exact ZA (λc3=>CF.take hk (Yt (by rw[hjg];exact⟨hj1,hj2,hs,c2,c3⟩)) (by rw[hjg]) sz) λc3=>CF.skip hk (Yz λz=>c3 (hjg▸z).2.2.2.2) sz
  .refine CF.skip hk (Yz λz=>?_) sz
   rw[hjg]at z
   have z1:=z.2.2.1
   rw[(ZfH hv).mp (Decidable.of_not_not c)]at z1
   cases z1
 .intro lf Hz sz hlf
  have eN:(((List.range (ts.length-(i+1))).filter λk=>decide (Zau ts ps i (i+1+k))).map λ(k:Nat)=>V.int ((i+1+k:Nat):Int))=(((List.range (ts.length-(i+1))).filter λk=>decide (Zau ts ps i (i+1+k))).map λ(k:Nat)=>((i+1+k:Nat):Int)).map V.int:=by rw[Je];rfl
  rw[eN]
  have hmem:∀y,y∈(((List.range (ts.length-(i+1))).filter λk=>decide (Zau ts ps i (i+1+k))).map λ(k:Nat)=>((i+1+k:Nat):Int))↔∃j:Nat,y=j/\Zau ts ps i j:=λy=>by
   rw[YK]
   constructor
   .rintro⟨k,hk,rfl⟩
    exact⟨i+1+k,rfl,YT (YQ.mp hk).2⟩
   .rintro⟨j,rfl,hj⟩
    have h1:=hj.1
    have h2:=hj.2.1
    refine⟨j-(i+1),YQ.mpr ⟨Yy.mpr ⋯,Yt ?_⟩,⋯⟩
    rw[show i+1+(j-(i+1))=j by omega];exact hj
  generalize (((List.range (ts.length-(i+1))).filter λk=>decide (Zau ts ps i (i+1+k))).map λ(k:Nat)=>((i+1+k:Nat):Int))=ns at hmem⊢
  have g1:=sz.Zaj (o:=.lst (ns.map V.int)) hlf
  have h1:=Zc (H:=Hz) (a:=lf) (o:=.lst (ns.map V.int))
  generalize upd Hz lf (.lst (ns.map V.int))=H1 at g1 h1⊢
  refine⟨ZU.same hTb g1,λf1 H5 zf s5 LO=>⟨lf,rfl,ns,s5 _ _ h1,LO,λn=>(ZV ps n.toNat).2,λn H6 hn s6=>?_,λhns H6 s6=>?_,λa H6 ha hB s6=>?_⟩⟩
  .obtain⟨j,rfl,hj⟩:=(hmem n).mp hn
   obtain⟨v,ev,hv⟩:=ZdL hvl hvp (show j<ps.length by have:=hj.2.1;omega)
   have sA:=g1.trans (s5.trans s6)
   obtain⟨a,rfl,ha⟩:=Zdj (hv.same sA) hj.2.2.1
   exact⟨_,SqL.of (sA _ _ hqv),_,ev,a,rfl,_,SqT.of ha,_,rfl,by simp,Zd.refl _⟩
  .exact k1 none H6 (g1.trans (s5.trans s6)) λj hj=>by
    have:=(hmem (j:Int)).mpr ⟨j,rfl,hj⟩
    rw[hns]at this;cases this
  .obtain⟨j,e,hj⟩:=Zp1 (ps:=ps) hmem ha
   rw[e]
   refine k1 (some j) H6 (g1.trans (s5.trans s6)) ⟨hj,λj' hj'=>?_⟩
   obtain⟨b,hb,eb⟩:=YZ ((hmem (j':Int)).mpr ⟨j',rfl,hj'⟩)
   have:=(hB b hb).1
   rw[e,show nth ns b=(j':Int) by unfold nth;rw[Yh,Yf hb,eb];rfl]at this
   simpa using this
theorem ZoJ {f:Addr}{fd:FuncData} (F:Fun K "pair_at" "pair_at" ZcJ f fd) (ZeL:Callee P w K mg base "best_ahead" 1 ["text","pairs","i"] (ZdD K mg)) (ZdM:Callee P w K mg base "best_behind" 1 ["text","pairs","i"] (ZcU K mg)) (T:Txt K mg):FnOk P w K mg base (CXE P w) 2 f fd ["text","table","young","i"] (ZgK K mg):=by
 refine F.okX Zap (λvs H Q E h=>?_) (λcdv A outer s H vs Q E hr h=>?_)
 .obtain⟨x,l,y,ts,tab,ah,bh,i,rfl,_⟩:=h;rfl
 obtain⟨x,l,y,ts,tab,ah,bh,i,rfl,hx,hl,hy,ka,kb,h16,hi,hT1,hT2,k1⟩:=h
 refine⟨_,(Ze (Zet (pv 2) (pg_lst (K:=K) rfl (n:=2) rfl (Zb7 (Zm (i:=4) Zap.nd rfl (Or.inl rfl)) (Zb7 (Zm (i:=5) Zap.nd rfl (Or.inl rfl)) ZiQ))))
   (Ze (ZuZ (pv 3) (Zm (i:=6) Zap.nd rfl (Or.inl rfl)) (Zm (i:=7) Zap.nd rfl (Or.inl rfl)))
   (Ze (Zaa (Zj ZbM (pv 4) Zac (Zl _)) (Ze (Zu (i:=8) Zap.nd rfl (Or.inl rfl) (Zi ZeL (hr.mono nofun) rfl ZC (Za (pv 0) (Za (Zk Zr (pv 1) (pv 4) (λ_ _=>rfl)) (Za (pv 3) Zb)))))
   (Ze (Zaa (Zj ZrG (pv 8) Zac (Zl _)) (Zg (Zz Zac)) ZI)
   (Zg (Zu (i:=6) Zap.nd rfl (Or.inl rfl) (Zk ZF (Zk Zr (Zk Zr (pv 1) (pv 4) (λ_ _=>rfl)) (pv 8) (λ_ _=>rfl)) Zf (λ_ _=>rfl)))))) ZI)
   (Ze (Zaa (Zj ZbM (pv 5) Zac (Zl _)) (Ze (Zu (i:=8) Zap.nd rfl (Or.inl rfl) (Zi ZdM (hr.mono nofun) rfl ZC (Za (pv 0) (Za (Zk Zr (pv 1) (pv 5) (λ_ _=>rfl)) (Za (pv 3) Zb)))))
   (Ze (Zaa (Zj ZrG (pv 8) Zac (Zl _)) (Zg (Zz Zac)) ZI)
   (Zg (Zu (i:=7) Zap.nd rfl (Or.inl rfl) (Zk ZF (Zk Zr (Zk Zr (pv 1) (pv 5) (λ_ _=>rfl)) (pv 8) (λ_ _=>rfl)) Zf (λ_ _=>rfl)))))) ZI)
   (Zg (Zz (ZdA (Za (pv 6) (Za (pv 7) Zb))))))))),?_⟩
 obtain⟨as,hla,_,hal,hap⟩:=hl
 refine ZaP (fun σ Hx=>σ=[some (.ref x),some (.ref l),some (.ref y),some (.int (i:Int)),some (optN ah),some (optN bh),none,none,none]/\Hx=H) (λR hR=>?_) ?_
 .right
  exact⟨_,SqL.of hy,rfl,_,_,rfl,_,_,rfl,rfl,hR _ _ ⟨rfl,rfl⟩⟩
 rintro σ Hx ⟨rfl,rfl⟩
 refine ZaP (fun σ Hy=>σ=[some (.ref x),some (.ref l),some (.ref y),some (.int (i:Int)),some (optN ah),some (optN bh),some (.int (i:Int)),some (.int (i:Int)),none]/\Hy=Hx) (λR hR=>?_) ?_
 .right
  exact hR _ _ ⟨rfl,rfl⟩
 rintro σ Hz ⟨rfl,rfl⟩
 refine ZaP (fun σ Hy=>∃(a:Int) (v8:Option V),σ=[some (.ref x),some (.ref l),some (.ref y),some (.int (i:Int)),some (optN ah),some (optN bh),some (.int a),some (.int (i:Int)),v8]/\ZbN ts tab i ah (some a)/\Zd Hz Hy) (λR hR=>?_) ?_
 .right
  cases ah with
  |none=>exact ZA (λz=>absurd rfl z) λ_=>hR _ _ ⟨_,none,rfl,rfl,Zd.refl Hz⟩
  |some c =>
   obtain⟨a,ea,ha⟩:=ZiZ hal hap ka.1
   refine ZA (λ_=>⟨_,_,rfl,SqL.of hla,_,ea,x,a,ts,tab.getD c [],i,rfl,hx,ha,ka.2,h16,hi,hT1,λr H1 s1 hB=>?_⟩) λz=>absurd z (by simp[optN])
   cases r with
   |none =>
    refine ZA (λ_=>?_) λz=>absurd rfl z
    obtain⟨b,hb⟩:=Zmc ts tab i bh
    exact k1 .non none H1 s1 ⟨none,b,hB,hb,by cases b<;>rfl⟩ rfl
   |some j =>
    refine ZA (λz=>by cases z) λ_=>?_
    have ha1:=ha.same s1
    obtain⟨vals,hqv,hvl,hvp⟩:=ha1
    obtain⟨v,ev,hv⟩:=ZdL hvl hvp (show j<(tab.getD c []).length by have:=hB.1.1;have:=ka.2;omega)
    obtain⟨u,rfl,hu⟩:=Zdj hv hB.1.2.1
    exact⟨_,_,rfl,SqL.of (s1 _ _ hla),_,ea,a,rfl,_,_,rfl,SqL.of hqv,_,ev,u,rfl,_,SqT.of hu,_,rfl,hR _ _ ⟨_,_,rfl,⟨⟨j,hB.1,rfl⟩,hB.2⟩,s1⟩⟩
 rintro σ H1 ⟨a,v8,rfl,hFa,s1⟩
 refine ZaP (fun σ Hy=>∃(b:Int) (v8:Option V),σ=[some (.ref x),some (.ref l),some (.ref y),some (.int (i:Int)),some (optN ah),some (optN bh),some (.int a),some (.int b),v8]/\ZdE ts tab i bh (some b)/\Zd Hz Hy) (λR hR=>?_) ?_
 .right
  cases bh with
  |none=>exact ZA (λz=>absurd rfl z) λ_=>hR _ _ ⟨_,v8,rfl,rfl,s1⟩
  |some c =>
   obtain⟨d,ea,ha⟩:=ZiZ hal hap kb.1
   refine ZA (λ_=>⟨_,_,rfl,SqL.of (s1 _ _ hla),_,ea,x,d,ts,tab.getD c [],i,rfl,s1.q hx,ha.same s1,kb.2,h16,hi,ZU.same hT2 s1,λr H2 s2 hB=>?_⟩) λz=>absurd z (by simp[optN])
   cases r with
   |none =>
    refine ZA (λ_=>?_) λz=>absurd rfl z
    exact k1 .non none H2 (s1.trans s2) ⟨some a,none,hFa,hB,rfl⟩ rfl
   |some j =>
    refine ZA (λz=>by cases z) λ_=>?_
    have ha1:=(ha.same s1).same s2
    obtain⟨vals,hqv,hvl,hvp⟩:=ha1
    obtain⟨v,ev,hv⟩:=ZdL hvl hvp (show j<(tab.getD c []).length by have:=hB.1.2.1;have:=kb.2;omega)
    obtain⟨u,rfl,hu⟩:=Zdj hv hB.1.2.2.1
    exact⟨_,_,rfl,SqL.of ((s1.trans s2) _ _ hla),_,ea,d,rfl,_,_,rfl,SqL.of hqv,_,ev,u,rfl,_,SqT.of hu,_,rfl,hR _ _ ⟨_,_,rfl,⟨⟨j,hB.1,rfl⟩,hB.2⟩,s1.trans s2⟩⟩
 rintro σ H2 ⟨b,v8',rfl,hLb,s2⟩
 right
 exact⟨by decide,λq zq=>k1 (.ref q) (some (a,b)) _ (s2.Zaj zq) ⟨some a,some b,hFa,hLb,rfl⟩ ⟨q,rfl,Zc⟩⟩
theorem Znp {f:Addr}{fd:FuncData} (F:Fun K "young_of" "young_of" ZbH f fd) (T:Txt K mg):FnOk P w K mg base (CXE P w) 1 f fd ["tree"] (ZfC K mg):=by
 refine F.okX Zdh (λvs H Q E h=>?_) (λcdv A outer s H vs Q E hr h=>?_)
 .obtain⟨t,T,rfl,_⟩:=h;rfl
 obtain⟨t,T',rfl,ht,hG,k1⟩:=h
 refine⟨_,(Ze (Zas (i:=1) ["place"] [none] Zdh.nd rfl (Or.inl rfl) rfl rfl rfl (ZnM (pv 0)) (λ_ _ _ _ _=>(Zm (i:=0) (show(["place"]:List Str).Nodup from by decide +kernel) rfl (Or.inl rfl))) (λ_ _ _ _ _=>Zad) (λ_ _ _ _ _=>(ZZ (Za Zac (Za Zac Zb)))) Zs)
   (Ze (ZbD (Zdz PassesOwn.never rfl (Zr2 (K:=K) rfl rfl T.b_enumerate (Za (pv 0) Zb)) (ZnI (n:=2) rfl (Zb7 (Zm (i:=2) Zdh.nd rfl (Or.inl rfl)) (Zb7 (Zm (i:=3) Zdh.nd rfl (Or.inl rfl)) ZiQ))) (Zg (Zaa (Zj ZmB (pv 3) Zf (Zl _)) (Zg (Zet (pv 2) (ZhI (Zk Zr (pv 1) (pv 3) (λ_ _=>rfl)) (Zrz (Zj Zfd (pv 2) (pv 3) (Zl _)) Zf Zf) set_list (λ_=>rfl)))) ZI))))
   (Zg (Zz (pv 1))))),?_⟩
 have h40:=hG.1
 obtain⟨_,nsT,hT⟩:=id hG
 have eT:=hT.1
 have eL:(T'.map V.int).length=T'.length:=Yi ..
 right
 refine⟨⟨_,ht⟩,ZaL (n:=T'.length) (λj acc Hz=>∃as:List Addr,acc=as.map V.ref/\as.length=j/\as.Nodup/\(∀a∈as,Hz a=some (.lst [.non,.non])/\H a=none)/\Zd H Hz) (YG (show _<=1000 by omega) nofun) ⟨[],rfl,rfl,List.nodup_nil,(λa ha=>absurd ha (by simp)),Zd.refl H⟩ (λj acc Hz ⟨_,_,_,_,_,e⟩ hj=>⟨_,_,(e).ZhR ht,Znl hj⟩) (λacc Hz ⟨_,_,_,_,_,e⟩=>⟨_,(e).ZhR ht,Ji eL⟩) ?_ ?_⟩
 .rintro j x acc Hz Hw hj hla ⟨as,rfl,hal,hnd,has,sz⟩ ⟨rfl,hx⟩
  right
  refine⟨by decide,λp zp=>CA.take hj hla ⟨as++[p],by simp,by simp[hal],?_,λa ha=>?_,sz.Zaj zp⟩⟩
  .rw[List.nodup_append]
   refine⟨hnd,by simp,λa ha b hb=>?_⟩
   have:b=p:=by simpa using hb
   subst this
   exact λz=>by rw[z]at ha;rw[(has _ ha).1]at zp;cases zp
  .rcases YB.mp ha with z|z
   .exact⟨((Zd.refl _).upd zp) _ _ (has a z).1,(has a z).2⟩
   .have:a=p:=by simpa using z
    subst this
    exact⟨Zc,sz.free zp⟩
 rintro y acc Hz ⟨as,rfl,hal,hnd,has,sz⟩ _ zy
 have gy:=(Zd.refl Hz).upd (o:=.lst (as.map V.ref)) zy
 have hyy:=Zc (H:=Hz) (a:=y) (o:=.lst (as.map V.ref))
 have s1:=sz.trans gy
 have zy0:=sz.free zy
 have ny:y∉as:=λz=>by rw[(has _ z).1]at zy;cases zy
 have Y0:YTo (upd Hz y (.lst (as.map V.ref))) as T' 0:=λv a e=>⟨none,none,(λc _ h=>absurd h ⋯),(λc _ h=>absurd h ⋯),gy _ _ (has a (List.mem_of_getElem? e)).1⟩
 generalize upd Hz y (.lst (as.map V.ref))=H1 at gy hyy s1 Y0⊢
 refine⟨_,(s1).ZhR ht,?_⟩
 refine Zob (n:=T'.length) (λj σ Hx=>∃v2 v3:Option V,σ=[some (.ref t),some (.ref y),v2,v3]/\Hx y=some (.lst (as.map V.ref))/\YTo Hx as T' j/\Zd H Hx) ⟨none,none,rfl,hyy,Y0,s1⟩ (λj σ Hx hj ⟨_,_,_,_,_,e⟩=>⟨_,_,(e).ZhR ht,Znl hj⟩) (fun σ Hx ⟨_,_,_,_,_,e⟩=>⟨_,(e).ZhR ht,eL⟩) ?_ ?_
 .rintro j x σ Hx Hw hj ⟨v2,v3,rfl,hyx,Yx,sx⟩ ⟨p,w,zp,rfl,rfl,hx⟩
  have ex:=hx _ ((sx).ZhR ht)
  rw[Znl hj]at ex
  cases ex
  right
  have gp:=(Zd.refl Hx).upd (o:=.tup [V.int (j:Int),V.int (nth T' j)]) zp
  have hp:=Zc (H:=Hx) (a:=p) (o:=.tup [V.int (j:Int),V.int (nth T' j)])
  generalize upd Hx p (.tup [V.int (j:Int),V.int (nth T' j)])=H2 at gp hp⊢
  refine⟨_,SqT.of hp,rfl,_,_,rfl,_,_,rfl,rfl,_,rfl,?_⟩
  have sx2:=sx.trans gp
  have hyx2:=gp _ _ hyx
  have Yx2:=Yx.same gp
  refine ZA (λc0=>?_) λc0=>⟨hyx2,Yx2.skip λv _=>⋯,sx2⟩
  have hq:∃q:Nat,nth T' j=q/\q<T'.length/\q≠j:=by
   rcases Zca hT (p:=j) ⋯with z|⟨q,ez,hq,hO,hd⟩
   .omega
   .refine⟨q,ez,⋯,λe=>?_⟩
    subst e;omega
  obtain⟨q,eq,hqT,nqj⟩:=hq
  obtain⟨a,ea⟩:∃a,as[q]?=some a:=⟨_,Yf ⋯⟩
  obtain⟨ah,bh,hA,hB,ha⟩:=Yx2 q a ea
  have na:a≠y:=λz=>ny (z▸List.mem_of_getElem? ea)
  have za:H a=none:=(has a (List.mem_of_getElem? ea)).2
  refine⟨_,_,rfl,SqL.of hyx2,V.ref a,by rw[eq];exact Zf9 (by rw[YE,ea];rfl),_,rfl,_,rfl,ZA (λc1=>?_) λc1=>?_⟩
  .refine⟨a,rfl,_,ha,1,rfl,by rw[Zh na.symm];exact hyx2,?_,sx2.upd za⟩
   exact Yx2.set (ah:=ah) (bh:=some j) hnd ea (hA.skip λz=>⋯) ⟨⋯,⋯,eq⟩ eq
  .refine⟨a,rfl,_,ha,0,rfl,by rw[Zh na.symm];exact hyx2,?_,sx2.upd za⟩
   exact Yx2.set (ah:=some j) (bh:=bh) hnd ea ⟨⋯,⋯,eq⟩ (hB.skip λz=>⋯) eq
 .rintro σ Hx ⟨v2,v3,rfl,hyx,Yx,sx⟩
  right
  refine k1 y Hx zy0 ⟨as,hyx,hal,λv a e=>?_⟩ sx
  obtain⟨ah,bh,h1,h2,h3⟩:=Yx v a e
  refine⟨ah,bh,?_,?_,h3⟩
  .cases ah with
   |none=>exact h1
   |some c=>exact h1
  .cases bh with
   |none=>exact h2
   |some c=>exact h2
theorem Znq {f:Addr}{fd:FuncData} (F:Fun K "table_by" "table_by" ZbI f fd) (ZgQ:Callee P w K mg base "young_of" 1 ["tree"] (ZfC K mg)) (ZeM:Callee P w K mg base "from_below" 5 ["tree"] (ZdC K mg)) (Zh7:Callee P w K mg base "pair_at" 2 ["text","table","young","i"] (ZgK K mg)) (T:Txt K mg):FnOk P w K mg base (CXE P w) 6 f fd ["tree","text"] (ZfD K mg):=by
 refine F.okX Zdi (λvs H Q E h=>?_) (λcdv A outer s H vs Q E hr h=>?_)
 .obtain⟨t,x,T,ts,rfl,_⟩:=h;rfl
 obtain⟨t,x,T',ts,rfl,ht,hx,hG,h16,hT1,hT2,hT3,k1⟩:=h
 refine⟨_,(Ze (Zu (i:=2) Zdi.nd rfl (Or.inr rfl) (Zi ZgQ (hr.mono nofun) rfl ZC (Za (pv 0) Zb)))
   (Ze (Zu (i:=3) Zdi.nd rfl (Or.inr rfl) (Z2 ["v"] [none] rfl rfl rfl (ZnM (pv 0)) (λ_ _ _ _ _=>(Zm (i:=0) (show(["v"]:List Str).Nodup from by decide +kernel) rfl (Or.inl rfl))) (λ_ _ _ _ _=>Zad) (λ_ _ _ _ _=>(ZZ Zb)) Zs))
   (Ze (ZbD (Zdz PassesOwn.never rfl (Zam (Zi ZeM (hr.mono nofun) rfl ZC (Za (pv 0) Zb))) (Zm (i:=4) Zdi.nd rfl (Or.inr rfl)) (Zg (Zet (Z2 ["i","text","table","young","v"] [none,some 1,some 3,some 2,some 4] rfl rfl rfl (ZM rfl T.b_range (Za (Zn (Zt (K:=K) rfl) rfl T.b_len YL (Za (pv 1) Zb)) Zb)) (λ_ _ _ _ _=>(Zm (i:=0) (show(["i","text","table","young","v"]:List Str).Nodup from by decide +kernel) rfl (Or.inl rfl))) (λ_ _ _ _ _=>Zad) (λ_ _ _ _ _=>(Zi Zh7 (hr.mono nofun) rfl ZC (Za (pv 1) (Za (pv 2) (Za (Zk (r:=ZdB K) Zr (pv 3) (pv 4) (λ_ _=>rfl)) (Za (pv 0) Zb)))))) Zs) (ZhI (pv 3) (pv 4) set_list (λ_=>rfl))))))
   (Zg (Zz (pv 3)))))),?_⟩
 have h40:=hG.1
 obtain⟨_,nsT,hT⟩:=id hG
 have eT:=hT.1
 have eL:(T'.map V.int).length=T'.length:=Yi ..
 have eX:(ts.map V.int).length=ts.length:=Yi ..
 refine ZaP (fun σ Hx=>∃y:Addr,σ=[some (.ref t),some (.ref x),some (.ref y),none,none]/\Zp0 Hx y T'/\Zd H Hx) (λR hR=>?_) ?_
 .right
  exact⟨t,T',rfl,ht,hG,λy H1 zy Y1 s1=>hR _ _ ⟨y,rfl,Y1,s1⟩⟩
 rintro σ H1 ⟨y,rfl,Y1,s1⟩
 obtain⟨ys,hys,hyl,hyp⟩:=Y1
 refine ZaP (fun σ Hx=>∃(l:Addr) (tab:List (List Pt)),σ=[some (.ref t),some (.ref x),some (.ref y),some (.ref l),none]/\H1 l=none/\Zfh Hx l tab/\tab.length=T'.length/\FrL H1 Hx l/\Zd H1 Hx) (λR hR=>?_) ?_
 .right
  refine⟨⟨_,(s1).ZhR ht⟩,ZaL (n:=T'.length) (λj acc Hz=>∃as:List Addr,acc=as.map V.ref/\as.length=j/\(∀a∈as,Hz a=some (.lst [])/\H1 a=none)/\Zd H1 Hz) (YG (show _<=1000 by omega) nofun) ⟨[],rfl,rfl,(λa ha=>absurd ha (by simp)),Zd.refl H1⟩ (λj acc Hz ⟨_,_,_,_,e⟩ hj=>⟨_,_,((s1.trans e)).ZhR ht,Znl hj⟩) (λacc Hz ⟨_,_,_,_,e⟩=>⟨_,((s1.trans e)).ZhR ht,Ji eL⟩) ?_ ?_⟩
  .rintro j w acc Hz Hw hj hla ⟨as,rfl,hal,has,sz⟩ ⟨rfl,hx⟩
   right
   refine⟨Yq _,λp zp=>CA.take hj hla ⟨as++[p],by simp,by simp[hal],λa ha=>?_,sz.Zaj zp⟩⟩
   rcases YB.mp ha with z|z
   .exact⟨((Zd.refl _).upd zp) _ _ (has a z).1,(has a z).2⟩
   .have:a=p:=by simpa using z
    subst this
    exact⟨Zc,sz.free zp⟩
  .rintro l acc Hz ⟨as,rfl,hal,has,sz⟩ _ zl
   have gl:=(Zd.refl Hz).upd (o:=.lst (as.map V.ref)) zl
   refine hR _ _ ⟨l,List.replicate T'.length [],rfl,sz.free zl,⟨as,Zc,(λz=>by rw[(has _ z).1]at zl;cases zl),by simp[hal],λi a ps e1 e2=>?_⟩,by simp,⟨as,Zc,λa ha=>(has a ha).2⟩,sz.trans gl⟩
   have:ps=[]:=by
    rw[List.getElem?_replicate]at e2
    split at e2
    .cases e2;rfl
    .cases e2
   subst this
   exact⟨[],gl _ _ (has a (List.mem_of_getElem? e1)).1,rfl,λi v p h=>by simp at h⟩
 rintro σ H2 ⟨l,tab0,rfl,zl,TB,htl,FB,s2⟩
 right
 have s02:=s1.trans s2
 refine⟨t,T',rfl,s02.ZhR ht,hG,ZU.same hT1 s02,λo ps H3 zo s3 hpm hpw ho=>⟨o,rfl,⟨_,SqL.of ho⟩,?_⟩⟩
 have s03:=s02.trans s3
 have zl0:H l=none:=s1.free zl
 have nd:ps.Nodup:=hpm.nodup_iff.mpr (ZjI _)
 obtain⟨as0,hla0,_⟩:=id TB
 have nlo:o≠l:=λz=>by rw[z,hla0]at zo;cases zo
 have nly:y≠l:=λz=>by rw[z,zl]at hys;cases hys
 refine ZmA (xs:=ps.map V.int) (λk σ Hx=>∃(v4:Option V) (tab:List (List Pt)),σ=[some (.ref t),some (.ref x),some (.ref y),some (.ref l),v4]/\Zfh Hx l tab/\tab.length=T'.length/\FrL H Hx l/\(∀v:Nat,(v:Int)∈ps.take k->Zbk T' ts tab v)/\Exc l H3 Hx) ⟨none,tab0,rfl,TB.same s3,htl,(by obtain⟨as,h1,h2⟩:=FB;exact⟨as,s3 _ _ h1,λa ha=>s1.free (h2 a ha)⟩),(λv h=>absurd h (by simp)),(Zd.refl H3).Zjg⟩ (λk σ Hx _ ⟨_,_,_,_,_,_,_,e⟩=>SqL.of (e _ _ nlo ho)) ?_ ?_
 .rintro k w σ Hx hw ⟨v4,tab,rfl,TBx,htx,FBx,hdone,ex⟩
  obtain⟨v,rfl,hpk,hvT⟩:∃v:Nat,w=V.int (v:Int)/\ps[k]?=some (v:Int)/\v<T'.length:=by
   rw[YE]at hw
   cases e:ps[k]? with
   |none=>rw[e]at hw;cases hw
   |some u =>
    rw[e]at hw;cases hw
    obtain⟨v,hv,rfl⟩:=YK.mp (hpm.mem_iff.mp (List.mem_of_getElem? e))
    exact⟨v,rfl,rfl,by have:=Yy.mp hv;omega⟩
  have hv0:(v:Int)∉ps.take k:=λz=>by
   obtain⟨m,hm,em⟩:=List.mem_take_iff_getElem.mp z
   obtain⟨hi,ei⟩:=Yw.mp hpk
   have:=(List.getElem_inj nd (h₀:= ⋯) (h₁:=hi)).mp (em.trans ei.symm)
   omega
  have kidT:∀c,c<T'.length->nth T' c=v->(c:Int)∈ps.take k:=λc hc e=>Zlf hT hpm hpw hpk hc e
  have kidV:∀c,c<T'.length->nth T' c=v->c≠v:=λc hc e z=>hv0 (z▸kidT c hc e)
  obtain⟨a,ea⟩:∃a,ys[v]?=some a:=⟨_,Yf ⋯⟩
  obtain⟨ah,bh,hA,hB,ha⟩:=hyp v a ea
  have nla:a≠l:=λz=>by rw[z,zl]at ha;cases ha
  have s3x:∀b u,b≠l->H1 b=some u->Hx b=some u:=λb u n e=>ex _ _ n ((s2.trans s3) _ _ e)
  have sHx:Zd H Hx:=s03.exc zl0 ex
  have kA:ZpZ tab ts.length ah:=by
   cases ah with
   |none=>trivial
   |some c=>exact⟨by have:=hA.2.1;omega,(hdone c (kidT c hA.2.1 hA.2.2)).1⟩
  have kB:ZpZ tab ts.length bh:=by
   cases bh with
   |none=>trivial
   |some c=>exact⟨by have:=hB.2.1;omega,(hdone c (kidT c hB.2.1 hB.2.2)).1⟩
  have hyx:Hx y=some (.lst (ys.map V.ref)):=s3x _ _ nly hys
  have hax:Hx a=some (.lst [optN ah,optN bh]):=s3x _ _ nla ha
  right
  refine⟨_,sHx.q hx,⋯,⋯,?_⟩
  rw[eX,show((ts.length:Nat):Int).toNat=ts.length by omega]
  refine ZaL (n:=ts.length) (λj acc Hz=>∃rs:List Pt,acc.length=j/\rs.length=j/\(∀(i:Nat) (u:V) (p:Pt),acc[i]?=some u->rs[i]?=some p->ZaZ Hz u p)/\(∀i,i<j->ZbO ts tab i ah bh (rs.getD i none))/\Zd Hx Hz) (YG (show _<=1000 by omega) nofun) ⟨[],rfl,rfl,(λi u p h=>by simp at h),(λi h=>absurd h ⋯),Zd.refl Hx⟩ (λj acc Hz _ hj=>hj) (λacc Hz _=>Yc _) ?_ ?_
  .rintro j u acc Hz Hw hj hla ⟨rs,hal,hrl,hpr,hru,sz⟩ ⟨rfl,rfl⟩
   rw[show(0:Int)+(j:Int)=((j:Nat):Int) by omega]
   right
   refine⟨_,SqL.of (sz _ _ hyx),V.ref a,Zf9 (by rw[YE,ea];rfl),x,l,a,ts,tab,ah,bh,j,rfl,(sHx.trans sz).q hx,TBx.same sz,sz _ _ hax,kA,kB,h16,hj,ZU.same hT2 (sHx.trans sz),ZU.same hT3 (sHx.trans sz),λu p H5 s5 hR hP=>CA.take hj hla ⟨by simp[hal],rs++[p],by simp[hrl],λi u' p' e1 e2=>?_,λi hi=>?_,sz.trans s5⟩⟩
   .by_cases c:i<j
    .rw[Y8 ⋯]at e1 e2
     exact(hpr i u' p' e1 e2).same s5
    .have h1:=(Yw.mp e1).1
     have:i=j:=by simp at h1;omega
     subst this
     rw[Y4 ⋯,hal,Nat.sub_self]at e1
     rw[Y4 ⋯,hrl,Nat.sub_self]at e2
     cases e1;cases e2;exact hP
   .by_cases c:i<j
    .rw[Yh,Y8 ⋯,<-Yh]
     exact hru i c
    .have:i=j:= ⋯
     subst this
     rw[Yh,Y4 ⋯,hrl,Nat.sub_self]
     exact hR
  .rintro r acc Hz ⟨rs,hal,hrl,hpr,hru,sz⟩ _ zr
   have gr:=(Zd.refl Hz).upd (o:=.lst acc) zr
   obtain⟨as,hla,hasn,hasl,hasp⟩:=TBx
   have hlz:=gr _ _ (sz _ _ hla)
   have hrr:=Zc (H:=Hz) (a:=r) (o:=.lst acc)
   have nrl:r≠l:=λz=>by rw[z,sz _ _ hla]at zr;cases zr
   have szr:=sz.trans gr
   generalize upd Hz r (.lst acc)=H6 at gr hlz hrr szr⊢
   refine⟨_,hlz,v,Zha (by rw[Yi];omega),tab.set v rs,⟨as.set v r,by rw[Zc,List.map_set],λz=>?_,by simp[hasl],λi b qs e1 e2=>?_⟩,by simp[htx],?_,λw hw=>?_,(ex.same szr).trans Exc.upd⟩
   .rcases List.mem_or_eq_of_mem_set z with z|z
    .exact hasn z
    .exact nrl z.symm
   .by_cases c:i=v
    .subst c
     rw[List.getElem?_set_self ⋯]at e1 e2
     cases e1;cases e2
     exact⟨acc,by rw[Zh nrl];exact hrr,⋯,λi u p f1 f2=>((hpr i u p f1 f2).same gr).excL hlz Exc.upd⟩
    .rw[List.getElem?_set_ne (Ne.symm c)]at e1 e2
     obtain⟨vals,g1,g2,g3⟩:=(hasp i b qs e1 e2).same szr
     have nb:b≠l:=λz=>hasn (z▸List.mem_of_getElem? e1)
     exact⟨vals,by rw[Zh nb];exact g1,g2,λi u p f1 f2=>(g3 i u p f1 f2).excL hlz Exc.upd⟩
   .obtain⟨as',f1,f2⟩:=FBx
    rw[hla]at f1
    have ea':as=as':=by
     have:=HO.lst.inj (YM f1)
     exact(List.map_inj_right (λ_ _ h=>V.ref.inj h)).mp this
    subst ea'
    refine⟨as.set v r,by rw[Zc,List.map_set],λb hb=>?_⟩
    rcases List.mem_or_eq_of_mem_set hb with hb|rfl
    .exact f2 b hb
    .exact(sHx.trans sz).free zr
   .rw[List.take_succ,hpk]at hw
    rcases YB.mp hw with hw|hw
    .refine(hdone w hw).set (λz=>hv0 (z▸hw)) λc hc e z=>?_
     obtain⟨m,hm,em⟩:=List.mem_take_iff_getElem.mp hw
     have:=Zlf hT hpm hpw (k:=m) (c:=c) (v:=w) (Yw.mpr ⟨⋯,em⟩) hc e
     obtain⟨m2,hm2,em2⟩:=List.mem_take_iff_getElem.mp this
     exact hv0 (z▸List.mem_take_iff_getElem.mpr ⟨m2,⋯,em2⟩)
    .have:w=v:=by simp at hw;omega
     subst this
     exact Zbk.new ⋯ hrl hA hB kidV hru
 .rintro σ Hx ⟨v4,tab,rfl,TBx,htx,FBx,hdone,ex⟩
  right
  refine k1 l tab Hx zl0 TBx FBx ⟨htx,λv hv=>hdone v ?_⟩ (s03.exc zl0 ex)
  rw[List.take_of_length_le (by simp)]
  exact hpm.mem_iff.mpr (YK.mpr ⟨v,Yy.mpr ⋯,rfl⟩)
theorem Zkr {f:Addr}{fd:FuncData} (F:Fun K "need_loose" "need_loose" ZaS f fd) (Zci:ZlS P w K mg base "need_numbers" 1 ["row","fewest"] [V.int 1] (Za3 K mg)) (T:Txt K mg):FnOk P w K mg base (CXE P w) 2 f fd ["row","text"] (ZdF K mg):=by
 refine F.okX Zkm (λvs H Q E h=>?_) (λcdv A outer s H vs Q E hr h=>?_)
 .obtain⟨r,x,ns,ts,rfl,_⟩:=h;rfl
 obtain⟨r,x,ns,ts,rfl,hr1,hx,h0,h6,h16,k1⟩:=h
 refine⟨_,(Ze (Zal (ZqC Zci (hr.mono nofun) rfl ZiS (Za (pv 0) Zb)))
   (Ze (Zaa (Zj Zfd (Zn (Zt (K:=K) rfl) rfl T.b_len YL (Za (pv 0) Zb)) (ZiP (v:=.int 6) rfl T.m_MOST_HELD ⟨_,rfl⟩) (Zl _)) (Zg (Zje rfl rfl T.c_TooMany T.x_TooMany (Za (ZhO (Zex nofun (ZlK (ZiP (v:=.int 6) rfl T.m_MOST_HELD ⟨_,rfl⟩) (Zex nofun ZnW)))) Zb) ZlL)) ZI)
   (Zg (Zaa (Zj Zfd (Zn (Zt (K:=K) rfl) rfl T.b_len YL (Za (pv 1) Zb)) (ZiP (v:=.int 16) rfl T.m_MOST_HOLDING ⟨_,rfl⟩) (Zl _)) (Zg (Zje rfl rfl T.c_TooMany T.x_TooMany (Za (ZhO (Zex nofun (ZlK (ZiP (v:=.int 16) rfl T.m_MOST_HOLDING ⟨_,rfl⟩) (Zex nofun ZnW)))) Zb) ZlL)) ZI)))),?_⟩
 right
 have e1:(ns.map V.int).length=ns.length:=Yi ..
 have e2:(ts.map V.int).length=ts.length:=Yi ..
 exact⟨r,ns,1,rfl,hr1,⋯,by decide,by decide,λ_=>⟨_,hr1,ZA (λz=>absurd z ⋯) λ_=>⟨_,hx,ZA (λz=>absurd z ⋯) λ_=>k1⟩⟩,λz=>absurd z ⋯⟩
theorem Zmd {f:Addr}{fd:FuncData} (F:Fun K "_law_hand" "_law_hand" Zbe f fd) (T:Txt K mg):FnOk P w K mg base (CXE P w) 1 f fd ["tree","place","later"] (ZeF K mg):=by
 refine F.okX Zhn (λvs H Q E h=>?_) (λcdv A outer s H vs Q E hr h=>?_)
 .obtain⟨t,T,v,lt,rfl,_⟩:=h;rfl
 obtain⟨t,T',v,lt,rfl,ht,hG,hv,k1⟩:=h
 refine⟨_,(Ze (Zas (i:=3) ["other","place","later","tree"] [none,some 1,some 2,some 0] Zhn.nd rfl (Or.inl rfl) rfl rfl rfl (ZM rfl T.b_range (Za (Zn (Zt (K:=K) rfl) rfl T.b_len YL (Za (pv 0) Zb)) Zb)) (λ_ _ _ _ _=>(Zm (i:=0) (show(["other","place","later","tree"]:List Str).Nodup from by decide +kernel) rfl (Or.inl rfl))) (λ_ _ _ _ _=>Z1 (PW.pt (ZcK (Zj Zgm (Zk (r:=Zfn K) ZF (pv 3) (pv 0) (λ_ _=>rfl)) (pv 1) (Zl _)) (Zco (Zj Zgm (Zeu Zfd (pv 0) (pv 1) (Zl _)) (pv 2) (Zl _)))))) (λ_ _ _ _ _=>(pv 0)) Zs)
   (Zg (Zz (Zk Zr (Zy (ZuV (K:=K) rfl) (pv 3) (ZZ (Za Zac Zb))) Zf (λ_ _=>rfl))))),?_⟩
 right
 have h40:=hG.1
 have eL:(T'.map V.int).length=T'.length:=Yi ..
 refine⟨_,.inr (SqT.of ht),⋯,⋯,?_⟩
 rw[eL,show((T'.length:Nat):Int).toNat=T'.length by omega]
 refine Zaw (n:=T'.length) (λo=>decide (nth T' o=v/\decide (v<o)=lt)) (λo=>V.int (o:Int)) (YG (show _<=1000 by omega) nofun) (λj Hz s hj=>hj) (λHz s=>Yc _) ?_ ?_
 .rintro j y Hz Hw hj sz ⟨rfl,rfl⟩
  rw[show(0:Int)+(j:Int)=((j:Nat):Int) by omega]
  right
  refine⟨_,SqT.of (sz _ _ ht),_,Z7 hj,rfl,ZA (λc1=>?_) λc1=>CF.skip hj (Yz λz=>c1 (by rw[z.1])) sz⟩
  have e1:nth T' j=v:=V.int.inj c1
  have e2:decide ((v:Int)<(j:Int))=decide (v<j):=decide_eq_decide.mpr ⋯
  rw[e2]
  exact ZA (λc2=>CF.take hj (Yt ⟨e1,c2⟩) rfl sz) λc2=>CF.skip hj (Yz λz=>c2 z.2) sz
 .intro lf Hz sz hlf
  have gl:=(Zd.refl Hz).upd (o:=.lst (((List.range T'.length).filter λo=>decide (nth T' o=v/\decide (v<o)=lt)).map λ(o:Nat)=>V.int (o:Int))) hlf
  have hlf2:=Zc (H:=Hz) (a:=lf) (o:=.lst (((List.range T'.length).filter λo=>decide (nth T' o=v/\decide (v<o)=lt)).map λ(o:Nat)=>V.int (o:Int)))
  have s1:=sz.trans gl
  generalize upd Hz lf (.lst (((List.range T'.length).filter λo=>decide (nth T' o=v/\decide (v<o)=lt)).map λ(o:Nat)=>V.int (o:Int)))=H1 at gl hlf2 s1⊢
  refine⟨by decide,λp zp=>?_⟩
  have g2:=(Zd.refl H1).upd (o:=.lst [V.non]) zp
  refine⟨lf,rfl,_,SqL.of (g2 _ _ hlf2),_,SqL.of Zc,Yr (show _<=1000 by
   have:=Jc (λo=>decide (nth T' o=v/\decide (v<o)=lt)) (List.range T'.length)
   rw[Y6]at this
   rw[Yi];simp only[YN,List.length_nil];omega) nofun,λp2 zp2=>?_⟩
  have g3:=(s1.trans g2).Zaj (o:=.lst ((((List.range T'.length).filter λo=>decide (nth T' o=v/\decide (v<o)=lt)).map λ(o:Nat)=>V.int (o:Int))++[V.non])) zp2
  refine⟨_,SqL.of Zc,?_⟩
  have nov:∀o,o<T'.length->nth T' o=v->o≠v:=λo ho e z=>by
   obtain⟨_,nsT,hT⟩:=id hG
   have eT:=hT.1
   have:=Zh3 hT (p:=o) ⋯ e
   rw[z]at this;omega
  have hmem:∀o:Nat,o∈((List.range T'.length).filter λo=>decide (nth T' o=v/\decide (v<o)=lt))↔o<T'.length/\nth T' o=v/\decide (v<o)=lt:=λo=>by rw[YQ,Yy,decide_eq_true_iff]
  cases hF:((List.range T'.length).filter λo=>decide (nth T' o=v/\decide (v<o)=lt))with
  |nil =>
   rw[hF]at hmem
   rw[hF]at g3
   refine⟨V.non,rfl,k1 none _ (λhl c c1 c2 e=>?_) (λhl c c1 c2 e=>?_) g3⟩
   .exact absurd ((hmem c).mpr ⟨c2,e,by rw[hl];exact Yz ⋯⟩) (by simp)
   .exact absurd ((hmem c).mpr ⟨c2,e,by rw[hl];exact Yt c1⟩) (by simp)
  |cons o os =>
   rw[hF]at hmem
   rw[hF]at g3
   obtain⟨o1,o2,o3⟩:=(hmem o).mp Yv
   refine⟨V.int (o:Int),ZgC (j:=0) rfl (by simp),k1 (some o) _ (λhl=>⟨?_,o1,o2⟩) (λhl=>⟨?_,o1,o2⟩) g3⟩
   .have:=nov o o1 o2
    rw[hl]at o3
    have:=of_decide_eq_false o3
    omega
   .rw[hl]at o3
    exact YT o3
theorem Zks {f:Addr}{fd:FuncData} (F:Fun K "_law_under" "_law_under" ZaV f fd) (ZfK:Callee P w K mg base "_law_over" 1 ["tree","place"] (ZeE K mg)) (T:Txt K mg):FnOk P w K mg base (CXE P w) 2 f fd ["tree","place"] (ZdI K mg):=by
 refine F.okX Zkn (λvs H Q E h=>?_) (λcdv A outer s H vs Q E hr h=>?_)
 .obtain⟨t,T,v,rfl,_⟩:=h;rfl
 obtain⟨t,T',v,rfl,ht,hG,k1⟩:=h
 refine⟨_,(Zg (Zz (Z2 ["other","place","tree"] [none,some 1,some 0] rfl rfl rfl (ZM rfl T.b_range (Za (Zn (Zt (K:=K) rfl) rfl T.b_len YL (Za (pv 0) Zb)) Zb)) (λ_ _ _ _ _=>(Zm (i:=0) (show(["other","place","tree"]:List Str).Nodup from by decide +kernel) rfl (Or.inl rfl))) (λ_ _ _ _ _=>Z1 (PW.pt (ZkH (Zj Zgm (pv 0) (pv 1) (Zl _)) (Zi6 (Zj (op_inK (K:=K) rfl) (pv 1) (Zi ZfK (hr.mono nofun) rfl ZC (Za (pv 2) (Za (pv 0) Zb))) (by with_unfolding_all rfl)))))) (λ_ _ _ _ _=>(pv 0)) Zs))),?_⟩
 right
 have h40:=hG.1
 obtain⟨_,nsT,hT⟩:=id hG
 have eL:(T'.map V.int).length=T'.length:=Yi ..
 refine⟨_,.inr (SqT.of ht),⋯,⋯,?_⟩
 rw[eL,show((T'.length:Nat):Int).toNat=T'.length by omega]
 refine Zaw (n:=T'.length) (λo=>decide (o=v\/v∈way T' o)) (λo=>V.int (o:Int)) (YG (show _<=1000 by omega) nofun) (λj Hz s hj=>hj) (λHz s=>Yc _) ?_ ?_
 .rintro j y Hz Hw hj sz ⟨rfl,rfl⟩
  rw[show(0:Int)+(j:Int)=((j:Nat):Int) by omega]
  right
  refine ZA (λc=>CF.take hj (Yt (.inl ⋯)) rfl sz) λc=>⟨t,T',j,rfl,sz _ _ ht,⋯,hj,Zod hT hj,λw H2 zw s2 hw=>⟨w,rfl,_,.inl (SqL.of hw),rfl,ZqA _,?_⟩⟩
  rw[ZuN]
  have ew:(v:Int)∈Zqz T' j↔v∈way T' j:=by
   rw[Zhc,YK]
   exact⟨λ⟨q,hq,e⟩=>by rw[<-show q=v by omega];exact hq,λh=>⟨v,h,rfl⟩⟩
  exact ZA (λc2=>CF.take hj (Yt (.inr (ew.mp (YT c2)))) rfl (sz.trans s2)) λc2=>CF.skip hj (Yz λz=>z.elim (λy=>c ⋯) λy=>c2 (Yt (ew.mpr y))) (sz.trans s2)
 .intro lf Hz sz hlf
  exact k1 lf _ _ (sz.free hlf) Zc ⟨by rw[Yi];rfl,by unfold unL;rw[Je];rfl⟩ (sz.Zaj hlf)
theorem Zkt {f:Addr}{fd:FuncData} (F:Fun K "_law_ruled" "_law_ruled" ZaW f fd) (Zdl:Callee P w K mg base "_law_hand" 1 ["tree","place","later"] (ZeF K mg)) (T:Txt K mg):FnOk P w K mg base (CXE P w) 2 f fd ["tree","text","table","place","at"] (ZdH K mg):=by
 refine F.okX ZN (λvs H Q E h=>?_) (λcdv A outer s H vs Q E hr h=>?_)
 .obtain⟨t,x,l,T,ts,tab,v,i,rfl,_⟩:=h;rfl
 obtain⟨t,x,l,T',ts,tab,v,i,rfl,ht,hx,hl,hG,hv,hi,h16,hk,k1⟩:=h
 refine⟨_,(Ze (Zu (i:=5) ZN.nd rfl (Or.inl rfl) (ZZ (Za (pv 4) Zb)))
   (Ze (Zu (i:=6) ZN.nd rfl (Or.inl rfl) (ZZ (Za (pv 4) Zb)))
   (Ze (Zu (i:=7) ZN.nd rfl (Or.inr rfl) (Zi Zdl (hr.mono nofun) rfl ZC (Za (pv 0) (Za (pv 3) (Za Zi4 Zb)))))
   (Ze (Zu (i:=8) ZN.nd rfl (Or.inr rfl) (Zi Zdl (hr.mono nofun) rfl ZC (Za (pv 0) (Za (pv 3) (Za Zi4 Zb)))))
   (Ze (Zaa (Zj ZbM (pv 7) Zac (Zl _)) (Ze (Zas (i:=9) ["j","table","ahead","text","at"] [none,some 2,some 7,some 1,some 4] ZN.nd rfl (Or.inl rfl) rfl rfl rfl (ZM rfl T.b_range (Za (pv 4) Zb)) (λ_ _ _ _ _=>(Zm (i:=0) (show(["j","table","ahead","text","at"]:List Str).Nodup from by decide +kernel) rfl (Or.inl rfl))) (λ_ _ _ _ _=>Z1 (PW.pt (ZcK (Zj Zfd (Zk (r:=ZdB K) Zr (pv 3) (pv 0) (λ_ _=>rfl)) (Zk (r:=ZdB K) Zr (pv 3) (pv 4) (λ_ _=>rfl)) (Zl _)) (Zco (Zj ZbM (Zk (r:=ZdB K) Zr (Zk (r:=ZdB K) Zr (pv 1) (pv 2) (λ_ _=>rfl)) (pv 0) (λ_ _=>rfl)) Zac (Zl _)))))) (λ_ _ _ _ _=>(Zk (r:=ZdB K) Zr (Zk (r:=ZdB K) Zr (pv 1) (pv 2) (λ_ _=>rfl)) (pv 0) (λ_ _=>rfl))) Zs)
   (Zg (Zas (i:=5) ["pair","at"] [none,some 4] ZN.nd rfl (Or.inl rfl) rfl rfl rfl (Zam (pv 9)) (λ_ _ _ _ _=>(Zm (i:=0) (show(["pair","at"]:List Str).Nodup from by decide +kernel) rfl (Or.inl rfl))) (λ_ _ _ _ _=>Z1 (Zj Zg6 (Zk (r:=Zfn K) ZF (pv 0) Zf (λ_ _=>rfl)) (pv 1) (Zl _))) (λ_ _ _ _ _=>(Zk (r:=Zfn K) ZF (pv 0) Zf (λ_ _=>rfl))) Zs))) ZI)
   (Ze (Zaa (Zj ZbM (pv 8) Zac (Zl _)) (Ze (Zas (i:=9) ["j","table","behind","text","at"] [none,some 2,some 8,some 1,some 4] ZN.nd rfl (Or.inl rfl) rfl rfl rfl (Zf8 rfl T.b_range (Za (Zy Zcd (pv 4) Zf) (Za (Zn (Zt (K:=K) rfl) rfl T.b_len YL (Za (pv 1) Zb)) Zb))) (λ_ _ _ _ _=>(Zm (i:=0) (show(["j","table","behind","text","at"]:List Str).Nodup from by decide +kernel) rfl (Or.inl rfl))) (λ_ _ _ _ _=>Z1 (Zj ZmB (Zk (r:=ZdB K) Zr (pv 3) (pv 0) (λ_ _=>rfl)) (Zk (r:=ZdB K) Zr (pv 3) (pv 4) (λ_ _=>rfl)) (Zl _))) (λ_ _ _ _ _=>(Zk (r:=ZdB K) Zr (Zk (r:=ZdB K) Zr (pv 1) (pv 2) (λ_ _=>rfl)) (pv 0) (λ_ _=>rfl))) Zs)
   (Zg (Zas (i:=6) ["pair","at"] [none,some 4] ZN.nd rfl (Or.inl rfl) rfl rfl rfl (Zam (pv 9)) (λ_ _ _ _ _=>(Zm (i:=0) (show(["pair","at"]:List Str).Nodup from by decide +kernel) rfl (Or.inl rfl))) (λ_ _ _ _ _=>Z1 (PW.pt (ZcK (Zj ZbM (pv 0) Zac (Zl _)) (Zco (Zj Zfd (Zk (r:=Zfn K) ZF (pv 0) Zf (λ_ _=>rfl)) (pv 1) (Zl _)))))) (λ_ _ _ _ _=>(Zk (r:=Zfn K) ZF (pv 0) Zf (λ_ _=>rfl))) Zs))) ZI)
   (Ze (Zaa (PW.pt (ZkH (Zj (Zfu (K:=K) rfl hr) (pv 5) (ZZ Zb) (Zl _)) (Zi6 (Zj (Zfu (K:=K) rfl hr) (pv 6) (ZZ Zb) (Zl _))))) (Zg (Zz Zac)) ZI)
   (Zg (Zz (ZdA (Za (Zn (ZqF rfl) rfl T.b_max ZnX (Za (pv 5) Zb)) (Za (Zn (Zqu rfl) rfl T.b_min ZnY (Za (pv 6) Zb)) Zb)))))))))))),?_⟩
 have eX:(ts.map V.int).length=ts.length:=Yi ..
 refine ZaP (fun σ Hx=>∃fa,σ=[some (.ref t),some (.ref x),some (.ref l),some (.int (v:Int)),some (.int (i:Int)),some (.ref fa),none,none,none,none]/\Hx fa=some (.lst ([(i:Int)].map V.int))/\Zd H Hx) (λR hR=>?_) ?_
 .right
  exact⟨by decide,λq zq=>hR _ _ ⟨q,rfl,Zc,(Zd.refl H).upd zq⟩⟩
 rintro σ H1 ⟨fa,rfl,hfa,s1⟩
 refine ZaP (fun σ Hx=>∃la,σ=[some (.ref t),some (.ref x),some (.ref l),some (.int (v:Int)),some (.int (i:Int)),some (.ref fa),some (.ref la),none,none,none]/\Hx la=some (.lst ([(i:Int)].map V.int))/\Zd H1 Hx) (λR hR=>?_) ?_
 .right
  exact⟨by decide,λq zq=>hR _ _ ⟨q,rfl,Zc,(Zd.refl H1).upd zq⟩⟩
 rintro σ H2 ⟨la,rfl,hla,s2⟩
 replace hfa:=s2 _ _ hfa
 replace s1:=s1.trans s2
 clear s2 H1
 refine ZaP (fun σ Hx=>∃ah,σ=[some (.ref t),some (.ref x),some (.ref l),some (.int (v:Int)),some (.int (i:Int)),some (.ref fa),some (.ref la),some (optN ah),none,none]/\Zab T' v ah/\Zd H2 Hx) (λR hR=>?_) ?_
 .right
  exact⟨t,T',v,false,rfl,s1 _ _ ht,hG,hv,λo H3 a1 _ s3=>hR _ _ ⟨o,rfl,a1 rfl,s3⟩⟩
 rintro σ H3 ⟨ah,rfl,hA,s3⟩
 refine ZaP (fun σ Hx=>∃bh,σ=[some (.ref t),some (.ref x),some (.ref l),some (.int (v:Int)),some (.int (i:Int)),some (.ref fa),some (.ref la),some (optN ah),some (optN bh),none]/\ZT T' v bh/\Zd H3 Hx) (λR hR=>?_) ?_
 .right
  exact⟨t,T',v,true,rfl,(s1.trans s3) _ _ ht,hG,hv,λo H4 _ a2 s4=>hR _ _ ⟨o,rfl,a2 rfl,s4⟩⟩
 rintro σ H4 ⟨bh,rfl,hB,s4⟩
 replace hfa:=s4 _ _ (s3 _ _ hfa)
 replace hla:=s4 _ _ (s3 _ _ hla)
 replace s1:=s1.trans (s3.trans s4)
 clear s3 s4 H2 H3
 refine ZaP (fun σ Hx=>∃fb fs v9,σ=[some (.ref t),some (.ref x),some (.ref l),some (.int (v:Int)),some (.int (i:Int)),some (.ref fb),some (.ref la),some (optN ah),some (optN bh),v9]/\Hx fb=some (.lst (fs.map V.int))/\fs.length<=16/\FsOk ts tab i ah fs/\Zd H4 Hx) (λR hR=>?_) ?_
 .right
  cases ah with
  |none=>exact ZA (λz=>absurd rfl z) λ_=>hR _ _ ⟨fa,_,none,rfl,hfa,by simp,rfl,Zd.refl H4⟩
  |some c =>
   refine ZA (λ_=>?_) λz=>absurd (λy=>nomatch y) z
   obtain⟨c1,c2,c3⟩:=hA
   obtain⟨hc,hcl⟩:=hk c c2 c3
   obtain⟨as,l1,_,l3,l4⟩:=hl.same s1
   obtain⟨a,ea,ha⟩:=ZiZ l3 l4 hc
   obtain⟨vals,p1,p2,p3⟩:=ha
   have hx4:=s1 _ _ hx
   refine⟨⋯,⋯,?_⟩
   rw[show((i:Nat):Int).toNat=i by omega]
   refine Zaw (n:=i) (λj=>decide (nth ts i<nth ts j/\((tab.getD c []).getD j none).isSome=true)) (λj=>vals.getD j .non) (YG (show _<=1000 by omega) nofun) (λj Hz s hj=>hj) (λHz s=>Yc _) ?_ ?_
   .rintro j y Hz Hw hj sz ⟨rfl,rfl⟩
    rw[show(0:Int)+(j:Int)=((j:Nat):Int) by omega]
    right
    obtain⟨w,ew,hw⟩:=ZdL p2 p3 (show j<(tab.getD c []).length by omega)
    have hw':=hw.same sz
    have evg:=Zi0 ew
    refine⟨_,SqL.of (sz _ _ hx4),_,Z7 ⋯,_,SqL.of (sz _ _ hx4),_,Z7 ⋯,_,rfl,_,rfl,ZA (λc1=>?_) λc1=>CF.skip hj (Yz λz=>c1 z.1) sz⟩
    refine⟨_,_,rfl,SqL.of (sz _ _ l1),_,ea,a,rfl,_,SqL.of (sz _ _ p1),_,ew,ZA (λc2=>⟨_,_,rfl,SqL.of (sz _ _ l1),_,ea,a,rfl,_,SqL.of (sz _ _ p1),_,ew,CF.take hj (Yt ⟨c1,?_⟩) evg.symm sz⟩) λc2=>CF.skip hj (Yz λz=>?_) sz⟩
    .cases e:((tab.getD c []).getD j none).isSome with
     |true=>rfl
     |false=>exact absurd ((ZfH hw').mpr e) c2
    .have z1:=z.2
     rw[(ZfH hw').mp (Decidable.of_not_not c2)]at z1
     cases z1
   .intro lf Hz sz hlf
    have hjs:∀j,j∈((List.range i).filter λj=>decide (nth ts i<nth ts j/\((tab.getD c []).getD j none).isSome=true))↔j<i/\nth ts i<nth ts j/\((tab.getD c []).getD j none).isSome=true:=λj=>by
     rw[YQ,Yy,decide_eq_true_iff]
    have hjl:((List.range i).filter λj=>decide (nth ts i<nth ts j/\((tab.getD c []).getD j none).isSome=true)).length<=i:=by
     have:=Jc (λj=>decide (nth ts i<nth ts j/\((tab.getD c []).getD j none).isSome=true)) (List.range i)
     rwa [Y6]at this
    generalize ((List.range i).filter λj=>decide (nth ts i<nth ts j/\((tab.getD c []).getD j none).isSome=true))=js at hjs hjl⊢
    have g1:=sz.Zaj (o:=.lst (js.map λj=>vals.getD j .non)) hlf
    have h1:=Zc (H:=Hz) (a:=lf) (o:=.lst (js.map λj=>vals.getD j .non))
    generalize upd Hz lf (.lst (js.map λj=>vals.getD j .non))=H5 at g1 h1⊢
    refine⟨lf,rfl,⟨_,SqL.of h1⟩,?_⟩
    refine Zaw (n:=js.length) (λk=>decide ((ZV (tab.getD c []) (js.getD k 0)).2<i)) (λk=>V.int (ZV (tab.getD c []) (js.getD k 0)).1) (YG (show _<=1000 by omega) nofun) (λk Hz s hk=>⟨_,_,SqL.of (s _ _ h1),Yf (by simpa using hk)⟩) (λHz s=>⟨_,SqL.of (s _ _ h1),by simp⟩) ?_ ?_
    .rintro k y Hz Hw hk sz ⟨rfl,hy⟩
     have ey:=hy _ (SqL.of (sz _ _ h1))
     rw[YE,Yf hk]at ey
     cases ey
     have ejk:js.getD k 0=js[k]:=by rw[Yh,Yf hk];rfl
     obtain⟨q1,q2,q3⟩:=(hjs js[k]).mp (YF hk)
     obtain⟨w,ew,hw⟩:=ZdL p2 p3 (show js[k]<(tab.getD c []).length by omega)
     have eb:(λj=>vals.getD j V.non) js[k]=w:=Zi0 ew
     rw[eb]
     obtain⟨b,rfl,hb⟩:=Zdj (hw.same (g1.trans sz)) q3
     right
     refine⟨_,SqT.of hb,_,rfl,_,rfl,?_⟩
     rw[<-ejk]at hb⊢
     exact ZA (λc2=>⟨_,SqT.of hb,_,rfl,CF.take hk (Yt c2) rfl sz⟩) λc2=>CF.skip hk (Yz c2) sz
    .intro lg Hw sw hlg
     have e:(((List.range js.length).filter λk=>decide ((ZV (tab.getD c []) (js.getD k 0)).2<i)).map λk=>V.int (ZV (tab.getD c []) (js.getD k 0)).1)=(((List.range js.length).filter λk=>decide ((ZV (tab.getD c []) (js.getD k 0)).2<i)).map λk=>(ZV (tab.getD c []) (js.getD k 0)).1).map V.int:=by rw[Je];rfl
     rw[e]
     refine hR _ _ ⟨lg,_,_,rfl,Zc,?_,λy=>?_,g1.trans (sw.Zaj hlg)⟩
     .have:=Jc (λk=>decide ((ZV (tab.getD c []) (js.getD k 0)).2<i)) (List.range js.length)
      rw[Y6]at this
      rw[Yi];omega
     .rw[YK]
      constructor
      .rintro⟨k,hk,rfl⟩
       obtain⟨k1',k2'⟩:=YQ.mp hk
       have k3:=Yy.mp k1'
       have ejk:js.getD k 0=js[k]:=by rw[Yh,Yf k3];rfl
       obtain⟨q1,q2,q3⟩:=(hjs js[k]).mp (YF k3)
       rw[ejk]at k2'⊢
       exact⟨js[k],⟨q1,q3,q2,YT k2'⟩,rfl⟩
      .rintro⟨j,⟨f1,f2,f3,f4⟩,rfl⟩
       obtain⟨k,hk,ek⟩:=List.mem_iff_getElem.mp ((hjs j).mpr ⟨f1,f3,f2⟩)
       have ejk:js.getD k 0=j:=by rw[Yh,Yf hk];exact ek
       exact⟨k,YQ.mpr ⟨Yy.mpr hk,Yt (by rw[ejk];exact f4)⟩,by rw[ejk]⟩
 rintro σ H5 ⟨fb,fs,v9,rfl,hfb,hfl,hFs,s5⟩
 replace hla:=s5 _ _ hla
 replace s1:=s1.trans s5
 clear hfa s5 H4
 refine ZaP (fun σ Hx=>∃lb ls v9,σ=[some (.ref t),some (.ref x),some (.ref l),some (.int (v:Int)),some (.int (i:Int)),some (.ref fb),some (.ref lb),some (optN ah),some (optN bh),v9]/\Hx lb=some (.lst (ls.map V.int))/\ls.length<=16/\LsOk ts tab i bh ls/\Zd H5 Hx) (λR hR=>?_) ?_
 .right
  cases bh with
  |none=>exact ZA (λz=>absurd rfl z) λ_=>hR _ _ ⟨la,_,_,rfl,hla,by simp,rfl,Zd.refl H5⟩
  |some c =>
   refine ZA (λ_=>?_) λz=>absurd (λy=>nomatch y) z
   obtain⟨c1,c2,c3⟩:=hB
   obtain⟨hc,hcl⟩:=hk c c2 c3
   obtain⟨as,l1,_,l3,l4⟩:=hl.same s1
   obtain⟨a,ea,ha⟩:=ZiZ l3 l4 hc
   obtain⟨vals,p1,p2,p3⟩:=ha
   have hx4:=s1 _ _ hx
   refine⟨_,.inl (SqL.of hx4),⋯,⋯,⋯,⋯,?_⟩
   rw[eX,show((ts.length:Int)-((i:Int)+1)).toNat=ts.length-(i+1) by omega]
   refine Zaw (n:=ts.length-(i+1)) (λk=>decide (nth ts i<=nth ts (i+1+k))) (λk=>vals.getD (i+1+k) .non) (YG (show _<=1000 by omega) nofun) (λj Hz s hj=>hj) (λHz s=>Yc _) ?_ ?_
   .rintro k y Hz Hw hk' sz ⟨rfl,rfl⟩
    rw[show(i:Int)+1+(k:Int)=((i+1+k:Nat):Int) by omega]
    right
    obtain⟨w,ew,hw⟩:=ZdL p2 p3 (show i+1+k<(tab.getD c []).length by omega)
    have evg:=Zi0 ew
    refine⟨_,SqL.of (sz _ _ hx4),_,Z7 ⋯,_,SqL.of (sz _ _ hx4),_,Z7 ⋯,_,rfl,_,rfl,ZA (λc1=>?_) λc1=>CF.skip hk' (Yz c1) sz⟩
    exact⟨_,_,rfl,SqL.of (sz _ _ l1),_,ea,a,rfl,_,SqL.of (sz _ _ p1),_,ew,CF.take hk' (Yt c1) evg.symm sz⟩
   .intro lf Hz sz hlf
    have eJ:(((List.range (ts.length-(i+1))).filter λk=>decide (nth ts i<=nth ts (i+1+k))).map λk=>vals.getD (i+1+k) V.non)=(((List.range (ts.length-(i+1))).filter λk=>decide (nth ts i<=nth ts (i+1+k))).map λk=>i+1+k).map λj=>vals.getD j V.non:=by rw[Je];rfl
    rw[eJ]
    have hjs:∀j,j∈(((List.range (ts.length-(i+1))).filter λk=>decide (nth ts i<=nth ts (i+1+k))).map λk=>i+1+k)↔i<j/\j<ts.length/\nth ts i<=nth ts j:=λj=>by
     rw[YK]
     constructor
     .rintro⟨k,hk',rfl⟩
      obtain⟨z1,z2⟩:=YQ.mp hk'
      have:=Yy.mp z1
      exact⟨⋯,⋯,YT z2⟩
     .rintro⟨z1,z2,z3⟩
      refine⟨j-(i+1),YQ.mpr ⟨Yy.mpr ⋯,Yt ?_⟩,⋯⟩
      rw[show i+1+(j-(i+1))=j by omega];exact z3
    have hjl:(((List.range (ts.length-(i+1))).filter λk=>decide (nth ts i<=nth ts (i+1+k))).map λk=>i+1+k).length<=16:=by
     have:=Jc (λk=>decide (nth ts i<=nth ts (i+1+k))) (List.range (ts.length-(i+1)))
     rw[Y6]at this
     rw[Yi];omega
    generalize (((List.range (ts.length-(i+1))).filter λk=>decide (nth ts i<=nth ts (i+1+k))).map λk=>i+1+k)=js at hjs hjl⊢
    have g1:=sz.Zaj (o:=.lst (js.map λj=>vals.getD j .non)) hlf
    have h1:=Zc (H:=Hz) (a:=lf) (o:=.lst (js.map λj=>vals.getD j .non))
    generalize upd Hz lf (.lst (js.map λj=>vals.getD j .non))=H6 at g1 h1⊢
    refine⟨lf,rfl,⟨_,SqL.of h1⟩,?_⟩
    refine Zaw (n:=js.length) (λk=>decide (((tab.getD c []).getD (js.getD k 0) none).isSome=true/\(i:Int)<(ZV (tab.getD c []) (js.getD k 0)).1)) (λk=>V.int (ZV (tab.getD c []) (js.getD k 0)).2) (YG (show _<=1000 by omega) nofun) (λk Hz s hk=>⟨_,_,SqL.of (s _ _ h1),Yf (by simpa using hk)⟩) (λHz s=>⟨_,SqL.of (s _ _ h1),by simp⟩) ?_ ?_
    .rintro k y Hz Hw hk sz ⟨rfl,hy⟩
     have ey:=hy _ (SqL.of (sz _ _ h1))
     rw[YE,Yf hk]at ey
     cases ey
     have ejk:js.getD k 0=js[k]:=by rw[Yh,Yf hk];rfl
     obtain⟨q1,q2,q3⟩:=(hjs js[k]).mp (YF hk)
     obtain⟨w,ew,hw⟩:=ZdL p2 p3 (show js[k]<(tab.getD c []).length by omega)
     have eb:(λj=>vals.getD j V.non) js[k]=w:=Zi0 ew
     rw[eb]
     have hw':=hw.same (g1.trans sz)
     right
     refine ZA (λc2=>?_) λc2=>CF.skip hk (Yz λz=>?_) sz
     .have hs:((tab.getD c []).getD js[k] none).isSome=true:=by
       cases e:((tab.getD c []).getD js[k] none).isSome with
       |true=>rfl
       |false=>exact absurd ((ZfH hw').mpr e) c2
      obtain⟨b,rfl,hb⟩:=Zdj hw' hs
      refine⟨b,rfl,_,SqT.of hb,_,rfl,_,rfl,?_⟩
      rw[<-ejk]at hb hs⊢
      exact ZA (λc3=>⟨b,rfl,_,SqT.of hb,_,rfl,CF.take hk (Yt ⟨hs,c3⟩) rfl sz⟩) λc3=>CF.skip hk (Yz λz=>c3 z.2) sz
     .have z1:=z.1
      rw[ejk,(ZfH hw').mp (Decidable.of_not_not c2)]at z1
      cases z1
    .intro lg Hw sw hlg
     have e:(((List.range js.length).filter λk=>decide (((tab.getD c []).getD (js.getD k 0) none).isSome=true/\(i:Int)<(ZV (tab.getD c []) (js.getD k 0)).1)).map λk=>V.int (ZV (tab.getD c []) (js.getD k 0)).2)=(((List.range js.length).filter λk=>decide (((tab.getD c []).getD (js.getD k 0) none).isSome=true/\(i:Int)<(ZV (tab.getD c []) (js.getD k 0)).1)).map λk=>(ZV (tab.getD c []) (js.getD k 0)).2).map V.int:=by rw[Je];rfl
     rw[e]
     refine hR _ _ ⟨lg,_,_,rfl,Zc,?_,λy=>?_,g1.trans (sw.Zaj hlg)⟩
     .have:=Jc (λk=>decide (((tab.getD c []).getD (js.getD k 0) none).isSome=true/\(i:Int)<(ZV (tab.getD c []) (js.getD k 0)).1)) (List.range js.length)
      rw[Y6]at this
      rw[Yi];omega
     .rw[YK]
      constructor
      .rintro⟨k,hk,rfl⟩
       obtain⟨k1',k2'⟩:=YQ.mp hk
       have k3:=Yy.mp k1'
       have ejk:js.getD k 0=js[k]:=by rw[Yh,Yf k3];rfl
       obtain⟨q1,q2,q3⟩:=(hjs js[k]).mp (YF k3)
       rw[ejk]at k2'⊢
       have k4:=YT k2'
       exact⟨js[k],⟨q1,q2,k4.1,q3,k4.2⟩,rfl⟩
      .rintro⟨j,⟨f1,f2,f3,f4,f5⟩,rfl⟩
       obtain⟨k,hk,ek⟩:=List.mem_iff_getElem.mp ((hjs j).mpr ⟨f1,f2,f4⟩)
       have ejk:js.getD k 0=j:=by rw[Yh,Yf hk];exact ek
       exact⟨k,YQ.mpr ⟨Yy.mpr hk,Yt (by rw[ejk];exact⟨f3,f5⟩)⟩,by rw[ejk]⟩
 rintro σ H6 ⟨lb,ls,v9,rfl,hlb,hll,hLs,s6⟩
 replace hfb:=s6 _ _ hfb
 replace s1:=s1.trans s6
 clear hla s6 H5
 right
 refine⟨Yq _,λp zp=>?_⟩
 have g1:=(Zd.refl H6).upd (o:=.lst []) zp
 refine⟨_,Zk0 (g1 _ _ hfb) Zc,ZA (λz=>?_) λz=>⟨Yq _,λp2 zp2=>?_⟩⟩
 .have e:fs=[]:=by simpa using z
  subst e
  obtain⟨b,hb⟩:=Zmc ts tab i bh
  exact k1 .non none ah bh _ hA hB ⟨none,b,Zu7 hFs,hb,Zle.symm⟩ rfl (s1.trans g1)
 have nf:fs≠[]:=by simpa using z
 have g2:=(Zd.refl (upd H6 p (.lst []))).upd (o:=.lst []) zp2
 have gA:=g1.trans g2
 refine⟨_,Zk0 (gA _ _ hlb) Zc,ZA (λz=>?_) λz=>?_⟩
 .have e:ls=[]:=by simpa using z
  subst e
  obtain⟨a,ha⟩:=Znm ts tab i ah
  exact k1 .non none ah bh _ hA hB ⟨a,none,ha,Zu9 hLs,ZoG.symm⟩ rfl (s1.trans gA)
 have nl:ls≠[]:=by simpa using z
 refine⟨fs,SqL.of (gA _ _ hfb),nf,λm hm hmx=>⟨ls,SqL.of (gA _ _ hlb),nl,λm2 hm2 hmx2=>⟨by decide,λq zq=>?_⟩⟩⟩
 exact k1 (.ref q) (some (m,m2)) ah bh _ hA hB ⟨some m,some m2,Zu8 hFs hm hmx,Zva hLs hm2 hmx2,rfl⟩ ⟨q,rfl,Zc⟩ ((s1.trans gA).Zaj zq)
theorem Zgp {α:Type}{p q:α->Bool}{a:α}:∀{l:List α},(∀x∈l,p x=true->q x=true)->a∈l->q a=true->p a=false->(l.filter p).length<(l.filter q).length
 |[],_,h,_,_=>absurd h (by simp)
 |b::l,hpq,h,h1,h2=>by
  have le:(l.filter p).length<=(l.filter q).length:=by
   clear h h1 h2 a
   induction l with
   |nil=>exact Yc _
   |cons c l ih =>
    have ih:=ih λx hx=>hpq x (by simp only[Yk]at hx⊢;rcases hx with z|z<;>simp[z])
    by_cases c1:p c=true
    .rw[List.filter_cons_of_pos c1,List.filter_cons_of_pos (hpq c (by simp) c1)];simpa using ih
    .rw[List.filter_cons_of_neg c1]
     by_cases c2:q c=true
     .rw[List.filter_cons_of_pos c2];simp only[YN];omega
     .rw[List.filter_cons_of_neg c2];exact ih
  rcases Yk.mp h with z|z
  .subst z
   rw[List.filter_cons_of_neg (by rw[h2];decide),List.filter_cons_of_pos h1];simp only[YN];omega
  .have ih:=Zgp (λx hx=>hpq x (Yu _ hx)) z h1 h2
   by_cases c1:p b=true
   .rw[List.filter_cons_of_pos c1,List.filter_cons_of_pos (hpq b (by simp) c1)];simpa using ih
   .rw[List.filter_cons_of_neg c1]
    by_cases c2:q b=true
    .rw[List.filter_cons_of_pos c2];simp only[YN];omega
    .rw[List.filter_cons_of_neg c2];exact ih
theorem Zvb {ns T:List Int} (hT:Zp ns T) {c v:Nat} (hc:c<T.length) (hv:v<T.length) (h:nth T c=v):unI T (c:Int)<unI T (v:Int):=by
 have eT:=hT.1
 have wc:=ZcQ hT (p:=c) ⋯ h
 have key:unN T c<unN T v:=by
  unfold unN
  refine Zgp (a:=v) (λo ho z=>?_) (Yy.mpr hv) (Yt (.inl rfl)) (Yz λz=>?_)
  .have ho:=Yy.mp ho
   refine Yt (.inr ?_)
   rcases YT z with z|z
   .subst z;rw[wc];simp
   .obtain⟨X,e⟩:=Zk1 hT _ o c ⋯ rfl z
    rw[e,wc];simp
  .rcases z with z|z
   .subst z
    have:=congrArg List.length wc
    simp at this
   .obtain⟨X,e⟩:=Zk1 hT _ v c ⋯ rfl z
    have:=congrArg List.length e
    rw[wc]at this
    simp at this
    omega
 unfold unI
 simp only[Jj]
 omega
theorem ZjK {ns T qs:List Int} (hT:Zp ns T) (hpm:qs.Perm (nats (T.length:Int))) (hpw:qs.Pairwise λx y=>unI T x<=unI T y) {k c v:Nat} (e:qs[k]?=some (v:Int)) (hc:c<T.length) (h:nth T c=v):(c:Int)∈qs.take k:=by
 have eT:=hT.1
 have hvm:=hpm.mem_iff.mp (List.mem_of_getElem? e)
 obtain⟨v',hv',ev'⟩:=YK.mp hvm
 have hvT:v<T.length:=by have:=Yy.mp hv';omega
 have hd:=Zvb hT hc hvT h
 have hm:(c:Int)∈qs:=hpm.mem_iff.mpr (YK.mpr ⟨c,Yy.mpr ⋯,rfl⟩)
 obtain⟨m,hm1,em⟩:=YZ hm
 obtain⟨hk,ek⟩:=Yw.mp e
 by_cases hlt:m<k
 .exact List.mem_take_iff_getElem.mpr ⟨m,⋯,em⟩
 .exfalso
  by_cases he:m=k
  .subst he
   rw[em]at ek
   rw[ek]at hd;omega
  .have:=List.pairwise_iff_getElem.mp hpw k m hk hm1 ⋯
   rw[em,ek]at this
   omega
theorem Zbk.newE {T ts:List Int}{tab:List (List Pt)}{v:Nat}{rs:List Pt} (hv:v<tab.length) (hl:rs.length=ts.length) (hk:∀c,c<T.length->nth T c=v->c≠v) (h:∀i,i<ts.length->∃ah bh,Zab T v ah/\ZT T v bh/\ZbO ts tab i ah bh (rs.getD i none)):Zbk T ts (tab.set v rs) v:=by
 unfold Zbk
 rw[Zlg hv]
 refine⟨hl,λi hi=>?_⟩
 obtain⟨ah,bh,hA,hB,hR⟩:=h i hi
 exact⟨ah,bh,hA,hB,Zh4 hA hB hk hR⟩
theorem Zku {f:Addr}{fd:FuncData} (F:Fun K "_law_table" "_law_table" ZaX f fd) (ZX:Callee P w K mg base "_law_tree" 2 ["row"] (Zbj K mg)) (ZeN:Callee P w K mg base "_law_under" 2 ["tree","place"] (ZdI K mg)) (ZeO:Callee P w K mg base "_law_ruled" 2 ["tree","text","table","place","at"] (ZdH K mg)) (L:ZlY K mg "_law_table" f) (B:BM mg base) (T:Txt K mg):FnOk P w K mg base (CXE P w) 6 f fd ["row","text"] (ZdJ K mg):=by
 refine F.okL L B ZbP (λvs H Q E h=>?_) (λcdv A outer s H vs Q E LI hr h=>?_)
 .obtain⟨t,x,T,ts,rfl,_⟩:=h;rfl
 obtain⟨r,x,ns,ts,rfl,hr0,hx,h6,h16,hTb,k1⟩:=h
 refine⟨_,(Ze (Zu (i:=2) ZbP.nd rfl (Or.inr rfl) (Zi ZX (hr.mono nofun) rfl ZC (Za (pv 0) Zb)))
   (Ze (Zu (i:=3) ZbP.nd rfl (Or.inr rfl) (Z2 ["place"] [none] rfl rfl rfl (Zam (pv 0)) (λ_ _ _ _ _=>(Zm (i:=0) (show(["place"]:List Str).Nodup from by decide +kernel) rfl (Or.inl rfl))) (λ_ _ _ _ _=>Zad) (λ_ _ _ _ _=>(ZZ Zb)) Zs))
   (Ze (ZbD (Zdz PassesOwn.never rfl (Zam (ZqJ (Nc:=["place","tree"]) (js:=[none,some 2]) (pn:="place") (q:=ZgH "_law_table") (P:=Zfo K mg "_law_table") rfl hr ⟨rfl,rfl,rfl,rfl,rfl,rfl,rfl,λ_ _ _ _ _ _=>rfl⟩ (λ_ _ _ _ _ _=>(Zn (Zt (K:=K) rfl) rfl T.b_len YL (Za (Zi ZeN ((hr.in1.in1.deeper _).mono nofun) rfl ZC (Za (pv 1) (Za (pv 0) Zb))) Zb))) rfl T.b_sorted (Za (ZkS rfl T.b_range (Za (Zn (Zt (K:=K) rfl) rfl T.b_len YL (Za (pv 0) Zb)) Zb)) Zb) (Zev (ZlV ⟨LI.code,LI.bm,LI.ql⟩ rfl) Zls))) (Zm (i:=4) ZbP.nd rfl (Or.inr rfl)) (Zg (Zet (Z2 ["at","tree","text","table","place"] [none,some 2,some 1,some 3,some 4] rfl rfl rfl (ZM rfl T.b_range (Za (Zn (Zt (K:=K) rfl) rfl T.b_len YL (Za (pv 1) Zb)) Zb)) (λ_ _ _ _ _=>(Zm (i:=0) (show(["at","tree","text","table","place"]:List Str).Nodup from by decide +kernel) rfl (Or.inl rfl))) (λ_ _ _ _ _=>Zad) (λ_ _ _ _ _=>(Zi ZeO (hr.mono nofun) rfl ZC (Za (pv 1) (Za (pv 2) (Za (pv 3) (Za (pv 4) (Za (pv 0) Zb))))))) Zs) (ZhI (pv 3) (pv 4) set_list (λ_=>rfl))))))
   (Zg (Zz (pv 3)))))),?_⟩
 have eX:(ts.map V.int).length=ts.length:=Yi ..
 have eN:(ns.map V.int).length=ns.length:=Yi ..
 right
 refine⟨r,ns,rfl,.inl (SqL.of hr0),⋯,.inl λt T' H1 hT s1 ht=>⟨⟨_,SqL.of (s1 _ _ hr0)⟩,?_⟩⟩
 have eT:=hT.1
 have hG:Zcm T':=⟨⋯,ns,hT⟩
 refine ZaL (n:=ns.length) (λj acc Hz=>∃as:List Addr,acc=as.map V.ref/\as.length=j/\(∀a∈as,Hz a=some (.lst []))/\Zd H1 Hz) (YG (show _<=1000 by omega) nofun) ⟨[],rfl,rfl,(λa ha=>absurd ha (by simp)),Zd.refl H1⟩ (λj acc Hz ⟨_,_,_,_,e⟩ hj=>⟨_,_,SqL.of ((s1.trans e) _ _ hr0),Znl hj⟩) (λacc Hz ⟨_,_,_,_,e⟩=>⟨_,SqL.of ((s1.trans e) _ _ hr0),Ji eN⟩) ?_ ?_
 .rintro j w acc Hz Hw hj hla ⟨as,rfl,hal,has,sz⟩ ⟨rfl,hx⟩
  right
  refine⟨Yq _,λp zp=>CA.take hj hla ⟨as++[p],by simp,by simp[hal],λa ha=>?_,sz.Zaj zp⟩⟩
  rcases YB.mp ha with z|z
  .exact((Zd.refl _).upd zp) _ _ (has a z)
  .have:a=p:=by simpa using z
   subst this
   exact Zc
 rintro l acc Hz ⟨as,rfl,hal,has,sz⟩ _ zl
 have gl:=(Zd.refl Hz).upd (o:=.lst (as.map V.ref)) zl
 have TB:Zfh (upd Hz l (.lst (as.map V.ref))) l (List.replicate T'.length []):=⟨as,Zc,(λz=>by rw[has _ z]at zl;cases zl),by simp[hal,eT],λi a ps e1 e2=>by
  have:ps=[]:=by
   rw[List.getElem?_replicate]at e2
   split at e2
   .cases e2;rfl
   .cases e2
  subst this
  exact⟨[],gl _ _ (has a (List.mem_of_getElem? e1)),rfl,λi v p h=>by simp at h⟩⟩
 have s2:=sz.trans gl
 have zl1:H1 l=none:=sz.free zl
 have htl:(List.replicate T'.length ([]:List Pt)).length=T'.length:=by simp
 generalize upd Hz l (.lst (as.map V.ref))=H2 at TB s2⊢
 generalize List.replicate T'.length ([]:List Pt)=tab0 at TB htl
 have s02:=s1.trans s2
 have zl0:H l=none:=s1.free zl1
 refine⟨_,.inl (SqL.of (s02 _ _ hr0)),⋯,⋯,λp1 hp1=>?_⟩
 rw[eN]
 have g1:=(Zd.refl H2).Zaj (o:=.rng 0 (ns.length:Int)) hp1
 have h1:=Zc (H:=H2) (a:=p1) (o:=.rng 0 (ns.length:Int))
 generalize upd H2 p1 (.rng 0 (ns.length:Int))=H4 at g1 h1⊢
 refine⟨g1 _ _ (s02 _ _ hTb),λf1 H5 zf s5 LO=>⟨_,s5 _ _ h1,⋯,⋯,LO,unI T',λi H6 i0 i1 s6=>?_,λps o H3 hpm hpw s6 zo ho=>?_⟩⟩
 .obtain⟨j,rfl⟩:=Jg i0
  have g6:=(g1.trans s5).trans s6
  exact⟨t,T',j,rfl,g6 _ _ (s2 _ _ ht),hG,λw us H7 zw hw hl s7=>⟨w,rfl,_,.inl (SqL.of hw),by rw[hl.1];rfl,s7⟩⟩
 have s3:Zd H2 H3:=(g1.trans s5).trans s6
 have s03:=s02.trans s3
 have nd:ps.Nodup:=hpm.nodup_iff.mpr (ZjI _)
 rw[show((ns.length:Nat):Int)=(T'.length:Int) by omega]at hpm
 obtain⟨as0,hla0,_⟩:=id TB
 have nlo:o≠l:=λz=>by rw[z,(g1.trans s5) _ _ hla0]at zo;cases zo
 refine⟨⟨_,SqL.of ho⟩,?_⟩
 refine ZmA (xs:=ps.map V.int) (λk σ Hx=>∃(v4:Option V) (tab:List (List Pt)),σ=[some (.ref r),some (.ref x),some (.ref t),some (.ref l),v4]/\Zfh Hx l tab/\tab.length=T'.length/\(∀v:Nat,(v:Int)∈ps.take k->Zbk T' ts tab v)/\Exc l H3 Hx) ⟨none,tab0,rfl,TB.same s3,htl,(λv h=>absurd h (by simp)),(Zd.refl H3).Zjg⟩ (λk σ Hx _ ⟨_,_,_,_,_,_,e⟩=>SqL.of (e _ _ nlo ho)) ?_ ?_
 .rintro k w σ Hx hw ⟨v4,tab,rfl,TBx,htx,hdone,ex⟩
  obtain⟨v,rfl,hpk,hvT⟩:∃v:Nat,w=V.int (v:Int)/\ps[k]?=some (v:Int)/\v<T'.length:=by
   rw[YE]at hw
   cases e:ps[k]? with
   |none=>rw[e]at hw;cases hw
   |some u =>
    rw[e]at hw;cases hw
    obtain⟨v,hv,rfl⟩:=YK.mp (hpm.mem_iff.mp (List.mem_of_getElem? e))
    exact⟨v,rfl,rfl,by have:=Yy.mp hv;omega⟩
  have hv0:(v:Int)∉ps.take k:=λz=>by
   obtain⟨m,hm,em⟩:=List.mem_take_iff_getElem.mp z
   obtain⟨hi,ei⟩:=Yw.mp hpk
   have:=(List.getElem_inj nd (h₀:= ⋯) (h₁:=hi)).mp (em.trans ei.symm)
   omega
  have kidT:∀c,c<T'.length->nth T' c=v->(c:Int)∈ps.take k:=λc hc e=>ZjK hT hpm hpw hpk hc e
  have kidV:∀c,c<T'.length->nth T' c=v->c≠v:=λc hc e z=>hv0 (z▸kidT c hc e)
  have sHx:Zd H Hx:=s03.exc zl0 ex
  have s1x:Zd H1 Hx:=(s2.trans s3).exc zl1 ex
  have kC:∀c,c<T'.length->nth T' c=v->c<tab.length/\(tab.getD c []).length=ts.length:=λc hc e=>⟨⋯,(hdone c (kidT c hc e)).1⟩
  right
  refine⟨_,.inl (SqL.of (sHx _ _ hx)),⋯,⋯,?_⟩
  rw[eX,show((ts.length:Nat):Int).toNat=ts.length by omega]
  refine ZaL (n:=ts.length) (λj acc Hz=>∃rs:List Pt,acc.length=j/\rs.length=j/\(∀(i:Nat) (u:V) (p:Pt),acc[i]?=some u->rs[i]?=some p->ZaZ Hz u p)/\(∀i,i<j->∃ah bh,Zab T' v ah/\ZT T' v bh/\ZbO ts tab i ah bh (rs.getD i none))/\Zd Hx Hz) (YG (show _<=1000 by omega) nofun) ⟨[],rfl,rfl,(λi u p h=>by simp at h),(λi h=>absurd h ⋯),Zd.refl Hx⟩ (λj acc Hz _ hj=>hj) (λacc Hz _=>Yc _) ?_ ?_
  .rintro j u acc Hz Hw hj hla ⟨rs,hal,hrl,hpr,hru,sz⟩ ⟨rfl,rfl⟩
   rw[show(0:Int)+(j:Int)=((j:Nat):Int) by omega]
   right
   refine⟨t,x,l,T',ts,tab,v,j,rfl,(s1x.trans sz) _ _ ht,(sHx.trans sz) _ _ hx,TBx.same sz,hG,hvT,hj,h16,kC,λu p ah bh H5 hA hB hR hP s5=>CA.take hj hla ⟨by simp[hal],rs++[p],by simp[hrl],λi u' p' e1 e2=>?_,λi hi=>?_,sz.trans s5⟩⟩
   .by_cases c:i<j
    .rw[Y8 ⋯]at e1 e2
     exact(hpr i u' p' e1 e2).same s5
    .have h1:=(Yw.mp e1).1
     have:i=j:=by simp at h1;omega
     subst this
     rw[Y4 ⋯,hal,Nat.sub_self]at e1
     rw[Y4 ⋯,hrl,Nat.sub_self]at e2
     cases e1;cases e2;exact hP
   .by_cases c:i<j
    .rw[Yh,Y8 ⋯,<-Yh]
     obtain⟨ah',bh',hA',hB',hR'⟩:=hru i c
     exact⟨ah',hA',bh',hB',hR'⟩
    .have:i=j:= ⋯
     subst this
     rw[Yh,Y4 ⋯,hrl,Nat.sub_self]
     exact⟨ah,hA,bh,hB,hR⟩
  .rintro r2 acc Hz ⟨rs,hal,hrl,hpr,hru,sz⟩ _ zr
   have gr:=(Zd.refl Hz).upd (o:=.lst acc) zr
   obtain⟨as,hla,hasn,hasl,hasp⟩:=TBx
   have hlz:=gr _ _ (sz _ _ hla)
   have hrr:=Zc (H:=Hz) (a:=r2) (o:=.lst acc)
   have nrl:r2≠l:=λz=>by rw[z,sz _ _ hla]at zr;cases zr
   have szr:=sz.trans gr
   generalize upd Hz r2 (.lst acc)=H6 at gr hlz hrr szr⊢
   refine⟨_,hlz,v,Zha (by rw[Yi];omega),tab.set v rs,⟨as.set v r2,by rw[Zc,List.map_set],λz=>?_,by simp[hasl],λi b qs e1 e2=>?_⟩,by simp[htx],λw hw=>?_,(ex.same szr).trans Exc.upd⟩
   .rcases List.mem_or_eq_of_mem_set z with z|z
    .exact hasn z
    .exact nrl z.symm
   .by_cases c:i=v
    .subst c
     rw[List.getElem?_set_self ⋯]at e1 e2
     cases e1;cases e2
     exact⟨acc,by rw[Zh nrl];exact hrr,⋯,λi u p f1 f2=>((hpr i u p f1 f2).same gr).excL hlz Exc.upd⟩
    .rw[List.getElem?_set_ne (Ne.symm c)]at e1 e2
     obtain⟨vals,g1,g2,g3⟩:=(hasp i b qs e1 e2).same szr
     have nb:b≠l:=λz=>hasn (z▸List.mem_of_getElem? e1)
     exact⟨vals,by rw[Zh nb];exact g1,g2,λi u p f1 f2=>(g3 i u p f1 f2).excL hlz Exc.upd⟩
   .rw[List.take_succ,hpk]at hw
    rcases YB.mp hw with hw|hw
    .refine(hdone w hw).set (λz=>hv0 (z▸hw)) λc hc e z=>?_
     obtain⟨m,hm,em⟩:=List.mem_take_iff_getElem.mp hw
     have:=ZjK hT hpm hpw (k:=m) (c:=c) (v:=w) (Yw.mpr ⟨⋯,em⟩) hc e
     obtain⟨m2,hm2,em2⟩:=List.mem_take_iff_getElem.mp this
     exact hv0 (z▸List.mem_take_iff_getElem.mpr ⟨m2,⋯,em2⟩)
    .have:w=v:=by simp at hw;omega
     subst this
     exact Zbk.newE ⋯ hrl kidV hru
 .rintro σ Hx ⟨v4,tab,rfl,TBx,htx,hdone,ex⟩
  right
  refine k1 l T' tab Hx zl0 hT TBx ⟨htx,λv hv=>hdone v ?_⟩ (s03.exc zl0 ex)
  rw[List.take_of_length_le (by simp)]
  exact hpm.mem_iff.mpr (YK.mpr ⟨v,Yy.mpr ⋯,rfl⟩)
theorem ZjL {f:Addr}{fd:FuncData} (F:Fun K "_law_either" "_law_either" Zaz f fd) (Zv:Callee P w K mg base "_law_take" 1 ["pot","many"] (Zbi K mg)) (T:Txt K mg):FnOk P w K mg base (CXE P w) 2 f fd ["pot","some"] (ZcV K mg):=by
 refine F.okX ZjH (λvs H Q E h=>?_) (λcdv A outer s H vs Q E hr h=>?_)
 .obtain⟨p,r,xs,rfl,_⟩:=h;rfl
 obtain⟨p,r,xs,rfl,hP,nrp,hr1,hn,k1⟩:=h
 refine⟨_,(Zg (Zz (Zk ZF (ZdA (Za (ZcG (ZgD (K:=K) rfl) rfl T.b_list ZiT (Za (pv 1) Zb)) (Za (ZcG (ZkQ (K:=K) rfl) rfl T.b_tuple Zg7 (Za (pv 1) Zb)) Zb))) (Zi Zv (hr.mono nofun) rfl ZC (Za (pv 0) (Za Zf Zb))) (λ_ _=>rfl)))),?_⟩
 right
 refine⟨_,.inl (SqL.of hr1),λl hl=>?_⟩
 have g1:=(Zd.refl H).upd (o:=.lst xs) hl
 refine⟨_,.inl ⟨SqL.of (g1 _ _ hr1),λl2 hl2=>⟨by decide,λc hc=>?_⟩⟩⟩
 have g2:=(Zd.refl _).upd (o:=.tup xs) hl2
 have g3:=(Zd.refl _).upd (o:=.tup [V.ref l,V.ref l2]) hc
 have gg:=(g1.trans g2).trans g3
 have hl3:=(g2.trans g3) _ _ (Zc (H:=H) (a:=l) (o:=.lst xs))
 have hl23:=g3 _ _ (Zc (a:=l2) (o:=.tup xs) (H:=upd H l (.lst xs)))
 have nlp:l≠p:=hP.ne hl
 have nl2p:l2≠p:=(hP.same g1).ne hl2
 have ncp:c≠p:=(hP.same (g1.trans g2)).ne hc
 refine⟨p,_,rfl,by decide,by decide,hP.same gg,λd H2 d0 d1 P2 e2=>⟨_,d,rfl,SqT.of (e2 _ _ ncp Zc),?_⟩⟩
 have ex:=(Zd.refl H).Zjg.same gg |>.trans e2
 rcases(by omega:d=0\/d=1)with rfl|rfl
 .exact⟨_,rfl,k1 l H2 hl (.inl (e2 _ _ nlp hl3)) P2 ex⟩
 .exact⟨_,rfl,k1 l2 H2 (g1.free hl2) (.inr (e2 _ _ nl2p hl23)) P2 ex⟩
theorem Zme {f:Addr}{fd:FuncData} (F:Fun K "_law_pair" "_law_pair" Zbd f fd) (Zv:Callee P w K mg base "_law_take" 1 ["pot","many"] (Zbi K mg)) (ZeP:Callee P w K mg base "_law_row" 2 ["pot","most"] (ZfE K mg)) (T:Txt K mg):FnOk P w K mg base (CXE P w) 3 f fd ["pot","most","wide"] (ZeG K mg):=by
 refine F.okX Zcr (λvs H Q E h=>?_) (λcdv A outer s H vs Q E hr h=>?_)
 .obtain⟨p,m,w,rfl,_⟩:=h;rfl
 obtain⟨p,most,wide,rfl,m1,m2,w1,w2,hP,k1⟩:=h
 refine⟨_,(Ze (Zu (i:=3) Zcr.nd rfl (Or.inl rfl) (Zjb Zlz (Zy ZnS (Zi ZeP (hr.mono nofun) rfl ZC (Za (pv 0) (Za (pv 1) Zb))) (ZZ (Za (Zi Zv (hr.mono nofun) rfl ZC (Za (pv 0) (Za Zf Zb))) Zb))) Zlu (Zlv (pv 1))))
   (Ze (Zu (i:=4) Zcr.nd rfl (Or.inl rfl) (Zi ZeP (hr.mono nofun) rfl ZC (Za (pv 0) (Za (pv 2) Zb))))
   (Ze (Zaa (Zj Zgm (Zi Zv (hr.mono nofun) rfl ZC (Za (pv 0) (Za Zf Zb))) Zf (Zl _)) (Zg (Zas (i:=4) ["turn","pot"] [none,some 0] Zcr.nd rfl (Or.inl rfl) rfl rfl rfl (ZM rfl T.b_range (Za (Zi Zv (hr.mono nofun) rfl ZC (Za (pv 0) (Za (Zy Zcd (pv 2) Zf) Zb))) Zb)) (λ_ _ _ _ _=>(Zm (i:=0) (show(["turn","pot"]:List Str).Nodup from by decide +kernel) rfl (Or.inl rfl))) (λ_ _ _ _ _=>Zad) (λ_ _ _ _ _=>(Zi Zv (hr.mono nofun) rfl ZC (Za (pv 1) (Za Zf Zb)))) Zs)) ZI)
   (Zg (Zz (ZdA (Za (pv 3) (Za (pv 4) Zb)))))))),?_⟩
 right
 refine⟨p,most,rfl,⋯,⋯,hP,λr0 ns0 H1 z0 l0 h0 P1 e1=>⟨p,3,rfl,by decide,by decide,P1,λd H2 d0 d1 P2 e2=>⟨by decide,λq1 hq1=>⟨r0,rfl,ns0.map V.int,?_,[V.int d],Zc,?_,λq2 hq2=>⟨_,SqL.of Zc,λq3 hq3=>?_⟩⟩⟩⟩⟩
 .have h2:=e2 _ _ (hP.ne z0) h0
  rw[Zh (λz=>by rw[z,hq1]at h2;cases h2)];exact h2
 .exact Y7 (YG (show _<=1000 by simp;omega) nofun)
 have ec:ZhL (ns0.map V.int++[V.int d]) none (some most)=((ns0++[d]).take most.toNat).map V.int:=by
  have:=cut_to (ns0.map V.int++[V.int d]) most.toNat
  rw[show((most.toNat:Nat):Int)=most by omega]at this
  rw[this];simp[List.map_take]
 rw[ec]
 have g1:=(Zd.refl H2).upd (o:=.lst [V.int d]) hq1
 have g2:=(Zd.refl _).upd (o:=.lst (ns0.map V.int++[V.int d])) hq2
 have g3:=(Zd.refl _).upd (o:=.lst (((ns0++[d]).take most.toNat).map V.int)) hq3
 have gg:=(g1.trans g2).trans g3
 have h3:upd (upd (upd H2 q1 (.lst [V.int d])) q2 (.lst (ns0.map V.int++[V.int d]))) q3 (.lst (((ns0++[d]).take most.toNat).map V.int)) q3=some (.lst (((ns0++[d]).take most.toNat).map V.int)):=Zc
 have zq3:H2 q3=none:=(g1.trans g2).free hq3
 have ee:Exc p H H2:=e1.trans e2
 have zq0:H q3=none:=ee.free (P2.ne zq3) zq3
 have nq3:q3≠p:=P2.ne zq3
 have l1:0<((ns0++[d]).take most.toNat).length:=by simp;omega
 have l2:(((ns0++[d]).take most.toNat).length:Int)<=most:=by simp;omega
 generalize (ns0++[d]).take most.toNat=ns at h3 l1 l2 gg⊢
 generalize upd (upd (upd H2 q1 (.lst [V.int d])) q2 (.lst (ns0.map V.int++[V.int d]))) q3 (.lst (ns.map V.int))=H3 at h3 gg⊢
 have P3:=P2.same gg
 have e3:Exc p H H3:=ee.same gg
 refine⟨p,wide,rfl,⋯,⋯,P3,λx0 ts0 H4 zx lx hx P4 e4=>⟨p,3,rfl,by decide,by decide,P4,λd2 H5 _ _ P5 e5=>⟨rfl,?_⟩⟩⟩
 have e35:=e4.trans e5
 have e05:=e3.trans e35
 have h5:=e35 _ _ nq3 h3
 have nxp:x0≠p:=P3.ne zx
 have zx0:H x0=none:=e3.free nxp zx
 refine ZA (λ_=>?_) λ_=>?_
 .refine⟨p,wide+1,rfl,⋯,⋯,P5,λd3 H6 d4 d5 P6 e6=>⟨d3,rfl,⋯,⋯,?_⟩⟩
  obtain⟨n3,rfl⟩:=Jg d4
  rw[show((n3:Nat):Int).toNat=n3 by omega]
  refine ZaL (n:=n3) (λj acc Hz=>∃ts:List Int,acc=ts.map V.int/\ts.length=j/\ZK Hz p/\Exc p H6 Hz) (YG (show _<=1000 by omega) nofun) ⟨[],rfl,rfl,P6,(Zd.refl _).Zjg⟩ (λj acc Hz _ hj=>hj) (λacc Hz _=>Yc _) ?_ ?_
  .rintro j u acc Hz Hw hj hla ⟨ts,rfl,htl,Pz,ez⟩ ⟨rfl,rfl⟩
   right
   exact⟨p,4,rfl,by decide,by decide,Pz,λd6 H7 _ _ P7 e7=>CA.take hj hla ⟨ts++[d6],by simp,by simp[htl],P7,ez.trans e7⟩⟩
  .rintro x1 acc Hz ⟨ts,rfl,htl,Pz,ez⟩ _ zx1
   have gl:=(Zd.refl Hz).upd (o:=.lst (ts.map V.int)) zx1
   refine⟨by decide,λq4 hq4=>?_⟩
   have g4:=(Zd.refl _).upd (o:=.tup [V.ref q3,V.ref x1]) hq4
   have e0z:=(e05.trans e6).trans ez
   exact k1 q4 q3 x1 ns ts _ zq0 (e0z.free (Pz.ne zx1) zx1) l1 l2 ⋯ ((gl.trans g4) _ _ (ez _ _ nq3 (e6 _ _ nq3 h5))) (g4 _ _ Zc) Zc (Pz.same (gl.trans g4)) (e0z.same (gl.trans g4))
 .refine⟨by decide,λq4 hq4=>?_⟩
  have g4:=(Zd.refl _).upd (o:=.tup [V.ref q3,V.ref x0]) hq4
  exact k1 q4 q3 x0 ns ts0 _ zq0 zx0 l1 l2 lx (g4 _ _ h5) (g4 _ _ (e5 _ _ nxp hx)) Zc (P5.same g4) (e05.same g4)
noncomputable def Zmf (f h:Nat->Int) (a b:Nat):Prop:=∀x y p,a<=x->y<=b->ZL f x y p->ZL h x y p
theorem Zmg (f:Nat->Int) {x y:Nat} (h:x<=y):∃p,ZL f x y p:=by
 obtain⟨m,h1,h2,h3,h4⟩:=lmin f x (y-x)
 exact⟨m,h1,⋯,h4,λq q1 q2=>h3 q ⋯ ⋯⟩
theorem Zp2 {f:Nat->Int}{a b x y v:Nat} (h:ZL f a b v) (h1:a<=x) (h2:x<=v) (h3:v<=y) (h4:y<=b):ZL f x y v:=⟨h2,h3,λq q1 q2=>h.2.2.1 q ⋯ q2,λq q1 q2=>h.2.2.2 q q1 ⋯⟩
theorem Zlh {f:Nat->Int}{a b v o:Nat} (h:ZL f a b v) (h1:a<=o) (h2:o<=b):f v<=f o:=by
 rcases Nat.lt_trichotomy o v with z|z|z
 .exact Int.le_of_lt (h.2.2.1 o h1 z)
 .rw[z];exact Int.le_refl _
 .exact h.2.2.2 o z h2
theorem ZjM {f h:Nat->Int}{a b v:Nat} (hv:ZL f a b v):Zmf f h a b↔(ZL h a b v/\(a<v->Zmf f h a (v-1))/\(v<b->Zmf f h (v+1) b)):=by
 constructor
 .intro k
  exact⟨k a b v (Yc _) (Yc _) hv,λ_ x y p h1 h2=>k x y p h1 (by have:=hv.2.1;omega),λ_ x y p h1 h2=>k x y p (by have:=hv.1;omega) h2⟩
 .rintro⟨k0,k1,k2⟩ x y p h1 h2 hp
  have hxy:x<=y:=Yr hp.1 hp.2.1
  by_cases c1:y<v
  .exact k1 ⋯ x y p h1 ⋯ hp
  .by_cases c2:v<x
   .exact k2 ⋯ x y p ⋯ h2 hp
   .have z:=Zp2 hv (x:=x) (y:=y) h1 ⋯ ⋯ h2
    rw[hp.unique z]
    exact Zp2 k0 h1 ⋯ ⋯ h2
noncomputable def Zcs (f:Nat->Int) (ts:List Int) (a b:Nat) (g:Nat->Nat):Prop:=(∀x,a<=x->x<b->g x<g (x+1))/\(∀x,a<=x->x<=b->g x<ts.length)/\Zmf f (λo=>nth ts (g o)) a b
theorem Zcs.congr {f:Nat->Int}{ts:List Int}{a b:Nat}{g g':Nat->Nat} (h:Zcs f ts a b g) (e:∀x,a<=x->x<=b->g' x=g x):Zcs f ts a b g':=by
 obtain⟨h1,h2,h3⟩:=h
 refine⟨λx x1 x2=>by rw[e x x1 ⋯,e (x+1) ⋯ ⋯];exact h1 x x1 x2,λx x1 x2=>by rw[e x x1 x2];exact h2 x x1 x2,λx y p x1 y1 hp=>?_⟩
 have z:=h3 x y p x1 y1 hp
 have hxy:=Yr hp.1 hp.2.1
 refine⟨z.1,z.2.1,λq q1 q2=>?_,λq q1 q2=>?_⟩
 .have:=z.2.2.1 q q1 q2
  simp only at this⊢
  rw[e p (by have:=z.1;omega) (by have:=z.2.1;omega),e q ⋯ (by have:=z.2.1;omega)];exact this
 .have:=z.2.2.2 q q1 q2
  simp only at this⊢
  rw[e p (by have:=z.1;omega) (by have:=z.2.1;omega),e q (by have:=z.1;omega) ⋯];exact this
theorem Zcs.mono {f:Nat->Int}{ts:List Int}{a b:Nat}{g:Nat->Nat} (h:Zcs f ts a b g):∀{x y},a<=x->x<y->y<=b->g x<g y:=by
 intro x y h1 h2 h3
 obtain⟨d,rfl⟩:=Nat.exists_eq_add_of_lt h2
 clear h2
 induction d with
 |zero=>exact h.1 x h1 ⋯
 |succ d ih=>exact Nat.lt_trans (ih ⋯) (h.1 (x+d+1) ⋯ ⋯)
theorem ZcY {f:Nat->Int}{ts:List Int}{a b v:Nat}{g:Nat->Nat} (hv:ZL f a b v):Zcs f ts a b g↔(g v<ts.length/\(a<v->Zcs f ts a (v-1) g/\g (v-1)<g v/\∀o,a<=o->o<v->nth ts (g v)<nth ts (g o))/\(v<b->Zcs f ts (v+1) b g/\g v<g (v+1)/\∀o,v<o->o<=b->nth ts (g v)<=nth ts (g o))):=by
 have hva:=hv.1
 have hvb:=hv.2.1
 constructor
 .rintro⟨h1,h2,h3⟩
  obtain⟨k0,k1,k2⟩:=(ZjM hv).mp h3
  refine⟨h2 v hva hvb,λc=>⟨⟨λx x1 x2=>h1 x x1 ⋯,λx x1 x2=>h2 x x1 ⋯,k1 c⟩,?_,λo o1 o2=>k0.2.2.1 o o1 o2⟩,λc=>⟨⟨λx x1 x2=>h1 x ⋯ x2,λx x1 x2=>h2 x ⋯ x2,k2 c⟩,h1 v hva c,λo o1 o2=>k0.2.2.2 o o1 o2⟩⟩
  have:=h1 (v-1) ⋯ ⋯
  rwa [show v-1+1=v by omega]at this
 .rintro⟨h0,hl,hr⟩
  refine⟨λx x1 x2=>?_,λx x1 x2=>?_,(ZjM hv).mpr ⟨⟨hva,hvb,λq q1 q2=>(hl ⋯).2.2 q q1 q2,λq q1 q2=>(hr ⋯).2.2 q q1 q2⟩,λc=>(hl c).1.2.2,λc=>(hr c).1.2.2⟩⟩
  .by_cases c1:x+1<v
   .exact(hl ⋯).1.1 x x1 ⋯
   .by_cases c2:x+1=v
    .have:=(hl ⋯).2.1
     rw[show v-1=x by omega]at this
     rwa [c2]
    .by_cases c3:x=v
     .subst c3;exact(hr x2).2.1
     .exact(hr ⋯).1.1 x ⋯ x2
  .rcases Nat.lt_trichotomy x v with z|z|z
   .exact(hl ⋯).1.2.1 x x1 ⋯
   .rw[z];exact h0
   .exact(hr ⋯).1.2.1 x z x2
noncomputable def ZbQ (f:Nat->Int) (ts:List Int) (a b v i:Nat):Pt->Prop
 |none=>∀g,Zcs f ts a b g->g v≠i
 |some (l,r)=>(∃g,Zcs f ts a b g/\g v=i/\(g a:Int)=l/\(g b:Int)=r)/\∀g,Zcs f ts a b g->g v=i->(g a:Int)<=l/\r<=(g b:Int)
theorem ZbQ.uniq {f:Nat->Int}{ts:List Int}{a b v i:Nat}{p q:Pt} (h:ZbQ f ts a b v i p) (k:ZbQ f ts a b v i q):p=q:=by
 match p,q,h,k with
 |none,none,_,_=>rfl
 |none,some (l,r),h,k=>obtain⟨⟨g,h1,h2,_⟩,_⟩:=k;exact absurd h2 (h g h1)
 |some (l,r),none,h,k=>obtain⟨⟨g,h1,h2,_⟩,_⟩:=h;exact absurd h2 (k g h1)
 |some (l,r),some (l',r'),h,k =>
  obtain⟨⟨g,h1,h2,h3,h4⟩,h5⟩:=h
  obtain⟨⟨g',k1,k2,k3,k4⟩,k5⟩:=k
  have z1:=h5 g' k1 k2
  have z2:=k5 g h1 h2
  have el:l=l':= ⋯
  have er:r=r':= ⋯
  rw[el,er]
noncomputable def ZfJ (f:Nat->Int) (ts:List Int) (a v i:Nat) (g:Nat->Nat):Prop:=a<v->Zcs f ts a (v-1) g/\g (v-1)<i/\∀o,a<=o->o<v->nth ts i<nth ts (g o)
noncomputable def Zdk (f:Nat->Int) (ts:List Int) (v b i:Nat) (g:Nat->Nat):Prop:=v<b->Zcs f ts (v+1) b g/\i<g (v+1)/\∀o,v<o->o<=b->nth ts i<=nth ts (g o)
noncomputable def ZsG (f:Nat->Int) (ts:List Int) (a v i:Nat):Option Int->Prop
 |none=>a<v/\∀g,¬ ZfJ f ts a v i g
 |some m=>(a=v/\m=i)\/(a<v/\(∃g,ZfJ f ts a v i g/\(g a:Int)=m)/\∀g,ZfJ f ts a v i g->(g a:Int)<=m)
noncomputable def Zp3 (f:Nat->Int) (ts:List Int) (v b i:Nat):Option Int->Prop
 |none=>v<b/\∀g,¬ Zdk f ts v b i g
 |some m=>(v=b/\m=i)\/(v<b/\(∃g,Zdk f ts v b i g/\(g b:Int)=m)/\∀g,Zdk f ts v b i g->m<=(g b:Int))
theorem ZoK {f:Nat->Int}{ts:List Int}{a b v i:Nat}{r1 r2:Option Int} (hv:ZL f a b v) (hi:i<ts.length) (h1:ZsG f ts a v i r1) (h2:Zp3 f ts v b i r2):ZbQ f ts a b v i (Zl6 r1 r2):=by
 have hva:=hv.1
 have hvb:=hv.2.1
 have parts:∀g,Zcs f ts a b g->g v=i->ZfJ f ts a v i g/\Zdk f ts v b i g:=λg hg e=>by
  obtain⟨_,hl,hr⟩:=(ZcY hv).mp hg
  rw[e]at hl hr
  exact⟨hl,hr⟩
 match r1,r2,h1,h2 with
 |none,r2,h1,_ =>
  rw[Zle]
  exact λg hg e=>h1.2 g (parts g hg e).1
 |some l,none,_,h2=>exact λg hg e=>h2.2 g (parts g hg e).2
 |some l,some r,h1,h2 =>
  have glue:∀g1 g2,ZfJ f ts a v i g1->Zdk f ts v b i g2->Zcs f ts a b (λx=>if x<v then g1 x else if x=v then i else g2 x):=λg1 g2 k1 k2=>by
   refine(ZcY hv).mpr ⟨?_,λc=>?_,λc=>?_⟩
   .simp only[YA,if_false,if_true];exact hi
   .obtain⟨z1,z2,z3⟩:=k1 c
    refine⟨z1.congr λx x1 x2=>by rw[Yd ⋯],?_,λo o1 o2=>?_⟩
    .simp only[YA,if_false,if_true]
     rw[Yd ⋯];exact z2
    .simp only[YA,if_false,if_true]
     rw[Yd o2];exact z3 o o1 o2
   .obtain⟨z1,z2,z3⟩:=k2 c
    refine⟨z1.congr λx x1 x2=>by rw[Yb ⋯,Yb ⋯],?_,λo o1 o2=>?_⟩
    .simp only[YA,if_false,if_true]
     rw[Yb ⋯,Yb ⋯];exact z2
    .simp only[YA,if_false,if_true]
     rw[Yb ⋯,Yb ⋯];exact z3 o o1 o2
  have lft:∃g1,ZfJ f ts a v i g1/\((if a<v then g1 a else i:Nat):Int)=l:=by
   rcases h1 with⟨e,z⟩|⟨c,⟨g,k,z⟩,_⟩
   .exact⟨λ_=>0,λc=>absurd c ⋯,by rw[Yb ⋯,z]⟩
   .exact⟨g,k,by rw[Yd c];exact z⟩
  have rgt:∃g2,Zdk f ts v b i g2/\((if v<b then g2 b else i:Nat):Int)=r:=by
   rcases h2 with⟨e,z⟩|⟨c,⟨g,k,z⟩,_⟩
   .exact⟨λ_=>0,λc=>absurd c ⋯,by rw[Yb ⋯,z]⟩
   .exact⟨g,k,by rw[Yd c];exact z⟩
  obtain⟨g1,k1,e1⟩:=lft
  obtain⟨g2,k2,e2⟩:=rgt
  refine⟨⟨_,glue g1 g2 k1 k2,by simp,?_,?_⟩,λg hg e=>?_⟩
  .rw[<-e1]
   by_cases c:a<v
   .simp[c]
   .have:a=v:= ⋯
    subst this;simp
  .rw[<-e2]
   by_cases c:v<b
   .simp only[c,if_true]
    rw[Yb ⋯,Yb ⋯]
   .have:b=v:= ⋯
    subst this;simp
  .obtain⟨z1,z2⟩:=parts g hg e
   constructor
   .rcases h1 with⟨e',z⟩|⟨c,_,z⟩
    .rw[z,e',e];exact Int.le_refl _
    .exact z g z1
   .rcases h2 with⟨e',z⟩|⟨c,_,z⟩
    .rw[z,<-e',e];exact Int.le_refl _
    .exact z g z2
theorem ZeI {ns T:List Int} (hT:Zp ns T) {v:Nat} (hv:v<ns.length):∃a b,a<=v/\v<=b/\b<ns.length/\(a:Int)=ZgG (nth ns) v+1/\(b:Int)=ZhV (nth ns) ns.length v-1/\ZL (nth ns) a b v/\∀o,o<ns.length->((o=v\/v∈way T o)↔a<=o/\o<=b):=by
 obtain⟨f1,f2,f3,f4⟩:=ZlR (f:=nth ns) hv
 obtain⟨a,ea⟩:=Jg (show 0<=ZgG (nth ns) v+1 by omega)
 obtain⟨b,eb⟩:=Jg (show 0<=ZhV (nth ns) ns.length v-1 by omega)
 refine⟨a,b,⋯,⋯,⋯,ea.symm,eb.symm,(ZbF hv ⋯).mpr ⟨⋯,⋯,⋯,⋯⟩,λo ho=>?_⟩
 rw[Zfw hT ho]
 constructor
 .rintro(rfl|⟨_,h|h⟩)
  .omega
  .have:=(ZbF hv (a:=v) (b:=o) ho).mp ⟨Yc _,⋯,λq q1 q2=>⋯,λq q1 q2=>h.2 q q1 q2⟩
   omega
  .have:=(ZbF hv (a:=o) (b:=v) hv).mp ⟨⋯,Yc _,λq q1 q2=>h.2 q q1 q2,λq q1 q2=>⋯⟩
   omega
 .rintro⟨h1,h2⟩
  rcases Nat.lt_trichotomy o v with z|z|z
  .have:=(ZbF (f:=nth ns) hv (a:=o) (b:=v) hv).mpr ⟨⋯,⋯,⋯,⋯⟩
   exact .inr ⟨hv,.inr ⟨z,λr r1 r2=>this.2.2.1 r r1 r2⟩⟩
  .exact .inl z
  .have:=(ZbF (f:=nth ns) hv (a:=v) (b:=o) ho).mpr ⟨⋯,⋯,⋯,⋯⟩
   exact .inr ⟨hv,.inl ⟨z,λr r1 r2=>this.2.2.2 r r1 r2⟩⟩
theorem Zgg {ns T:List Int} (hT:Zp ns T) {v a b x y c:Nat} (hv:v<ns.length) (hb:b<ns.length) (hl:ZL (nth ns) a b v) (hs:∀o,o<ns.length->v∈way T o->a<=o/\o<=b) (hxy:(x=a/\y+1=v)\/(x=v+1/\y=b)) (hc:ZL (nth ns) x y c):nth T c=v:=by
 have eT:=hT.1
 have c1:=hc.1
 have c2:=hc.2.1
 have l1:=hl.1
 have l2:=hl.2.1
 have hcn:c<ns.length:= ⋯
 have hvc:Over (nth ns) v c:=by
  rcases hxy with⟨rfl,e⟩|⟨e,rfl⟩
  .exact .inr ⟨⋯,λr r1 r2=>hl.2.2.1 r ⋯ r2⟩
  .exact .inl ⟨⋯,λr r1 r2=>hl.2.2.2 r r1 ⋯⟩
 have hwv:=(Zfw hT hcn).mpr ⟨hv,hvc⟩
 rcases Zca hT hcn with z|⟨e,ez,he,heO,_⟩
 .rw[ZlQ z]at hwv;cases hwv
 rw[ZcQ hT hcn ez]at hwv
 rcases Yk.mp hwv with rfl|hve
 .exact ez
 exfalso
 obtain⟨s1,s2⟩:=hs e he hve
 have hve:=((Zfw hT he).mp hve).2
 rcases hxy with⟨rfl,ey⟩|⟨ex,rfl⟩
 .rcases heO with⟨o1,o2⟩|⟨o1,o2⟩
  .have:=hc.2.2.1 e s1 o1
   have:=o2 c o1 (Yc _)
   omega
  .rcases hve with⟨p1,p2⟩|⟨p1,p2⟩
   .have:=o2 v ⋯ p1
    have:=p2 e p1 (Yc _)
    omega
   .have:=hc.2.2.2 e o1 ⋯
    have:=o2 c (Yc _) o1
    omega
 .rcases heO with⟨o1,o2⟩|⟨o1,o2⟩
  .rcases hve with⟨p1,p2⟩|⟨p1,p2⟩
   .have:=hc.2.2.1 e ⋯ o1
    have:=o2 c o1 (Yc _)
    omega
   .have:=o2 v p1 ⋯
    have:=p2 e (Yc _) p1
    omega
  .have:=hc.2.2.2 e o1 s2
   have:=o2 c (Yc _) o1
   omega
noncomputable def Zbl (T ns:List Int) (v a b:Nat):Prop:=a<=v/\v<=b/\b<ns.length/\(a:Int)=ZgG (nth ns) v+1/\(b:Int)=ZhV (nth ns) ns.length v-1/\ZL (nth ns) a b v/\∀o,o<ns.length->((o=v\/v∈way T o)↔a<=o/\o<=b)
theorem Zbl.uniq {T ns:List Int}{v a b a' b':Nat} (h:Zbl T ns v a b) (k:Zbl T ns v a' b'):a=a'/\b=b':=by
 have h4:=h.2.2.2.1
 have h5:=h.2.2.2.2.1
 have k4:=k.2.2.2.1
 have k5:=k.2.2.2.2.1
 omega
theorem ZoL {ns T:List Int} (hT:Zp ns T) {v a b:Nat} (h:Zbl T ns v a b):(Zab T v none->a=v)/\∀c,Zab T v (some c)->a<v/\Zbl T ns c a (v-1):=by
 obtain⟨h1,h2,h3,h4,h5,h6,h7⟩:=h
 have eT:=hT.1
 have hv:v<ns.length:= ⋯
 have hs:∀o,o<ns.length->v∈way T o->a<=o/\o<=b:=λo ho hw=>(h7 o ho).mp (.inr hw)
 constructor
 .intro hn
  refine Nat.le_antisymm h1 (Nat.not_lt.mp λz=>?_)
  obtain⟨c,hc⟩:=Zmg (nth ns) (show a<=v-1 by omega)
  have c2:=hc.2.1
  exact hn c ⋯ ⋯ (Zgg hT hv h3 h6 hs (.inl ⟨rfl,⋯⟩) hc)
 .intro c hc
  have hcv:c<v:=hc.1
  have ec:nth T c=v:=hc.2.2
  have hcn:c<ns.length:= ⋯
  have hcs:=hs c hcn (by rw[ZcQ hT hcn ec];exact Yv)
  obtain⟨c',hc'⟩:=Zmg (nth ns) (show a<=v-1 by omega)
  have e':=Zgg hT hv h3 h6 hs (.inl ⟨rfl,⋯⟩) hc'
  have c2:=hc'.2.1
  have:c'=c:=by
   rcases Nat.lt_trichotomy c' c with z|z|z
   .exact(Zgf hT z hcv hv e' ec).elim
   .exact z
   .exact(Zgf hT z ⋯ hv ec e').elim
  subst this
  obtain⟨a',b',g1,g2,g3,g4,g5,g6,g7⟩:=ZeI hT hcn
  have n1:=(ZbF (f:=nth ns) hcn (a:=a) (b:=v-1) ⋯).mp hc'
  have n2:¬ ((b':Int) ≥ v):=λz=>by
   have:=g6.2.2.2 v hcv ⋯
   have:=h6.2.2.1 c' ⋯ hcv
   omega
  have n3:¬ (a'<a):=λz=>by
   have hA:ZgG (nth ns) v=((a-1:Nat):Int):= ⋯
   have hp:Zae (nth ns) v (a-1):=by
    rcases ZmU (nth ns) v with⟨hno,_⟩|⟨q,hq,_⟩
    .rw[Zhe hno]at hA;omega
    .rw[Zek hq]at hA
     rwa [show a-1=q by omega]
   have q1:=hp.2.1
   have:=g6.2.2.1 (a-1) ⋯ ⋯
   have:=h6.2.2.1 c' ⋯ hcv
   omega
  have ea:a'=a:= ⋯
  have eb:b'=v-1:= ⋯
  subst ea;subst eb
  exact⟨⋯,g1,g2,g3,g4,g5,g6,g7⟩
theorem Znr {ns T:List Int} (hT:Zp ns T) {v a b:Nat} (h:Zbl T ns v a b):(ZT T v none->b=v)/\∀c,ZT T v (some c)->v<b/\Zbl T ns c (v+1) b:=by
 obtain⟨h1,h2,h3,h4,h5,h6,h7⟩:=h
 have eT:=hT.1
 have hv:v<ns.length:= ⋯
 have hs:∀o,o<ns.length->v∈way T o->a<=o/\o<=b:=λo ho hw=>(h7 o ho).mp (.inr hw)
 constructor
 .intro hn
  refine Nat.le_antisymm (Nat.not_lt.mp λz=>?_) h2
  obtain⟨c,hc⟩:=Zmg (nth ns) (show v+1<=b by omega)
  have c1:=hc.1
  have c2:=hc.2.1
  exact hn c ⋯ ⋯ (Zgg hT hv h3 h6 hs (.inr ⟨rfl,rfl⟩) hc)
 .intro c hc
  have hcv:v<c:=hc.1
  have hcT:c<T.length:=hc.2.1
  have ec:nth T c=v:=hc.2.2
  have hcn:c<ns.length:= ⋯
  have hcs:=hs c hcn (by rw[ZcQ hT hcn ec];exact Yv)
  obtain⟨c',hc'⟩:=Zmg (nth ns) (show v+1<=b by omega)
  have e':=Zgg hT hv h3 h6 hs (.inr ⟨rfl,rfl⟩) hc'
  have c1:=hc'.1
  have c2:=hc'.2.1
  have:c'=c:=by
   rcases Nat.lt_trichotomy c' c with z|z|z
   .exact(ZeH hT ⋯ z hcn e' ec).elim
   .exact z
   .exact(ZeH hT hcv z ⋯ ec e').elim
  subst this
  obtain⟨a',b',g1,g2,g3,g4,g5,g6,g7⟩:=ZeI hT hcn
  have n1:=(ZbF (f:=nth ns) hcn (a:=v+1) (b:=b) h3).mp hc'
  have n2:¬ (a'<=v):=λz=>by
   have:=g6.2.2.1 v z hcv
   have:=h6.2.2.2 c' hcv ⋯
   omega
  have n3:¬ (b<b'):=λz=>by
   have hB:ZhV (nth ns) ns.length v=((b+1:Nat):Int):= ⋯
   have hp:Z8 (nth ns) ns.length v (b+1):=by
    rcases ZuS (nth ns) ns.length v with hno|⟨q,hq⟩
    .rw[ZiV hno]at hB;omega
    .rw[Zgd hq]at hB
     rwa [show b+1=q by omega]
   have q1:=hp.2.2.1
   have:=g6.2.2.2 (b+1) ⋯ ⋯
   have:=h6.2.2.2 c' hcv ⋯
   omega
  have ea:a'=v+1:= ⋯
  have eb:b'=b:= ⋯
  subst ea;subst eb
  exact⟨⋯,g1,g2,g3,g4,g5,g6,g7⟩
noncomputable def ZeJ (T ns ts:List Int) (tab:List (List Pt)):Prop:=tab.length=T.length/\∀v,v<T.length->(tab.getD v []).length=ts.length/\∀a b,Zbl T ns v a b->∀i,i<ts.length->ZbQ (nth ns) ts a b v i ((tab.getD v []).getD i none)
noncomputable def FirstP (ts:List Int) (ps:List Pt) (i:Nat):Option Int->Prop
 |none=>∀j,¬ Zat ts ps i j
 |some m=>(∃j,Zat ts ps i j/\m=(ZV ps j).1)/\∀j,Zat ts ps i j->(ZV ps j).1<=m
noncomputable def LastP (ts:List Int) (ps:List Pt) (i:Nat):Option Int->Prop
 |none=>∀j,¬ Zau ts ps i j
 |some m=>(∃j,Zau ts ps i j/\m=(ZV ps j).2)/\∀j,Zau ts ps i j->m<=(ZV ps j).2
theorem Zvc {ns T ts:List Int}{tab:List (List Pt)} (hT:Zp ns T) (hS:ZeJ T ns ts tab) {v a b i:Nat} (hv:Zbl T ns v a b) {ah:Option Nat} (hA:Zab T v ah) {r:Option Int} (hF:ZbN ts tab i ah r) (hi:i<ts.length):ZsG (nth ns) ts a v i r:=by
 have eT:=hT.1
 obtain⟨s1,s2⟩:=ZoL hT hv
 cases ah with
 |none =>
  have e:=s1 hA
  have hF:r=some (i:Int):=hF
  subst hF
  exact .inl ⟨e,rfl⟩
 |some c =>
  obtain⟨hav,hc⟩:=s2 c hA
  have hcT:c<T.length:=hA.2.1
  obtain⟨hlen,hE⟩:=hS.2 c hcT
  have hE:=hE a (v-1) hc
  have hcl:ZL (nth ns) a (v-1) c:=hc.2.2.2.2.2.1
  have c1:=hcl.1
  have c2:=hcl.2.1
  replace hF:FirstP ts (tab.getD c []) i r:=by cases r<;>exact hF
  generalize tab.getD c []=ps at *
  -- a part ahead is one that some j fits
  have key:∀g,ZfJ (nth ns) ts a v i g->Zat ts ps i (g c)/\(g a:Int)<=(ZV ps (g c)).1:=λg hg=>by
   obtain⟨k1,k2,k3⟩:=hg hav
   have hj:g c<ts.length:=k1.2.1 c c1 c2
   have e:=hE (g c) hj
   unfold Zat ZV
   cases hp:ps.getD (g c) none with
   |none=>rw[hp]at e;exact absurd rfl (e g k1)
   |some p =>
    rw[hp]at e
    obtain⟨_,e2⟩:=e
    have:=e2 g k1 rfl
    have:g c<i:=by
     by_cases z:c=v-1
     .rw[z];exact k2
     .exact Nat.lt_trans (k1.mono c1 ⋯ (Yc _)) k2
    refine⟨⟨this,rfl,k3 c c1 ⋯,?_⟩,?_⟩
    .simp only[Option.getD_some];omega
    .simp only[Option.getD_some];omega
  have back:∀j,Zat ts ps i j->∃g,ZfJ (nth ns) ts a v i g/\g c=j/\(g a:Int)=(ZV ps j).1:=λj hj=>by
   obtain⟨j1,j2,j3,j4⟩:=hj
   have e:=hE j ⋯
   unfold ZV at j4⊢
   cases hp:ps.getD j none with
   |none=>rw[hp]at j2;cases j2
   |some p =>
    rw[hp]at e j4
    obtain⟨⟨g,k1,k2,k3,k4⟩,_⟩:=e
    simp only[Option.getD_some]at j4⊢
    refine⟨g,λ_=>⟨k1,⋯,λo o1 o2=>?_⟩,k2,k3⟩
    have:=Zlh (k1.2.2 a (v-1) c (Yc _) (Yc _) hcl) o1 ⋯
    simp only[k2]at this
    omega
  cases r with
  |none =>
   have hF:∀j,¬ Zat ts ps i j:=hF
   exact⟨hav,λg hg=>hF _ (key g hg).1⟩
  |some m =>
   have hF:(∃j,Zat ts ps i j/\m=(ZV ps j).1)/\∀j,Zat ts ps i j->(ZV ps j).1<=m:=hF
   obtain⟨⟨j,hj,em⟩,hmax⟩:=hF
   obtain⟨g,hg,_,e⟩:=back j hj
   exact .inr ⟨hav,⟨g,hg,⋯⟩,λg' hg'=>by
    obtain⟨z1,z2⟩:=key g' hg'
    have:=hmax _ z1
    omega⟩
theorem right_of {ns T ts:List Int}{tab:List (List Pt)} (hT:Zp ns T) (hS:ZeJ T ns ts tab) {v a b i:Nat} (hv:Zbl T ns v a b) {bh:Option Nat} (hA:ZT T v bh) {r:Option Int} (hF:ZdE ts tab i bh r) (hi:i<ts.length):Zp3 (nth ns) ts v b i r:=by
 have eT:=hT.1
 obtain⟨s1,s2⟩:=Znr hT hv
 cases bh with
 |none =>
  have e:=s1 hA
  have hF:r=some (i:Int):=hF
  subst hF
  exact .inl ⟨e.symm,rfl⟩
 |some c =>
  obtain⟨hav,hc⟩:=s2 c hA
  have hcT:c<T.length:=hA.2.1
  obtain⟨hlen,hE⟩:=hS.2 c hcT
  have hE:=hE (v+1) b hc
  have hcl:ZL (nth ns) (v+1) b c:=hc.2.2.2.2.2.1
  have c1:=hcl.1
  have c2:=hcl.2.1
  replace hF:LastP ts (tab.getD c []) i r:=by cases r<;>exact hF
  generalize tab.getD c []=ps at *
  have key:∀g,Zdk (nth ns) ts v b i g->Zau ts ps i (g c)/\(ZV ps (g c)).2<=(g b:Int):=λg hg=>by
   obtain⟨k1,k2,k3⟩:=hg hav
   have hj:g c<ts.length:=k1.2.1 c c1 c2
   have e:=hE (g c) hj
   unfold Zau ZV
   cases hp:ps.getD (g c) none with
   |none=>rw[hp]at e;exact absurd rfl (e g k1)
   |some p =>
    rw[hp]at e
    obtain⟨_,e2⟩:=e
    have:=e2 g k1 rfl
    have:i<g c:=by
     by_cases z:c=v+1
     .rw[z];exact k2
     .exact Nat.lt_trans k2 (k1.mono (Yc _) ⋯ c2)
    refine⟨⟨this,hj,rfl,k3 c ⋯ c2,?_⟩,?_⟩
    .simp only[Option.getD_some];omega
    .simp only[Option.getD_some];omega
  have back:∀j,Zau ts ps i j->∃g,Zdk (nth ns) ts v b i g/\g c=j/\(g b:Int)=(ZV ps j).2:=λj hj=>by
   obtain⟨j1,j0,j2,j3,j4⟩:=hj
   have e:=hE j j0
   unfold ZV at j4⊢
   cases hp:ps.getD j none with
   |none=>rw[hp]at j2;cases j2
   |some p =>
    rw[hp]at e j4
    obtain⟨⟨g,k1,k2,k3,k4⟩,_⟩:=e
    simp only[Option.getD_some]at j4⊢
    refine⟨g,λ_=>⟨k1,⋯,λo o1 o2=>?_⟩,k2,k4⟩
    have:=Zlh (k1.2.2 (v+1) b c (Yc _) (Yc _) hcl) o1 o2
    simp only[k2]at this
    omega
  cases r with
  |none =>
   have hF:∀j,¬ Zau ts ps i j:=hF
   exact⟨hav,λg hg=>hF _ (key g hg).1⟩
  |some m =>
   have hF:(∃j,Zau ts ps i j/\m=(ZV ps j).2)/\∀j,Zau ts ps i j->m<=(ZV ps j).2:=hF
   obtain⟨⟨j,hj,em⟩,hmax⟩:=hF
   obtain⟨g,hg,_,e⟩:=back j hj
   exact .inr ⟨hav,⟨g,hg,⋯⟩,λg' hg'=>by
    obtain⟨z1,z2⟩:=key g' hg'
    have:=hmax _ z1
    omega⟩
theorem ZsH (T:List Int) (v:Nat):∃o,Zab T v o:=by
 by_cases h:∃c,c<v/\c<T.length/\nth T c=v
 .obtain⟨c,h1,h2,h3⟩:=h;exact⟨some c,h1,h2,h3⟩
 .exact⟨none,λc h1 h2 h3=>h ⟨c,h1,h2,h3⟩⟩
theorem Zq1 (T:List Int) (v:Nat):∃o,ZT T v o:=by
 by_cases h:∃c,v<c/\c<T.length/\nth T c=v
 .obtain⟨c,h1,h2,h3⟩:=h;exact⟨some c,h1,h2,h3⟩
 .exact⟨none,λc h1 h2 h3=>h ⟨c,h1,h2,h3⟩⟩
theorem ZeJ.tab {ns T ts:List Int}{tab:List (List Pt)} (hT:Zp ns T) (hS:ZeJ T ns ts tab):Zdg T ts tab:=by
 refine⟨hS.1,λv hv=>⟨(hS.2 v hv).1,λi hi=>?_⟩⟩
 have eT:=hT.1
 obtain⟨a,b,hsp⟩:=ZeI hT (v:=v) ⋯
 have hsp:Zbl T ns v a b:=hsp
 obtain⟨ah,hA⟩:=ZsH T v
 obtain⟨bh,hB⟩:=Zq1 T v
 obtain⟨r1,h1⟩:=Znm ts tab i ah
 obtain⟨r2,h2⟩:=Zmc ts tab i bh
 exact⟨ah,bh,hA,hB,r1,r2,h1,h2,((hS.2 v hv).2 a b hsp i hi).uniq (ZoK hsp.2.2.2.2.2.1 hi (Zvc hT hS hsp hA h1 hi) (right_of hT hS hsp hB h2 hi))⟩
theorem ZoM {f:Nat->Int}{ts:List Int}{a b v i:Nat}{l r:Int} (hv:ZL f a b v) (h1:∃g,Zcs f ts a b g/\g v=i/\(g a:Int)=l) (h2:∃g,Zcs f ts a b g/\g v=i/\(g b:Int)=r) (h3:∀g,Zcs f ts a b g->g v=i->(g a:Int)<=l/\r<=(g b:Int)):ZbQ f ts a b v i (some (l,r)):=by
 obtain⟨g1,p1,p2,p3⟩:=h1
 obtain⟨g2,q1,q2,q3⟩:=h2
 have hva:=hv.1
 have hvb:=hv.2.1
 refine⟨⟨λx=>if x<v then g1 x else g2 x,(ZcY hv).mpr ⟨?_,λc=>?_,λc=>?_⟩,?_,?_,?_⟩,h3⟩
 .simp only[YA,if_false];exact q1.2.1 v hva hvb
 .obtain⟨_,z,_⟩:=(ZcY hv).mp p1
  obtain⟨z1,z2,z3⟩:=z c
  refine⟨z1.congr λx x1 x2=>by rw[Yd ⋯],?_,λo o1 o2=>?_⟩
  .simp only[YA,if_false]
   rw[Yd ⋯,q2,<-p2];exact z2
  .simp only[YA,if_false]
   rw[Yd o2,q2,<-p2];exact z3 o o1 o2
 .obtain⟨_,_,z⟩:=(ZcY hv).mp q1
  obtain⟨z1,z2,z3⟩:=z c
  refine⟨z1.congr λx x1 x2=>by rw[Yb ⋯],?_,λo o1 o2=>?_⟩
  .simp only[YA,if_false]
   rw[Yb ⋯];exact z2
  .simp only[YA,if_false]
   rw[Yb ⋯];exact z3 o o1 o2
 .simp only[YA,if_false];exact q2
 .by_cases c:a<v
  .simp only[c,if_true];exact p3
  .have:a=v:= ⋯
   subst this
   simp only[YA,if_false]
   rw[q2,<-p2];exact p3
 .simp only[show ¬ b<v by omega,if_false];exact q3
noncomputable def ZsI (ns ms:List Int) (a b:Nat):Prop:=ms.length=b-a+1/\∀j,j<ms.length->nth ms j=nth ns (a+j)
theorem Zel {f h:Nat->Int}{a n x y p:Nat} (e:∀j,j<n->h j=f (a+j)) (hx:a<=x) (hy:y<a+n) (hxy:x<=y):ZL f x y p↔a<=p/\ZL h (x-a) (y-a) (p-a):=by
 constructor
 .rintro⟨h1,h2,h3,h4⟩
  refine⟨⋯,⋯,⋯,λq q1 q2=>?_,λq q1 q2=>?_⟩
  .rw[e _ ⋯,e _ ⋯,show a+(p-a)=p by omega]
   exact h3 _ ⋯ ⋯
  .rw[e _ ⋯,e _ ⋯,show a+(p-a)=p by omega]
   exact h4 _ ⋯ ⋯
 .rintro⟨h0,h1,h2,h3,h4⟩
  refine⟨⋯,⋯,λq q1 q2=>?_,λq q1 q2=>?_⟩
  .have:=h3 (q-a) ⋯ ⋯
   rwa [e _ ⋯,e _ ⋯,show a+(p-a)=p by omega,show a+(q-a)=q by omega]at this
  .have:=h4 (q-a) ⋯ ⋯
   rwa [e _ ⋯,e _ ⋯,show a+(p-a)=p by omega,show a+(q-a)=q by omega]at this
theorem Zns {f h:Nat->Int}{n:Nat}:Zez f h n↔∀x y p,y<n->ZL f x y p->ZL h x y p:=by
 constructor
 .intro k x y p hy hp
  have hxy:=Yr hp.1 hp.2.1
  obtain⟨c,rfl⟩:=Nat.exists_eq_add_of_le hxy
  have e:=hp.unique (Za2 f x c)
  have z:=Za2 h x c
  rw[<-k x c hy,<-e]at z
  exact z
 .intro k a c hc
  exact(k a (a+c) _ hc (Za2 f a c)).unique (Za2 h a c)
theorem Zp4 {ts r:List Int}{j:Nat} (h:j<r.length):nth (atL ts r) j=nth ts (nth r j).toNat:=by
 unfold atL
 show((r.map λx=>nth ts x.toNat).getD j 0)=_
 rw[Yh,YE,Yf h]
 unfold nth
 simp[Yh,h]
theorem Zi1 {N:Nat}{r:List Int}:Ris N r↔(∀j,j<r.length->0<=nth r j/\nth r j<(N:Int))/\∀i j,i<j->j<r.length->nth r i<nth r j:=by
 have en:∀j (h:j<r.length),nth r j=r[j]:=λj h=>by unfold nth;rw[Yh,Yf h];rfl
 unfold Ris
 rw[List.pairwise_iff_getElem]
 constructor
 .rintro⟨h1,h2⟩
  exact⟨λj hj=>by rw[en j hj];exact h1 _ (YF hj),λi j hij hj=>by rw[en i ⋯,en j hj];exact h2 i j ⋯ hj hij⟩
 .rintro⟨h1,h2⟩
  refine⟨λx hx=>?_,λi j hi hj hij=>?_⟩
  .obtain⟨j,hj,rfl⟩:=YZ hx
   rw[<-en j hj];exact h1 j hj
  .rw[<-en i hi,<-en j hj];exact h2 i j hij hj
theorem ZsJ {ns ms ts r:List Int}{a b:Nat} (hab:a<=b) (hc:ZsI ns ms a b) (h:ZjF ms ts r):Zcs (nth ns) ts a b (λx=>(nth r (x-a)).toNat):=by
 obtain⟨h1,h2,W,h3,h4⟩:=h
 obtain⟨c1,c2⟩:=hc
 obtain⟨r1,r2⟩:=Zi1.mp h2
 have hl:ms.length=(atL ts r).length:=by simp[atL,h1]
 have hk:=(Zns.mp ((ZpC h3 h4).mpr ⟨hl,rfl⟩).2)
 refine⟨λx x1 x2=>?_,λx x1 x2=>?_,λx y p x1 y1 hp=>?_⟩
 .have:=r2 (x-a) (x+1-a) ⋯ ⋯
  have:=(r1 (x-a) ⋯).1
  show(nth r (x-a)).toNat<(nth r (x+1-a)).toNat
  omega
 .have:=r1 (x-a) ⋯
  show(nth r (x-a)).toNat < _
  omega
 .have hxy:=Yr hp.1 hp.2.1
  obtain⟨p0,z⟩:=(Zel (h:=nth ms) (n:=ms.length) c2 x1 ⋯ hxy).mp hp
  have z:=hk _ _ _ ⋯ z
  have e:∀j,j<ms.length->nth (atL ts r) j=(λo=>nth ts ((λx=>(nth r (x-a)).toNat) o)) (a+j):=λj hj=>by
   rw[Zp4 ⋯]
   simp only
   rw[show a+j-a=j by omega]
  exact(Zel (f:=λo=>nth ts ((λx=>(nth r (x-a)).toNat) o)) (h:=nth (atL ts r)) (n:=ms.length) e x1 ⋯ hxy).mpr ⟨p0,z⟩
theorem ZoN {ns ms ts:List Int}{a b:Nat}{g:Nat->Nat} (hab:a<=b) (hc:ZsI ns ms a b) (h:Zcs (nth ns) ts a b g):∃r,ZjF ms ts r/\∀x,a<=x->x<=b->nth r (x-a)=(g x:Int):=by
 obtain⟨c1,c2⟩:=hc
 have en:∀j,j<ms.length->nth ((List.range ms.length).map λj=>((g (a+j):Nat):Int)) j=(g (a+j):Int):=λj hj=>by
  show((List.range ms.length).map λj=>((g (a+j):Nat):Int)).getD j 0=_
  rw[Yh,YE,List.getElem?_range hj];rfl
 have lr:((List.range ms.length).map λj=>((g (a+j):Nat):Int)).length=ms.length:=by simp
 generalize ((List.range ms.length).map λj=>((g (a+j):Nat):Int))=r at en lr
 have hr:Ris ts.length r:=Zi1.mpr ⟨λj hj=>by
  rw[en j ⋯]
  have:=h.2.1 (a+j) ⋯ ⋯
  omega,λi j hij hj=>by
  rw[en i ⋯,en j ⋯]
  have:=h.mono (x:=a+i) (y:=a+j) ⋯ ⋯ ⋯
  omega⟩
 obtain⟨W,hW⟩:=ZpG ms
 refine⟨r,⟨lr,hr,W,hW,?_⟩,λx x1 x2=>by rw[en _ ⋯,show a+(x-a)=x by omega]⟩
 obtain⟨V',hV⟩:=ZpG (atL ts r)
 have hl:ms.length=(atL ts r).length:=by simp[atL,lr]
 have:Zez (nth ms) (nth (atL ts r)) ms.length:=Zns.mpr λx y p hy hp=>by
  have hxy:=Yr hp.1 hp.2.1
  have z:=(Zel (f:=nth ns) (h:=nth ms) (n:=ms.length) (x:=a+x) (y:=a+y) (p:=a+p) c2 ⋯ ⋯ ⋯).mpr ⟨⋯,by rwa [show a+x-a=x by omega,show a+y-a=y by omega,show a+p-a=p by omega]⟩
  have z:=h.2.2 _ _ _ ⋯ ⋯ z
  have e:∀j,j<ms.length->nth (atL ts r) j=(λo=>nth ts (g o)) (a+j):=λj hj=>by
   rw[Zp4 ⋯,en j hj]
   simp
  have:=((Zel (f:=λo=>nth ts (g o)) (h:=nth (atL ts r)) (n:=ms.length) e ⋯ ⋯ ⋯).mp z).2
  rwa [show a+x-a=x by omega,show a+y-a=y by omega,show a+p-a=p by omega]at this
 have:=((ZpC hW hV).mp ⟨hl,this⟩).2
 rw[this];exact hV
theorem Zhp {N:Nat}{r:List Int}{x:Int}:Ris N (r++[x])↔Ris N r/\(0<=x/\x<(N:Int))/\∀y∈r,y<x:=by
 unfold Ris
 rw[List.pairwise_append]
 constructor
 .rintro⟨h1,h2,_,h3⟩
  exact⟨⟨λy hy=>h1 y (YY _ hy),h2⟩,h1 x (by simp),λy hy=>h3 y hy x (by simp)⟩
 .rintro⟨⟨h1,h2⟩,h3,h4⟩
  refine⟨λy hy=>?_,h2,by simp,λy hy z hz=>?_⟩
  .rcases YB.mp hy with hy|hy
   .exact h1 y hy
   .rw[Y2.mp hy];exact h3
  .rw[Y2.mp hz];exact h4 y hy
noncomputable def ZcZ:List Int->Int
 |[]=>-1
 |[x]=>x
 |_::y::r=>ZcZ (y::r)
theorem ZjN {r:List Int}{x:Int}:ZcZ (r++[x])=x:=by
 induction r with
 |nil=>rfl
 |cons y r ih =>
  cases r with
  |nil=>rfl
  |cons z r=>exact ih
theorem Zgh {N:Nat}{r:List Int} (h:Ris N r):-1<=ZcZ r/\ZcZ r<N/\∀x,0<=x->((∀y∈r,y<x)↔ZcZ r<x):=by
 rcases List.eq_nil_or_concat r with rfl|⟨r,z,rfl⟩
 .exact⟨by decide,by show(-1:Int) < _;omega,λx hx=>⟨λ_=>by show(-1:Int)<x;omega,λ_ y hy=>nomatch hy⟩⟩
 .rw[List.concat_eq_append]at h⊢
  obtain⟨h1,h2,h3⟩:=Zhp.mp h
  rw[ZjN]
  refine⟨⋯,h2.2,λx hx=>⟨λk=>k z (by simp),λk y hy=>?_⟩⟩
  rcases YB.mp hy with hy|hy
  .have:=h3 y hy;omega
  .rw[Y2.mp hy];exact k
noncomputable def onL (N:Nat) (r:List Int):List (List Int):=(List.range ((N:Int)-(ZcZ r+1)).toNat).map λ(j:Nat)=>r++[ZcZ r+1+(j:Int)]
theorem Zp5 {N:Nat}{r q:List Int} (h:Ris N r):q∈onL N r↔∃x,q=r++[x]/\Ris N q:=by
 obtain⟨l1,l2,l3⟩:=Zgh h
 unfold onL
 rw[YK]
 constructor
 .rintro⟨j,hj,rfl⟩
  have:=Yy.mp hj
  exact⟨_,rfl,Zhp.mpr ⟨h,⟨⋯,⋯⟩,(l3 _ ⋯).mpr ⋯⟩⟩
 .rintro⟨x,rfl,hq⟩
  obtain⟨_,h2,h3⟩:=Zhp.mp hq
  have:=(l3 x h2.1).mp h3
  exact⟨(x-(ZcZ r+1)).toNat,Yy.mpr ⋯,by congr 2;omega⟩
theorem Zp6 {N:Nat}{r:List Int} (h:Ris N r):(onL N r).length<=N:=by
 obtain⟨l1,l2,_⟩:=Zgh h
 unfold onL
 rw[Yi,Y6];omega
theorem Zo.app {H:Hp}{g:Addr}{gs qs:List (List Int)}{acc:List V}{xs:List V} (hg:H g=some (.lst xs)) (h:Zo H g gs) (t:ZaM H acc qs):Zo (upd H g (.lst (xs++acc))) g (gs++qs):=by
 obtain⟨as,e1,l1,k1⟩:=h
 obtain⟨bs,rfl,l2,k2⟩:=t
 rw[hg]at e1
 cases e1
 have ng:∀c ys,H c=some (.tup ys)->c≠g:=λc ys e z=>by rw[z,hg]at e;cases e
 refine⟨as++bs,by rw[Zc,Jf],by simp[l1,l2],λi h1 h2=>?_⟩
 by_cases c:i<as.length
 .rw[Jk c,Jk ⋯]
  have:=k1 i c ⋯
  rw[Zh (ng _ _ this)];exact this
 .rw[Jm ⋯,Jm ⋯]
  simp at h1 h2
  have:=k2 (i-as.length) ⋯ ⋯
  rw[Zh (ng _ _ this)]
  simp only[l1]at this⊢
  exact this
theorem ZoO {l g:Addr}{rs:List (List Int)}{xs:List V}{H2 Hz:Hp} (tl:Zo H2 l rs) (nlg:l≠g) (hg:H2 g=some (.lst xs)) (ez:Exc g H2 Hz):(∀i H,Zd Hz H->i<rs.length->(Itl K l).go i H)/\(∀H,Zd Hz H->(Itl K l).stop rs.length H)/\∀i x H H' (h:i<rs.length),Zd Hz H->(Itl K l).yld i H x H'->H'=H/\∃a,x=.ref a/\H a=some (.tup (rs[i].map V.int)):=by
 refine Zo.walk (K:=K) ?_
 obtain⟨as,e,h1,h2⟩:=tl
 refine⟨as,ez _ _ nlg e,h1,λi i1 i2=>ez _ _ (λz=>?_) (h2 i i1 i2)⟩
 have:=h2 i i1 i2
 rw[z,hg]at this;cases this
theorem Zvd {a:Addr}{r:List Int}{many:Nat}{H1:Hp}{Q:VK} (ha:H1 a=some (.tup (r.map V.int))) (hr:r.length<=10) (hm:many<=9) (hR:Ris many r) (hk:∀b acc H5,Zd H1 H5->H5 b=some (.lst acc)->ZaM H5 acc (onL many r)->Q (.ref b) H5):Zjf (Itr (ZcZ r+1) ((many:Int)-(ZcZ r+1)).toNat) (Zgl 0) tYes (tOp ZmX (Zlp 1) (tTup (ZkJ (Zlp 0) Zql))) [none,some (V.ref a)] Q H1:=by
 obtain⟨l1,l2,_⟩:=Zgh hR
 refine ZaL (n:=((many:Int)-(ZcZ r+1)).toNat) (λj acc Hz=>ZaM Hz acc ((List.range j).map λ(j:Nat)=>r++[ZcZ r+1+(j:Int)])/\Zd H1 Hz) (YG (show _<=1000 by omega) nofun) ⟨ZaM.nil,Zd.refl _⟩ (λj acc Hz _ hj=>hj) (λacc Hz _=>Yc _) ?_ ?_
 .rintro j y acc Hz Hw hj hla ⟨tv,sz⟩ ⟨rfl,rfl⟩
  right
  refine⟨by decide,λq zq=>?_⟩
  have gq:=(Zd.refl Hw).upd (o:=.tup [V.int (ZcZ r+1+(j:Int))]) zq
  refine⟨_,gq _ _ (sz _ _ ha),_,Zc,Yr (show _<=100 by simp;omega) nofun,λu H4 s4 hu=>CA.take hj hla ⟨?_,sz.trans (gq.trans s4)⟩⟩
  rw[Ja,Jf]
  refine(tv.same (gq.trans s4)).snoc ?_
  rw[hu,Jf];rfl
 .rintro b acc Hz ⟨tv,sz⟩ _ zb
  exact hk b acc _ (sz.Zaj zb) Zc (tv.same ((Zd.refl Hz).upd zb))
theorem ZjO {f:Addr}{fd:FuncData} (F:Fun K "_law_tuples" "_law_tuples" ZaA f fd) (T:Txt K mg):FnOk P w K mg base (CXE P w) 1 f fd ["many","size"] (ZcW K mg):=by
 refine F.okX Zah (λvs H Q E h=>?_) (λcdv A outer s H vs Q E hr h=>?_)
 .obtain⟨many,size,rfl,_⟩:=h;rfl
 obtain⟨many,size,rfl,hm,hs,k1⟩:=h
 refine⟨_,(Ze (Zu (i:=2) Zah.nd rfl (Or.inl rfl) (ZZ (Za (ZdA Zb) Zb)))
   (Ze (ZbD (Zdz PassesOwn.never rfl (ZM rfl T.b_range (Za (pv 1) Zb)) (Zm (i:=3) Zah.nd rfl (Or.inl rfl)) (Ze (Zu (i:=4) Zah.nd rfl (Or.inl rfl) (ZZ Zb))
   (Ze (ZbD (Zdz PassesOwn.never rfl (Zam (pv 2)) (Zm (i:=5) Zah.nd rfl (Or.inr rfl)) (Zg (Zal (Zdb PySem.F.plainAttrs_list PySem.F.slot_list_extend PySem.F.type_list_extend Zqo (pv 4) (Za (Z2 ["place","one"] [none,some 5] rfl rfl rfl (Zf8 rfl T.b_range (Za (Zy Zcd (Zk ZF (pe_orT (K:=K) rfl (pv 5) (ZnH (ZdA (Za (Zfr ZcL Zf) Zb)))) (Zfr ZcL Zf) (λ_ _=>rfl)) Zf) (Za (pv 0) Zb))) (λ_ _ _ _ _=>(Zm (i:=0) (show(["place","one"]:List Str).Nodup from by decide +kernel) rfl (Or.inl rfl))) (λ_ _ _ _ _=>Zad) (λ_ _ _ _ _=>(Zy ZuU (pv 1) (ZdA (Za (pv 0) Zb)))) Zs) Zb))))))
   (Zg (Zu (i:=2) Zah.nd rfl (Or.inl rfl) (pv 4)))))))
   (Zg (Zz (pv 2))))),?_⟩
 refine ZaP (fun σ Hx=>∃l,σ=[some (.int (many:Int)),some (.int (size:Int)),some (.ref l),none,none,none]/\H l=none/\Zo Hx l [[]]/\Zd H Hx) (λR hR=>?_) ?_
 .right
  refine⟨by decide,λp zp=>⟨by decide,λl zl=>hR _ _ ⟨l,rfl,((Zd.refl H).upd zp).free zl,⟨[p],Zc,rfl,λi h1 h2=>?_⟩,((Zd.refl H).upd zp).Zaj zl⟩⟩⟩
  have:i=0:=by simp at h1;omega
  subst this
  exact((Zd.refl _).upd zl) _ _ Zc
 rintro σ H1 ⟨l,rfl,zl,tl,s1⟩
 refine ZaP (fun σ Hx=>∃(l:Addr) (rs:List (List Int)) (v3 v4 v5:Option V),σ=[some (.int (many:Int)),some (.int (size:Int)),some (.ref l),v3,v4,v5]/\H l=none/\Zo Hx l rs/\rs.length<=6561/\(∀r,r∈rs↔r.length=size/\Ris many r)/\Zd H Hx) (λR hR=>?_) ?_
 .right
  refine⟨⋯,⋯,?_⟩
  rw[Jj]
  refine Zeg (λi σ Hx=>∃(l:Addr) (rs:List (List Int)) (v3 v4 v5:Option V),σ=[some (.int (many:Int)),some (.int (size:Int)),some (.ref l),v3,v4,v5]/\H l=none/\Zo Hx l rs/\rs.length<=9 ^ i/\(∀r,r∈rs↔r.length=i/\Ris many r)/\Zd H Hx) ⟨l,[[]],_,_,_,rfl,zl,tl,by decide,λr=>?_,s1⟩ ?_ ?_
  .constructor
   .intro h
    have:r=[]:=by simpa using h
    subst this
    exact⟨rfl,⟨λx hx=>absurd hx (by simp),List.Pairwise.nil⟩⟩
   .rintro⟨h,_⟩
    rw[List.length_eq_zero_iff.mp h];simp
  .clear tl s1 zl l H1
   rintro i σ H1 hi ⟨l,rs,v3,v4,v5,rfl,zl,tl,lr,hrs,s1⟩
   have l6561:9 ^ i<=729:=Nat.pow_le_pow_right nofun (show i<=3 by omega)
   refine ZaP (fun σ Hx=>∃g,σ=[some (.int (many:Int)),some (.int (size:Int)),some (.ref l),some (.int (0+(i:Int))),some (.ref g),v5]/\H1 g=none/\Hx g=some (.lst [])/\Zd H1 Hx) (λR hR=>?_) ?_
   .right
    exact⟨by decide,λg zg=>hR _ _ ⟨g,rfl,zg,Zc,(Zd.refl H1).upd zg⟩⟩
   rintro σ H2 ⟨g,rfl,zg,hg,s2⟩
   have zg0:H g=none:=s1.free zg
   refine ZaP (fun σ Hx=>∃v5,σ=[some (.int (many:Int)),some (.int (size:Int)),some (.ref l),some (.int (0+(i:Int))),some (.ref g),v5]/\Zo Hx g (rs.flatMap (onL many))/\Zd H Hx) (λR hR=>?_) ?_
   .right
    have tl2:=tl.same s2
    refine⟨tl2.sq,?_⟩
    have nlg:l≠g:=λz=>by
     obtain⟨as,e,_⟩:=tl
     rw[z,zg]at e;cases e
    refine Zob (n:=rs.length) (λk σ Hz=>∃v5,σ=[some (.int (many:Int)),some (.int (size:Int)),some (.ref l),some (.int (0+(i:Int))),some (.ref g),v5]/\Zo Hz g ((rs.take k).flatMap (onL many))/\((rs.take k).flatMap (onL many)).length<=9*k/\Exc g H2 Hz) ⟨_,rfl,by simpa using Zo.nil hg,by simp,(Zd.refl H2).Zjg⟩ (λk σ Hz hk ⟨_,_,_,_,ez⟩=>(ZoO tl2 nlg hg ez).1 k Hz (Zd.refl _) hk) (fun σ Hz ⟨_,_,_,_,ez⟩=>(ZoO tl2 nlg hg ez).2.1 Hz (Zd.refl _)) ?_ ?_
    .rintro k x σ Hz Hz' hk ⟨v5,rfl,tg,lg,ez⟩ y
     obtain⟨rfl,a,rfl,ha⟩:=(ZoO (K:=K) tl2 nlg hg ez).2.2 k x Hz Hz' hk (Zd.refl _) y
     have hR':=((hrs rs[k]).mp (YF hk)).2
     have hl4:=((hrs rs[k]).mp (YF hk)).1
     have etk:rs.take (k+1)=rs.take k++[rs[k]]:=by rw[Jd,Yf hk];rfl
     generalize rs[k]=r at hR' hl4 ha etk
     obtain⟨as,eg,l1',k1'⟩:=id tg
     have ngt:∀c ys,Hz' c=some (.tup ys)->c≠g:=λc ys e z=>by rw[z,eg]at e;cases e
     obtain⟨lb1,lb2,_⟩:=Zgh hR'
     have lon:=Zp6 hR'
     -- what is gathered from here on,in any heap that has grown
     have fin:∀(H5:Hp) (b:Addr) (acc:List V),Zd Hz' H5->H5 b=some (.lst acc)->ZaM H5 acc (onL many r)->∃(xs zs:List V),H5 g=some (.lst xs)/\H5 b=some (.lst zs)/\xs.length+zs.length<=sizeLine/\(Zo (upd H5 g (.lst (xs++zs))) g ((rs.take (k+1)).flatMap (onL many))/\((rs.take (k+1)).flatMap (onL many)).length<=9*(k+1)/\Exc g H2 (upd H5 g (.lst (xs++zs)))):=λH5 b acc s5 hb tv=>by
      refine⟨as.map V.ref,acc,s5 _ _ eg,hb,Yr (show _<=10000 by rw[Yi,l1',tv.len];omega) nofun,?_,?_,?_⟩
      .rw[etk,List.flatMap_append]
       have:=Zo.app (s5 _ _ eg) (tg.same s5) tv
       simpa using this
      .rw[etk,List.flatMap_append,YS,List.flatMap_singleton]
       omega
      .exact(ez.same s5).trans Exc.upd
     right
     have tail:∀(H3:Hp),Zd Hz' H3->Zjf (Itr (ZcZ r+1) ((many:Int)-(ZcZ r+1)).toNat) (Zgl 0) tYes (tOp ZmX (Zlp 1) (tTup (ZkJ (Zlp 0) Zql))) [none,some (V.ref a)] (λx H1=>∃x_2,x=V.ref x_2/\∃x,H1 g=some (HO.lst x)/\∃x_3,H1 x_2=some (HO.lst x_3)/\x.length+x_3.length<=sizeLine/\Zo (upd H1 g (HO.lst (x++x_3))) g (List.flatMap (onL many) (List.take (k+1) rs))/\(List.flatMap (onL many) (List.take (k+1) rs)).length<=9*(k+1)/\Exc g H2 (upd H1 g (HO.lst (x++x_3)))) H3:=λH3 s3=>by
      refine Zvd (s3 _ _ ha) ⋯ hm hR' λb acc H5 s5 hb tv=>?_
      obtain⟨xs,zs,f1,f2,f3,f4⟩:=fin H5 b acc (s3.trans s5) hb tv
      exact⟨b,rfl,xs,f1,zs,f2,f3,f4⟩
     refine⟨Z5 eg,_,.inr (.inl ⟨_,SqT.of ha,rfl⟩),ZA (λz=>?_) λz=>?_⟩
     .rcases List.eq_nil_or_concat r with rfl|⟨q,x,rfl⟩
      .cases z
      .rw[List.concat_eq_append]at *
       rw[ZjN]at tail lb1 lb2
       exact⟨_,SqT.of ha,_,Zk2 q x,x,rfl,⋯,⋯,⋯,⋯,tail _ (Zd.refl _)⟩
     .have er:r=[]:=by
       cases r with
       |nil=>rfl
       |cons x r=>exact absurd rfl z
      subst er
      exact⟨by decide,λp zp=>⟨_,SqT.of Zc,_,rfl,-1,rfl,by decide,by decide,⋯,⋯,tail _ ((Zd.refl _).upd zp)⟩⟩
    .rintro σ Hz ⟨v5,rfl,tg,lg,ez⟩
     rw[List.take_length]at tg
     exact hR _ _ ⟨_,rfl,tg,(s1.trans s2).exc zg0 ez⟩
   clear s2 hg H2
   rintro σ H2 ⟨v5,rfl,tg,s2⟩
   right
   refine⟨zg0,_,tg,?_,λr=>?_,s2⟩
   .have:∀l:List (List Int),(∀r∈l,r∈rs)->(l.flatMap (onL many)).length<=9*l.length:=by
     intro l
     induction l with
     |nil=>intro _;simp
     |cons r l ih =>
      intro h
      have h1:=ih λq hq=>h q (Yu _ hq)
      have h2:=Zp6 ((hrs r).mp (h r Yv)).2
      rw[List.flatMap_cons,YS,YN]
      omega
    have:=this rs λ_ h=>h
    rw[Nat.pow_succ];omega
   .rw[List.mem_flatMap]
    constructor
    .rintro⟨q,hq,hr'⟩
     obtain⟨h1,h2⟩:=(hrs q).mp hq
     obtain⟨x,rfl,h3⟩:=(Zp5 h2).mp hr'
     exact⟨by simp[h1],h3⟩
    .rintro⟨h1,h2⟩
     rcases List.eq_nil_or_concat r with rfl|⟨q,x,rfl⟩
     .simp at h1
     .rw[List.concat_eq_append]at h1 h2⊢
      have h3:=(Zhp.mp h2).1
      exact⟨q,(hrs q).mpr ⟨by simp at h1;omega,h3⟩,(Zp5 h3).mpr ⟨x,rfl,h2⟩⟩
  .rintro σ Hx ⟨l,rs,v3,v4,v5,rfl,zl,tl,lr,hrs,sx⟩
   exact hR _ _ ⟨l,rs,_,_,_,rfl,zl,tl,Yr lr (Nat.pow_le_pow_right nofun hs),hrs,sx⟩
 rintro σ Hx ⟨l,rs,v3,v4,v5,rfl,zl,tl,lr,hrs,sx⟩
 right
 exact k1 l rs Hx zl tl lr hrs sx
theorem Zh5 {l:Addr}{rs:List (List Int)}{H1:Hp}{Q:VK}{tt:TT}{σr:Lake.St} (P:List Int->Bool) (tl:Zo H1 l rs) (hn:rs.length<=7000)
  (ht:∀(a:Addr) (r:List Int) (H:Hp) (R:Bool->Hp->Prop),r∈rs->Zd H1 H->H a=some (.tup (r.map V.int))->(∀H',Zd H H'->R (P r) H')->tt (some (V.ref a)::σr) H R)
  (hk:∀g H',Zd H1 H'->H1 g=none->Zo H' g (rs.filter P)->Q (.ref g) H'):Zjf (Itl K l) (Zgl 0) tt (Zlp 0) (none::σr) Q H1:=by
 obtain⟨w1,w2,w3⟩:=tl.walk (K:=K)
 refine ZaL (n:=rs.length) (λj acc Hz=>ZaM Hz acc ((rs.take j).filter P)/\Zd H1 Hz) (YG hn nofun) ⟨by simpa using ZaM.nil,Zd.refl _⟩ (λj acc Hz ⟨_,s⟩ hj=>w1 j Hz s hj) (λacc Hz ⟨_,s⟩=>w2 Hz s) ?_ ?_
 .rintro j x acc Hz Hw hj hla ⟨tv,sz⟩ y
  obtain⟨rfl,a,rfl,ha⟩:=w3 j x Hz Hw hj sz y
  have etk:rs.take (j+1)=rs.take j++[rs[j]]:=by rw[Jd,Yf hj];rfl
  refine ht a rs[j] Hw _ (YF hj) sz ha λH' s'=>?_
  refine ZA (λc=>?_) λc=>CA.skip hj hla ⟨?_,sz.trans s'⟩
  .right
   refine CA.take hj hla ⟨?_,sz.trans s'⟩
   rw[etk,List.filter_append,List.filter_cons_of_pos c,List.filter_nil]
   exact(tv.same s').snoc (s' _ _ ha)
  .rw[etk,List.filter_append,List.filter_cons_of_neg c,List.filter_nil,List.append_nil]
   exact tv.same s'
 .rintro g acc Hz ⟨tv,sz⟩ _ zg
  rw[List.take_length]at tv
  exact hk g _ (sz.Zaj zg) (sz.free zg) (tv.at zg)
theorem ZiJ {f:Addr}{fd:FuncData} (F:Fun K "_law_holding" "_law_holding" Zag f fd) (ZX:Callee P w K mg base "_law_tree" 2 ["row"] (Zbj K mg)) (ZdN:Callee P w K mg base "_law_tuples" 1 ["many","size"] (ZcW K mg)) (T:Txt K mg):FnOk P w K mg base (CXE P w) 3 f fd ["row","text"] (Zcg K mg):=by
 refine F.okX Zfi (λvs H Q E h=>?_) (λcdv A outer s H vs Q E hr h=>?_)
 .obtain⟨r,x,ns,ts,rfl,_⟩:=h;rfl
 obtain⟨r,x,ns,ts,rfl,hr1,hx,n1,n2,k1⟩:=h
 refine⟨_,(Ze (Zu (i:=2) Zfi.nd rfl (Or.inr rfl) (Zi ZX (hr.mono nofun) rfl ZC (Za (pv 0) Zb)))
   (Zg (Zz (Z2 ["one","tree","text"] [none,some 2,some 1] rfl rfl rfl (Zam (Zi ZdN (hr.mono nofun) rfl ZC (Za (Zn (Zt (K:=K) rfl) rfl T.b_len YL (Za (pv 1) Zb)) (Za (Zn (Zt (K:=K) rfl) rfl T.b_len YL (Za (pv 0) Zb)) Zb)))) (λ_ _ _ _ _=>(Zm (i:=0) (show(["one","tree","text"]:List Str).Nodup from by decide +kernel) rfl (Or.inl rfl))) (λ_ _ _ _ _=>Z1 (Zj (Zfu (K:=K) rfl hr) (Zi ZX (hr.mono nofun) rfl ZC (Za (Z2 ["place","text"] [none,some 2] rfl rfl rfl (ZuO (K:=K) rfl (pv 0)) (λ_ _ _ _ _=>(Zm (i:=0) (show(["place","text"]:List Str).Nodup from by decide +kernel) rfl (Or.inl rfl))) (λ_ _ _ _ _=>Zad) (λ_ _ _ _ _=>(Zk (r:=ZdB K) Zr (pv 1) (pv 0) (λ_ _=>rfl))) Zs) Zb)) (pv 1) (Zl _))) (λ_ _ _ _ _=>(pv 0)) Zs)))),?_⟩
 right
 refine⟨r,ns,rfl,hr1,⋯,.inl λt es H1 hT s1 ht=>⟨_,.inl (SqL.of (s1 _ _ hx)),_,s1.q hr1,ts.length,ns.length,by rw[Yi,Yi],n2,n1,λl rs H2 zl tl ll hrs s2=>⟨l,rfl,tl.sq,?_⟩⟩⟩
 have hin:∀q∈rs,∀y∈q,∃k:Nat,y=k/\k<ts.length:=λq hq y hy=>by
  obtain⟨h1,h2⟩:=((hrs q).mp hq).2.1 y hy
  obtain⟨k,rfl⟩:=Jg h1
  exact⟨k,rfl,⋯⟩
 refine Zh5 (λq=>@decide (Zp (atL ts q) es) (Y3 _)) tl ⋯ ?_ ?_
 .intro a q H3 R hq s3 ha hR
  have lq:=((hrs q).mp hq).1
  right
  refine⟨⟨_,SqT.of ha⟩,?_⟩
  refine comp_map (n:=q.length) (λj=>V.int (nth (atL ts q) j)) (YG (show _<=1000 by omega) nofun) (λj Hx s hj=>⟨_,_,SqT.of (s _ _ ha),Znl hj⟩) (λHx s=>⟨_,SqT.of (s _ _ ha),by rw[Yi];exact Yc _⟩) ?_ ?_
  .rintro j y Hx Hy hj s ⟨rfl,hy⟩
   have:=hy _ (SqT.of (s _ _ ha))
   rw[Znl hj]at this
   cases this
   have ej:nth q j=q[j]:=by unfold nth;rw[Yh,Yf hj];rfl
   obtain⟨k,ek,hk⟩:=hin q hq (nth q j) (by rw[ej];exact YF hj)
   have ea:nth (atL ts q) j=nth ts k:=by
    unfold atL
    show((q.map λx=>nth ts x.toNat).getD j 0)=_
    rw[Yh,YE,Yf hj,<-ej,ek]
    simp
   rw[ek]
   right
   exact⟨_,SqL.of ((s2.trans (s3.trans s)) _ _ (s1 _ _ hx)),_,Zf9 (Znl hk),CW.next hj (by rw[ea]) s⟩
  .intro b Hx sx zb
   have eb:(List.range q.length).map (λj=>V.int (nth (atL ts q) j))=(atL ts q).map V.int:=by
    refine List.ext_getElem (by simp[atL]) λj h1 h2=>?_
    have:j<(atL ts q).length:=by simpa using h2
    simp[nth,Yh,this]
   rw[eb]
   have gb:=(Zd.refl Hx).upd (o:=.lst ((atL ts q).map V.int)) zb
   refine⟨b,atL ts q,rfl,.inl (SqL.of Zc),by simp[atL];omega,.inl λu es' H4 hT4 s4 hu=>?_⟩
   have s5:=sx.trans (gb.trans s4)
   refine⟨u,rfl,_,Zgb (n:=2) (K:=K) Zcp _ _ _ _ (ZcN (SqT.of hu)) (ZcN (SqT.of ((s2.trans (s3.trans s5)) _ _ ht))),?_⟩
   have:=hR H4 s5
   rw[show(@decide (Zp (atL ts q) es) (Y3 _))=decide (es'=es)from Bool.eq_iff_iff.mpr (by
    rw[@decide_eq_true_iff _ (Y3 _),decide_eq_true_iff]
    exact⟨λz=>hT4.unique z,λz=>z▸hT4⟩)]at this
   exact this
 .intro g H3 s3 zg tg
  refine k1 g _ H3 (s1.free (s2.free zg)) tg (Yr (Jc _ _) ll) (λq=>?_) (s1.trans (s2.trans s3))
  rw[YQ,hrs q,@decide_eq_true_iff _ (Y3 _)]
  constructor
  .rintro⟨⟨h1,h2⟩,h3⟩
   exact⟨h1,h2,es,hT,h3⟩
  .rintro⟨h1,h2,W,h3,h4⟩
   exact⟨⟨h1,h2⟩,h3.unique hT▸h4⟩
theorem ZoP {n:Str}{H H1:Hp}{p:Addr} (h:ZU K mg n H) (P:ZK H p) (e:Exc p H H1):ZU K mg n H1:=by
 obtain⟨x,hx,_⟩:=P
 refine e _ _ (λz=>?_) h
 have h2:H (Zfo K mg n)=some (ZiG (ZgH n)):=h
 rw[z,hx]at h2
 cases h2
theorem Zp7 {ns:List Int}{i:Nat} (h:i<ns.length):nth ns i∈ns:=by
 unfold nth
 rw[Yh,Yf h];exact YF h
theorem Znt {ns T:List Int} (hT:Zp ns T) {p:Nat} (hp:p<T.length):(nth T p=-1/\way T p=[])\/∃q:Nat,nth T p=q/\q<T.length/\way T p=q::way T q:=by
 have e:=hT.1
 rcases Zca hT (p:=p) ⋯with z|⟨q,z,hq,_,_⟩
 .exact .inl ⟨z,ZlQ z⟩
 .exact .inr ⟨q,z,⋯,ZcQ hT ⋯ z⟩
theorem top_in {ns T:List Int} (hT:Zp ns T):∀k p,p<T.length->(way T p).length<=k->(-1:Int)∈T:=by
 intro k
 induction k with
 |zero =>
  intro p hp hk
  rcases Znt hT hp with⟨z,_⟩|⟨q,_,_,z⟩
  .rw[<-z];exact Zp7 hp
  .rw[z]at hk;simp at hk
 |succ k ih =>
  intro p hp hk
  rcases Znt hT hp with⟨z,_⟩|⟨q,_,hq,z⟩
  .rw[<-z];exact Zp7 hp
  .exact ih q hq (by rw[z,YN]at hk;omega)
theorem Zp8 {H:Hp}{l q:Addr}{rs:List (List Int)}{r:List Int} (h:Zo H l rs) (hq:H q=some (.tup (r.map V.int))):∃(as:List Addr) (e:Addr->Bool),SqL K H l (as.map V.ref)/\as.length=rs.length/\(∀a∈as,EqD K H 3 (.ref a) (.ref q) (e a))/\as.any e=decide (r∈rs)/\as.countP e=rs.count r:=by
 obtain⟨as,h1,h2,h3⟩:=h
 have inj:∀x:List Int,(some (HO.tup (x.map V.int))=some (HO.tup (r.map V.int)))↔x=r:=λx=>⟨λz=>(List.map_inj_right (λ_ _ h=>V.int.inj h)).mp (HO.tup.inj (YM z)),λz=>by rw[z]⟩
 have key:∀(as:List Addr) (rs:List (List Int)),as.length=rs.length->(∀i (h1:i<as.length) (h2:i<rs.length),H as[i]=some (.tup (rs[i].map V.int))) ->
   as.any (λa=>@decide (H a=H q) (Y3 _))=decide (r∈rs)/\as.countP (λa=>@decide (H a=H q) (Y3 _))=rs.count r:=by
  intro as
  induction as with
  |nil =>
   intro rs hl _
   have:rs=[]:=List.length_eq_zero_iff.mp hl.symm
   subst this
   exact⟨by simp,rfl⟩
  |cons a as ih =>
   intro rs hl hk
   cases rs with
   |nil=>cases hl
   |cons x rs =>
    obtain⟨i1,i2⟩:=ih rs (by simpa using hl) λi h1 h2=>hk (i+1) (by simpa using h1) (by simpa using h2)
    have ha:H a=some (.tup (x.map V.int)):=hk 0 (by simp) (by simp)
    have e0:@decide (H a=H q) (Y3 _)=decide (x=r):=by
     by_cases z:x=r
     .rw[Yt z]
      exact @decide_eq_true _ (Y3 _) (by rw[ha,hq,z])
     .rw[Yz z]
      exact @decide_eq_false _ (Y3 _) (λy=>z ((inj x).mp (by rw[<-ha,<-hq];exact y)))
    rw[List.any_cons,List.countP_cons,List.count_cons,i1,i2,e0]
    by_cases z:x=r
    .subst z;simp
    .have z2:¬ r=x:=λy=>z y.symm
     simp[z,z2]
 refine⟨as,λa=>@decide (H a=H q) (Y3 _),SqL.of h1,h2,λa ha=>?_,key as rs h2 h3⟩
 obtain⟨i,hi,rfl⟩:=YZ ha
 have hx:=h3 i hi ⋯
 have:=Zgb (n:=2) (K:=K) Zcp _ _ _ _ (ZcN (SqT.of hx)) (ZcN (SqT.of hq))
 have e0:@decide (H as[i]=H q) (Y3 _)=decide (rs[i]'⋯=r):=by
  by_cases z:rs[i]'⋯=r
  .rw[Yt z]
   exact @decide_eq_true _ (Y3 _) (by rw[hx,hq,z])
  .rw[Yz z]
   exact @decide_eq_false _ (Y3 _) (λy=>z ((inj _).mp (by rw[<-hx,<-hq];exact y)))
 show EqD K H 3 _ _ (@decide (H as[i]=H q) (Y3 _))
 rw[e0];exact this
theorem Zli:∀{a b c:List Int},lxI a b=true->lxI b c=true->lxI a c=true
 |[],[],c,h,_=>by cases h
 |[],b::bs,[],_,h=>by cases h
 |[],b::bs,c::cs,_,_=>rfl
 |a::as,[],c,h,_=>by cases h
 |a::as,b::bs,[],_,h=>by cases h
 |a::as,b::bs,c::cs,h1,h2=>by
  rw[Zbg]at h1 h2⊢
  by_cases e1:a=b
  .subst e1
   rw[Yd rfl]at h1
   by_cases e2:a=c
   .rw[Yd e2]at h2⊢;exact Zli h1 h2
   .rw[Yb e2]at h2⊢;exact h2
  .rw[Yb e1]at h1
   have h1:=YT h1
   by_cases e2:b=c
   .subst e2;rw[Yb e1];exact Yt h1
   .rw[Yb e2]at h2
    have h2:=YT h2
    rw[Yb ⋯];exact Yt ⋯
theorem ZjP {rs:List (List Int)} (h:rs.Pairwise λx y=>lxI x y=true):rs.Nodup:=List.Pairwise.imp (λ{x y} h z=>by rw[z,ZgJ]at h;cases h) h
theorem Zp9:∀{rs qs:List (List Int)},(rs.Pairwise λx y=>lxI x y=true)->(qs.Pairwise λx y=>lxI x y=true)->(∀r,r∈rs↔r∈qs)->rs=qs
 |[],[],_,_,_=>rfl
 |[],q::qs,_,_,h=>absurd ((h q).mpr (.head _)) (by simp)
 |r::rs,[],_,_,h=>absurd ((h r).mp (.head _)) (by simp)
 |r::rs,q::qs,h1,h2,h=>by
  obtain⟨a1,a2⟩:=Jb.mp h1
  obtain⟨b1,b2⟩:=Jb.mp h2
  have e:r=q:=by
   rcases Yk.mp ((h r).mp (.head _))with z|z
   .exact z
   .rcases Yk.mp ((h q).mpr (.head _))with y|y
    .exact y.symm
    .have:=Zli (b1 r z) (a1 q y)
     rw[ZgJ]at this;cases this
  subst e
  rw[Zp9 a2 b2 λx=>?_]
  have nr:r∉rs:=(List.nodup_cons.mp (ZjP h1)).1
  have nq:r∉qs:=(List.nodup_cons.mp (ZjP h2)).1
  have:=h x
  constructor
  .intro z
   rcases Yk.mp (this.mp (.tail _ z))with y|y
   .exact absurd (y▸z) nr
   .exact y
  .intro z
   rcases Yk.mp (this.mpr (.tail _ z))with y|y
   .exact absurd (y▸z) nq
   .exact y
theorem Zch.uniq {S S':List Int->Prop}{rs qs:List (List Int)} (h:Zch S rs) (k:Zch S' qs) (e:∀r,(S r/\∀q,S q->Win q r->q=r)↔(S' r/\∀q,S' q->Win q r->q=r)):rs=qs:=Zp9 h.1 k.1 λr=>(h.2 r).trans ((e r).trans (k.2 r).symm)
theorem Zhq {a b c d:Int}:([a,b]:List Int)=[c,d]↔a=c/\b=d:=by simp
theorem ZoQ {S S':List Int->Prop} (hp:∀r,S r->∃x y,r=[x,y]) (sub:∀r,S' r->S r) (dom:∀r,S r->∃q,S' q/\Win q r) (r:List Int):(S r/\∀q,S q->Win q r->q=r)↔(S' r/\∀q,S' q->Win q r->q=r):=by
 have anti:∀q r,S q->S r->Win q r->Win r q->q=r:=λq r hq hr w1 w2=>by
  obtain⟨x,y,rfl⟩:=hp q hq
  obtain⟨x',y',rfl⟩:=hp r hr
  have a1:x'<=x:=w1.1
  have a2:y<=y':=w1.2
  have a3:x<=x':=w2.1
  have a4:y'<=y:=w2.2
  rw[Zhq];omega
 have tr:∀{p q r:List Int},Win p q->Win q r->Win p r:=λa b=>⟨Int.le_trans b.1 a.1,Int.le_trans a.2 b.2⟩
 constructor
 .rintro⟨h1,h2⟩
  obtain⟨q,k1,k2⟩:=dom r h1
  have e:=h2 q (sub q k1) k2
  exact⟨e▸k1,λq' k3 k4=>h2 q' (sub q' k3) k4⟩
 .rintro⟨h1,h2⟩
  refine⟨sub r h1,λq k1 k2=>?_⟩
  obtain⟨q',k3,k4⟩:=dom q k1
  have e:=h2 q' k3 (tr k4 k2)
  subst e
  exact anti q q' k1 (sub _ k3) k2 k4
theorem Zch.congr {S S':List Int->Prop}{rs:List (List Int)} (h:Zch S rs) (e:∀r,S r↔S' r):Zch S' rs:=⟨h.1,λr=>(h.2 r).trans ⟨λk=>⟨(e r).mp k.1,λq hq=>k.2 q ((e q).mpr hq)⟩,λk=>⟨(e r).mpr k.1,λq hq=>k.2 q ((e q).mp hq)⟩⟩⟩
theorem ZjQ {f:Addr}{fd:FuncData} (F:Fun K "lies_within" "lies_within" Zay f fd) (T:Txt K mg):FnOk P w K mg base (CXE P w) 1 f fd ["pair","other"] (ZcX K mg):=by
 refine F.okX ZjG (λvs H Q E h=>?_) (λcdv A outer s H vs Q E hr h=>?_)
 .obtain⟨p,q,a,b,c,d,rfl,_⟩:=h;rfl
 obtain⟨p,q,a,b,c,d,rfl,hp,hq,k1⟩:=h
 refine⟨_,(Zg (Zz (Zlr (Zeu (Zn0 (K:=K) rfl hr) (pv 0) (pv 1) (Zl _)) (Zlr (Zeu ZkI (Zk ZF (pv 1) Zf (λ_ _=>rfl)) (Zk ZF (pv 0) Zf (λ_ _=>rfl)) (Zl _)) (ZnH (Zeu ZkI (Zk ZF (pv 0) Zf (λ_ _=>rfl)) (Zk ZF (pv 1) Zf (λ_ _=>rfl)) (Zl _))))))),?_⟩
 right
 refine⟨_,Zgb (n:=2) (K:=K) Zcp _ _ _ _ (ZcN (ns:=[a,b]) (SqT.of hp)) (ZcN (ns:=[c,d]) (SqT.of hq)),ZA (λz=>?_) λz=>k1 false ?_⟩
 .have z:¬ ([a,b]=[c,d]):=of_decide_eq_false z
  rw[Zhq]at z
  refine⟨_,SqT.of hq,_,rfl,_,SqT.of hp,_,rfl,_,rfl,_,rfl,ZA (λy=>⟨_,SqT.of hp,_,rfl,_,SqT.of hq,_,rfl,_,rfl,_,rfl,k1 _ ?_⟩) λy=>k1 false ?_⟩
  .rw[decide_eq_true_iff]
   exact⟨λh=>⟨z,y,h⟩,λh=>h.2.2⟩
  .exact⟨λh=>absurd h (by simp),λh=>absurd h.2.1 y⟩
 .have z:[a,b]=[c,d]:=by simpa using z
  rw[Zhq]at z
  exact⟨λh=>absurd h (by simp),λh=>absurd z h.1⟩
noncomputable def Za0 (ps:List Pt):List (List Int):=ps.filterMap λp=>p.map λe=>[e.1,e.2]
theorem ZgM {ps:List Pt}{r:List Int}:r∈Za0 ps↔∃e:Int×Int,some e∈ps/\r=[e.1,e.2]:=by
 unfold Za0
 rw[List.mem_filterMap]
 constructor
 .rintro⟨p,hp,e⟩
  cases p with
  |none=>cases e
  |some e'=>exact⟨e',hp,(YM e).symm⟩
 .rintro⟨e,he,rfl⟩
  exact⟨some e,he,rfl⟩
theorem ZoR (ps:List Pt):(Za0 ps).length<=ps.length:=List.length_filterMap_le _ _
theorem Zi2 {ns T:List Int} (hT:Zp ns T) (h0:0<ns.length):(-1:Int)∈T/\T.idxOf (-1)<T.length/\nth T (T.idxOf (-1))=-1:=by
 have hm1:=top_in hT _ 0 (by have:=hT.1;omega) (Yc _)
 have ht:=List.idxOf_lt_length_of_mem hm1
 refine⟨hm1,ht,?_⟩
 unfold nth
 rw[Yh,Yf ht]
 simp
theorem Zqa {H:Hp}{l:Addr}{tab:List (List Pt)}{i:Nat} (h:Zfh H l tab) (hi:i<tab.length):∃(xs:List V) (a:Addr) (vals:List V),H l=some (.lst xs)/\xs[i]?=some (.ref a)/\H a=some (.lst vals)/\vals.length=(tab.getD i []).length/\∀(j:Nat) (v:V) (p:Pt),vals[j]?=some v->(tab.getD i [])[j]?=some p->ZaZ H v p:=by
 obtain⟨as,h1,_,h2,h3⟩:=h
 obtain⟨vals,g1,g2,g3⟩:=h3 i (as[i]'⋯) (tab[i]'hi) (Yf ⋯) (Yf hi)
 have e:tab.getD i []=tab[i]'hi:=by rw[Yh,Yf hi];rfl
 refine⟨_,as[i]'⋯,vals,h1,by rw[YE,Yf ⋯];rfl,g1,by rw[e];exact g2,by rw[e];exact g3⟩
theorem ZgN {f:Addr}{fd:FuncData} (F:Fun K "least_stretches" "least_stretches" ZP f fd) (Zh8:Callee P w K mg base "tree_of" 2 ["row"] (ZgL K mg)) (ZeQ:Callee P w K mg base "need_loose" 2 ["row","text"] (ZdF K mg)) (ZgR:Callee P w K mg base "table_by" 6 ["tree","text"] (ZfD K mg)) (ZdO:Callee P w K mg base "lies_within" 1 ["pair","other"] (ZcX K mg)) (T:Txt K mg):FnOk P w K mg base (CXE P w) 7 f fd ["row","text"] (Za6 K mg):=by
 refine F.okX Zaq (λvs H Q E h=>?_) (λcdv A outer s H vs Q E hr h=>?_)
 .obtain⟨r,x,ns,ts,rfl,_⟩:=h;rfl
 obtain⟨r,x,ns,ts,rfl,hr1,hx,h0,h6,h16,hT1,hT2,hT3,k1⟩:=h
 refine⟨_,(Ze (Zal (Zi ZeQ (hr.mono nofun) rfl ZiS (Za (pv 0) (Za (pv 1) Zb))))
   (Ze (Zu (i:=2) Zaq.nd rfl (Or.inl rfl) (Zi Zh8 (hr.mono nofun) rfl ZC (Za (pv 0) Zb)))
   (Ze (Zu (i:=3) Zaq.nd rfl (Or.inl rfl) (Zk Zr (Zi ZgR (hr.mono nofun) rfl ZC (Za (pv 2) (Za (pv 1) Zb))) (Zsq PySem.F.slot_tuple_index PySem.F.type_tuple_index (Zk5 (K:=K) rfl) (pv 2) (Za (Zfr ZcL Zf) Zb)) (λ_ _=>rfl)))
   (Ze (Zu (i:=4) Zaq.nd rfl (Or.inr rfl) (Znj ["pair"] [none] rfl hr rfl T.b_sorted rfl rfl (Zam (pv 3)) (λ_ _ _ _ _=>(Zm (i:=0) (show(["pair"]:List Str).Nodup from by decide +kernel) rfl (Or.inl rfl))) (λ_ _ _ _ _=>Z1 (Zj ZbM (pv 0) Zac (Zl _))) (λ_ _ _ _ _=>(pv 0)) Zs))
   (Zg (Zz (Z2 ["pair","pairs"] [none,some 4] rfl rfl rfl (Zam (pv 4)) (λ_ _ _ _ _=>(Zm (i:=0) (show(["pair","pairs"]:List Str).Nodup from by decide +kernel) rfl (Or.inr rfl))) (λ_ _ _ _ _=>Z1 (Zi7 (Zi5 (Zn (ZrU (K:=K) rfl rfl) rfl T.b_any bt_any (Za (Z2 ["other","pair"] [none,some 0] rfl rfl rfl (Zr1 (K:=K) rfl (pv 1)) (λ_ _ _ _ _=>(Zm (i:=0) (show(["other","pair"]:List Str).Nodup from by decide +kernel) rfl (Or.inl rfl))) (λ_ _ _ _ _=>Zad) (λ_ _ _ _ _=>(Zi ZdO (hr.mono nofun) rfl ZC (Za (pv 0) (Za (pv 1) Zb)))) Zs) Zb))))) (λ_ _ _ _ _=>(pv 0)) Zs))))))),?_⟩
 right
 refine⟨r,x,ns,ts,rfl,hr1,hx,h0,h6,h16,r,ns,rfl,hr1,⋯,λt T' H1 hT s1 ht=>⟨t,x,T',ts,rfl,ht.sq,s1.q hx,⟨by have:=hT.1;omega,ns,hT⟩,h16,ZU.same hT1 s1,ZU.same hT2 s1,ZU.same hT3 s1,λl tab H2 zl TB FB hTab s2=>?_⟩⟩
 obtain⟨hm1,htl,ht2⟩:=Zi2 hT h0
 obtain⟨xs,a,vals,hl,hxa,ha,hvl,hvp⟩:=Zqa TB (i:=T'.idxOf (-1)) (by rw[hTab.1];exact htl)
 have hpl:=(hTab.2 _ htl).1
 have htop:∀r,ZiH T' tab r↔r∈Za0 (tab.getD (T'.idxOf (-1)) []):=λr=>ZgM.symm
 generalize tab.getD (T'.idxOf (-1)) []=ps at hvl hvp hpl htop
 refine⟨⟨t,rfl,_,ht.same s2⟩,t,rfl,T',(ht.same s2).sq,hm1,l,rfl,xs,SqL.of hl,V.ref a,by rw[Zf9 hxa],a,rfl,⟨_,SqL.of ha⟩,?_⟩
 refine ZsE (n:=vals.length) (λj kss Hz=>kss=Za0 (ps.take j)/\Zd H2 Hz) ⋯ ⟨rfl,Zd.refl _⟩ (λj kss Hz ⟨_,s⟩ hj=>⟨_,_,SqL.of (s _ _ ha),Yf hj⟩) (λkss Hz ⟨_,s⟩=>⟨_,SqL.of (s _ _ ha),Yc _⟩) ?_ ?_
 .rintro j y kss Hz Hw hj hla ⟨rfl,sz⟩ ⟨rfl,hy⟩
  have:=hy _ (SqL.of (sz _ _ ha))
  rw[Yf hj]at this
  cases this
  have hp:=hvp j vals[j] (ps[j]'⋯) (Yf hj) (Yf ⋯)
  have etk:ps.take (j+1)=ps.take j++[ps[j]'⋯]:=by rw[Jd,Yf ⋯];rfl
  generalize vals[j]=y at hp⊢
  generalize ps[j]'⋯=pt at hp etk
  cases pt with
  |none =>
   have hp:y=.non:=hp
   subst hp
   right
   refine ZA (λz=>absurd z (by simp)) λ_=>SA.skip hj hla ⟨?_,sz⟩
   rw[etk];unfold Za0;rw[List.filterMap_append];simp
  |some e =>
   obtain⟨q,rfl,hq⟩:=hp
   right
   refine ZA (λ_=>⟨[e.1,e.2],hq,SA.take hj hla ⟨?_,sz⟩⟩) λz=>absurd z (by simp)
   rw[etk];unfold Za0;rw[List.filterMap_append];simp
 .rintro kss H3 ⟨rfl,s3⟩ hkl
  rw[List.take_of_length_le ⋯]at hkl⊢
  have hpp:∀r∈Za0 ps,∃x y:Int,r=[x,y]:=λr hr=>by obtain⟨e,_,rfl⟩:=ZgM.mp hr;exact⟨_,_,rfl⟩
  refine⟨⋯,λk hk z=>(by obtain⟨x,y,e⟩:=hpp k hk;rw[e]at z;exact absurd z (by simp)),λrs g H4 hrs hpw zg s4 tg=>⟨g,rfl,tg.sq,?_⟩⟩
  have hrl:rs.length<=16:=by
   have:=ZoD (ZjP hpw) λr hr=>(hrs r).mp hr
   omega
  have hrp:∀r∈rs,∃x y:Int,r=[x,y]:=λr hr=>hpp r ((hrs r).mp hr)
  have s14:=s1.trans (s2.trans (s3.trans s4))
  refine Zh5 (λr=>!(rs.any λq=>decide (q≠r/\Win q r))) tg ⋯ ?_ ?_
  .intro a r Hx R hr sx har hR
   obtain⟨c,d,rfl⟩:=hrp r hr
   have tgx:=tg.same sx
   obtain⟨w1,w2,w3⟩:=tgx.walk (K:=K)
   right
   refine⟨tgx.sq,?_⟩
   refine comp_map (n:=rs.length) (λj=>V.bl (decide (rs.getD j []≠[c,d]/\Win (rs.getD j []) [c,d]))) (YG (show _<=1000 by omega) nofun) (λj Hz s hj=>w1 j Hz s hj) (λHz s=>w2 Hz s) ?_ ?_
   .rintro j y Hz Hw hj s hy
    obtain⟨rfl,u,rfl,hu⟩:=w3 j y Hz Hw hj s hy
    have ej:rs.getD j []=rs[j]:=by rw[Yh,Yf hj];rfl
    have hm:rs[j]∈rs:=YF hj
    generalize rs[j]=q at hu hm ej
    obtain⟨a',b',rfl⟩:=hrp q hm
    right
    refine⟨u,a,a',b',c,d,rfl,hu,s _ _ har,λz hz=>CW.next hj ?_ s⟩
    have:z=decide ([a',b']≠[c,d]/\Win [a',b'] [c,d]):=by
     rw[Bool.eq_iff_iff,hz,decide_eq_true_iff]
     exact⟨λh=>⟨λy=>h.1 (Zhq.mp y),h.2⟩,λh=>⟨λy=>h.1 (Zhq.mpr y),h.2⟩⟩
    rw[this,ej]
   .intro lz Hz sz zlz
    refine⟨lz,rfl,(List.range rs.length).map λj=>decide (rs.getD j []≠[c,d]/\Win (rs.getD j []) [c,d]),SqL.of (by rw[Zc,Je];rfl),?_⟩
    have ea:((List.range rs.length).map λj=>decide (rs.getD j []≠[c,d]/\Win (rs.getD j []) [c,d])).any id=rs.any λq=>decide (q≠[c,d]/\Win q [c,d]):=by
     have:(List.range rs.length).map (λj=>decide (rs.getD j []≠[c,d]/\Win (rs.getD j []) [c,d]))=rs.map λq=>decide (q≠[c,d]/\Win q [c,d]):=by
      refine List.ext_getElem (by simp) λj h1 h2=>?_
      have:j<rs.length:=by simpa using h2
      simp[Yh,this]
     rw[this,List.any_map];rfl
    have:=hR _ (sz.Zaj (o:=.lst ((List.range rs.length).map λj=>V.bl (decide (rs.getD j []≠[c,d]/\Win (rs.getD j []) [c,d])))) zlz)
    rw[<-ea]at this
    exact this
  .intro g' H5 s5 zg' tg'
   refine k1 g' T' tab _ H5 (s14.free zg') hT hTab ⟨List.Pairwise.filter _ hpw,λr=>?_⟩ (Yr (Jc _ _) hrl) tg' (s14.trans s5)
   rw[YQ,hrs r,htop r]
   constructor
   .rintro⟨h1,h2⟩
    refine⟨h1,λq hq hw=>?_⟩
    have h2:rs.any (λq=>decide (q≠r/\Win q r))=false:=by simpa using h2
    have:=List.any_eq_false.mp h2 q ((hrs q).mpr ((htop q).mp hq))
    exact Classical.byContradiction λz=>this (Yt ⟨z,hw⟩)
   .rintro⟨h1,h2⟩
    refine⟨h1,?_⟩
    rw[Bool.not_eq_true',List.any_eq_false]
    intro q hq z
    have z:=YT z
    exact z.1 (h2 q ((htop q).mpr ((hrs q).mp hq)) z.2)
theorem maxN {S:Nat->Prop}:∀(N:Nat),(∃n,S n)->(∀n,S n->n<N)->∃m,S m/\∀n,S n->n<=m
 |0,⟨n,h⟩,b=>absurd (b n h) (Nat.not_lt_zero _)
 |N+1,h,b=>by
  by_cases c:S N
  .exact⟨N,c,λn hn=>Nat.lt_succ_iff.mp (b n hn)⟩
  .exact maxN N h λn hn=>by
    have:=b n hn
    have:n≠N:=λz=>c (z▸hn)
    omega
theorem minN {S:Nat->Prop} (n:Nat) (h:S n):∃m,S m/\∀k,S k->m<=k:=by
 induction n using Nat.strongRecOn with
 |ind n ih =>
  by_cases c:∃k,k<n/\S k
  .obtain⟨k,h1,h2⟩:=c
   exact ih k h1 h2
  .exact⟨n,h,λk hk=>Nat.le_of_not_lt λz=>c ⟨k,z,hk⟩⟩
theorem ZsK {f:Nat->Int}{ts:List Int}{a b v i:Nat} (hv:ZL f a b v):∃p:Pt,ZbQ f ts a b v i p:=by
 have hab:=Yr hv.1 hv.2.1
 by_cases h:∃g,Zcs f ts a b g/\g v=i
 .obtain⟨g,hg,e⟩:=h
  obtain⟨m,⟨g1,p1,p2,p3⟩,m2⟩:=maxN (S:=λn=>∃g,Zcs f ts a b g/\g v=i/\g a=n) ts.length ⟨_,g,hg,e,rfl⟩ λn ⟨g,h1,_,h2⟩=>h2▸h1.2.1 a (Yc _) hab
  obtain⟨k,⟨g2,q1,q2,q3⟩,k2⟩:=minN (S:=λn=>∃g,Zcs f ts a b g/\g v=i/\g b=n) _ ⟨g,hg,e,rfl⟩
  refine⟨some ((m:Int),(k:Int)),ZoM hv ⟨g1,p1,p2,by rw[p3]⟩ ⟨g2,q1,q2,by rw[q3]⟩ λg hg e=>⟨?_,?_⟩⟩
  .have:=m2 _ ⟨g,hg,e,rfl⟩;omega
  .have:=k2 _ ⟨g,hg,e,rfl⟩;omega
 .exact⟨none,λg hg e=>h ⟨g,hg,e⟩⟩
theorem ZsL (T ns ts:List Int):∃tab,ZeJ T ns ts tab:=by
 have ex:∀v i:Nat,∃p:Pt,∀a b,Zbl T ns v a b->ZbQ (nth ns) ts a b v i p:=λv i=>by
  by_cases c:∃a b,Zbl T ns v a b
  .obtain⟨a,b,h⟩:=c
   obtain⟨p,hp⟩:=ZsK (ts:=ts) (i:=i) h.2.2.2.2.2.1
   refine⟨p,λa' b' h'=>?_⟩
   obtain⟨e1,e2⟩:=h.uniq h'
   rw[<-e1,<-e2];exact hp
  .exact⟨none,λa b h=>absurd ⟨a,b,h⟩ c⟩
 refine⟨(List.range T.length).map λv=>(List.range ts.length).map λi=>Classical.choose (ex v i),by simp,λv hv=>?_⟩
 have e:((List.range T.length).map λv=>(List.range ts.length).map λi=>Classical.choose (ex v i)).getD v []=(List.range ts.length).map λi=>Classical.choose (ex v i):=by
  simp[Yh,hv]
 rw[e]
 refine⟨by simp,λa b h i hi=>?_⟩
 have e2:((List.range ts.length).map λi=>Classical.choose (ex v i)).getD i none=Classical.choose (ex v i):=by
  simp[Yh,hi]
 rw[e2]
 exact Classical.choose_spec (ex v i) a b h
theorem Zq2 {ns T ts:List Int}{tab:List (List Pt)} (hT:Zp ns T) (hG:Zcm T) (h:Zdg T ts tab):ZeJ T ns ts tab:=by
 obtain⟨t2,h2⟩:=ZsL T ns ts
 have:=Zno hG h (ZeJ.tab hT h2)
 rw[this];exact h2
theorem ZsM {ns T:List Int} (hT:Zp ns T) {v:Nat} (hv:v<ns.length) (h:nth T v=-1):Zbl T ns v 0 (ns.length-1):=by
 obtain⟨a,b,h1,h2,h3,h4,h5,h6,h7⟩:=ZeI hT hv
 have hE:=hT.2 v hv
 have hE:Zx (nth ns) ns.length v (-1):=by
  have e:T.getD v 0=-1:=h
  rw[<-e];exact hE
 have hN:ZcO (nth ns) v/\ZbE (nth ns) ns.length v:=by
  rcases hE with⟨x,y,_⟩|⟨q,_,_,z⟩|⟨r,_,_,z⟩|⟨q,r,_,_,z⟩
  .exact⟨x,y⟩
  .omega
  .omega
  .split at z<;>omega
 have ea:a=0:=by rw[Zhe hN.1]at h4;omega
 have eb:b=ns.length-1:=by rw[ZiV hN.2]at h5;omega
 subst ea eb
 exact⟨h1,h2,h3,h4,h5,h6,h7⟩
theorem Zqb {ns:List Int} (h0:0<ns.length):ZsI ns ns 0 (ns.length-1):=⟨⋯,λj _=>by rw[Nat.zero_add]⟩
theorem Zlj {ns T ts:List Int}{tab:List (List Pt)} (hT:Zp ns T) (h0:0<ns.length) (hG:Zcm T) (hTab:Zdg T ts tab):(tab.getD (T.idxOf (-1)) []).length=ts.length/\∀i,i<ts.length->ZbQ (nth ns) ts 0 (ns.length-1) (T.idxOf (-1)) i ((tab.getD (T.idxOf (-1)) []).getD i none):=by
 obtain⟨_,htl,ht2⟩:=Zi2 hT h0
 have eT:=hT.1
 have hS:=Zq2 hT hG hTab
 obtain⟨k1,k2⟩:=hS.2 _ htl
 exact⟨k1,λi hi=>k2 _ _ (ZsM hT ⋯ ht2) i hi⟩
theorem Zqc {ns T ts:List Int}{tab:List (List Pt)} (hT:Zp ns T) (h0:0<ns.length) (hG:Zcm T) (hTab:Zdg T ts tab) {r:List Int} (hr:ZiH T tab r):∃g:Nat->Nat,Zcs (nth ns) ts 0 (ns.length-1) g/\r=[(g 0:Int),(g (ns.length-1):Int)]:=by
 obtain⟨k1,k2⟩:=Zlj hT h0 hG hTab
 obtain⟨e,he,rfl⟩:=hr
 obtain⟨i,hi,ei⟩:=YZ he
 have:=k2 i ⋯
 rw[Yh,Yf hi,ei]at this
 obtain⟨⟨g,a1,_,a3,a4⟩,_⟩:=(show ZbQ (nth ns) ts 0 (ns.length-1) (T.idxOf (-1)) i (some e)from this)
 exact⟨g,a1,by rw[a3,a4]⟩
theorem top_bd {ns T ts:List Int}{tab:List (List Pt)} (hT:Zp ns T) (h0:0<ns.length) (hTab:Zdg T ts tab) (h6:ns.length<=6) (h16:ts.length<=16) {r:List Int} (hr:ZiH T tab r):∃x y,r=[x,y]/\0<=y/\y<100000:=by
 obtain⟨g,hg,rfl⟩:=Zqc hT h0 ⟨by have:=hT.1;omega,ns,hT⟩ hTab hr
 have:=hg.2.1 (ns.length-1) (Yq _) (Yc _)
 exact⟨_,_,rfl,⋯,⋯⟩
theorem Zq3 {ns T ts:List Int}{tab:List (List Pt)} (hT:Zp ns T) (h0:0<ns.length) (hG:Zcm T) (hTab:Zdg T ts tab) {rs:List (List Int)} (hrs:∀r,r∈rs↔ZjF ns ts r) :
  (∀r,ZiH T tab r->∃h∈rs,[nth h 0,nth h (ns.length-1)]=r)/\∀h∈rs,∃q,ZiH T tab q/\Win q [nth h 0,nth h (ns.length-1)]:=by
 constructor
 .intro r hr
  obtain⟨g,hg,rfl⟩:=Zqc hT h0 hG hTab hr
  obtain⟨h,k1,k2⟩:=ZoN (Yq _) (Zqb h0) hg
  have e1:=k2 0 (Yc _) (Yq _)
  have e2:=k2 (ns.length-1) (Yq _) (Yc _)
  exact⟨h,(hrs h).mpr k1,by rw[<-e1,<-e2];rfl⟩
 .intro h hh
  have hH:=(hrs h).mp hh
  have hg:=ZsJ (Yq _) (Zqb h0) hH
  obtain⟨k1,k2⟩:=Zlj hT h0 hG hTab
  obtain⟨_,htl,_⟩:=Zi2 hT h0
  have eT:=hT.1
  have hv:=hg.2.1 (T.idxOf (-1)) (Yq _) ⋯
  have ge:∀x,x<ns.length->((nth h x).toNat:Int)=nth h x:=λx hx=>by
   have:=(Zi1.mp hH.2.1).1 x (by rw[hH.1];exact hx)
   omega
  have:=k2 _ hv
  cases hp:(tab.getD (T.idxOf (-1)) []).getD (nth h (T.idxOf (-1)-0)).toNat none with
  |none =>
   rw[hp]at this
   exact absurd rfl (this _ hg)
  |some e =>
   rw[hp]at this
   obtain⟨_,k3⟩:=this
   obtain⟨a1,a2⟩:=k3 _ hg rfl
   have e1:=ge 0 h0
   have e2:=ge (ns.length-1) ⋯
   refine⟨[e.1,e.2],⟨e,?_,rfl⟩,?_,?_⟩
   .rw[Yh,Yf (by rw[k1];exact hv)]at hp
    rw[<-show _=some e from hp]
    exact YF _
   .show nth h 0<=e.1
    have a1:((nth h (0-0)).toNat:Int)<=e.1:=a1
    rw[Nat.sub_zero]at a1;omega
   .show e.2<=nth h (ns.length-1)
    have a2:e.2<=((nth h (ns.length-1-0)).toNat:Int):=a2
    rw[Nat.sub_zero]at a2;omega
theorem ZsN {r q:List Int} (hr:∃x y,r=[x,y]/\0<=y/\y<100000) (hq:∃x y,q=[x,y]/\0<=y/\y<100000) (h:Zem r<=Zem q) (ne:r≠q):lxI r q=true:=by
 obtain⟨x,y,rfl,h1,h2⟩:=hr
 obtain⟨x',y',rfl,h3,h4⟩:=hq
 have h:x*100000+y<=x'*100000+y':=h
 rw[Zbg]
 by_cases e:x=x'
 .subst e
  rw[Yd rfl,Zbg,Yb (λz=>ne (by rw[z]))]
  refine Yt ?_
  have:y≠y':=λz=>ne (by rw[z])
  omega
 .rw[Yb e]
  exact Yt ⋯
noncomputable def Zqd (ps qs told:List (List Int)):Prop:=(told.Pairwise λx y=>lxI x y=true)/\∀r,r∈told↔(r∈qs/\∀q∈ps,Win q r->q=r)
theorem ZgO {f:Addr}{fd:FuncData} (F:Fun K "_law_least_ones" "_law_least_ones" ZQ f fd) (T:Txt K mg):FnOk P w K mg base (CXE P w) 1 f fd ["pairs"] (Zao K mg):=by
 refine F.okX Zar (λvs H Q E h=>?_) (λcdv A outer s H vs Q E hr h=>?_)
 .obtain⟨l,ps,rfl,_⟩:=h;rfl
 obtain⟨l,ps,rfl,hl,hp,hn,k1⟩:=h
 refine⟨_,(Ze (Zu (i:=1) Zar.nd rfl (Or.inl rfl) (ZZ Zb))
   (Ze (ZbD (Zdz PassesOwn.never rfl (Zam (Zn (Zkj (K:=K) rfl) rfl T.b_sorted Zgc (Za (pv 0) Zb))) (Zm (i:=2) Zar.nd rfl (Or.inr rfl)) (Ze (Zas (i:=3) ["one","pair"] [none,some 2] Zar.nd rfl (Or.inl rfl) rfl rfl rfl (Zam (pv 0)) (λ_ _ _ _ _=>(Zm (i:=0) (show(["one","pair"]:List Str).Nodup from by decide +kernel) rfl (Or.inl rfl))) (λ_ _ _ _ _=>Z1 (PW.pt (ZcK (Zj ZkI (Zk (r:=Zfn K) ZF (pv 1) Zf (λ_ _=>rfl)) (Zk (r:=Zfn K) ZF (pv 0) Zf (λ_ _=>rfl)) (Zl _)) (Zco (Zj ZkI (Zk (r:=Zfn K) ZF (pv 0) Zf (λ_ _=>rfl)) (Zk (r:=Zfn K) ZF (pv 1) Zf (λ_ _=>rfl)) (Zl _)))))) (λ_ _ _ _ _=>(pv 0)) Zs)
   (Zg (Zaa (PW.pt (ZcK (Zj (ZqG (K:=K) rfl hr) (pv 2) (pv 1) (by with_unfolding_all rfl)) (Zco (Zj Zgm (Zdb PySem.F.plainAttrs_list PySem.F.slot_list_count PySem.F.type_list_count (ZqW (K:=K) rfl hr) (pv 3) (Za (pv 2) Zb)) (Zn (Zt (K:=K) rfl) rfl T.b_len YL (Za (pv 3) Zb)) (Zl _))))) (Zg (Zal (Zdb PySem.F.plainAttrs_list PySem.F.slot_list_append PySem.F.type_list_append Zav (pv 1) (Za (pv 2) Zb)))) ZI)))))
   (Zg (Zz (pv 1))))),?_⟩
 right
 refine⟨Yq _,λp zp=>⟨ps,hl.same ((Zd.refl H).upd zp),hp,⋯,λrs g H1 hperm hpw zg s1 tg=>⟨tg.sq,?_⟩⟩⟩
 have hlen:rs.length=ps.length:=hperm.length_eq
 have hpr:∀r∈rs,∃x y,r=[x,y]/\0<=y/\y<100000:=λr hr=>hp r (hperm.mem_iff.mp hr)
 have s01:Zd H H1:=((Zd.refl H).upd zp).trans s1
 have hp1:H1 p=some (.lst []):=s1 _ _ Zc
 have hl1:Zo H1 l ps:=hl.same s01
 have nlp:l≠p:=λz=>by obtain⟨as,e,_⟩:=hl;rw[z,zp]at e;cases e
 have ngp:g≠p:=λz=>by rw[z,Zc]at zg;cases zg
 have tu:∀{Hx:Hp}{b:Addr}{qs:List (List Int)},Zo H1 b qs->b≠p->Exc p H1 Hx->Zo Hx b qs:=λh n e=>h.keep (λxs z=>e _ _ n z) λa xs z=>e _ _ (λy=>by rw[y,hp1]at z;cases z) z
 obtain⟨w1,w2,w3⟩:=tg.walk (K:=K)
 refine Zob (n:=rs.length) (λj σ Hx=>∃(v2 v3:Option V) (told:List (List Int)),σ=[some (.ref l),some (.ref p),v2,v3]/\Zo Hx p told/\told.length<=j/\Zqd ps (rs.take j) told/\Exc p H1 Hx) ⟨_,_,[],rfl,Zo.nil hp1,Yc _,⟨.nil,λr=>by simp⟩,(Zd.refl H1).Zjg⟩ (λj σ Hx hj ⟨_,_,_,_,_,_,_,e⟩=>?_) (fun σ Hx ⟨_,_,_,_,_,_,_,e⟩=>?_) ?_ ?_
 .obtain⟨a1,_,_⟩:=(tu tg ngp e).walk (K:=K)
  exact a1 j _ (Zd.refl _) hj
 .obtain⟨_,a2,_⟩:=(tu tg ngp e).walk (K:=K)
  exact a2 _ (Zd.refl _)
 .rintro j x σ Hx Hy hj ⟨v2,v3,told,rfl,tp,hlt,⟨L1,L2⟩,ex⟩ hy
  obtain⟨_,_,a3⟩:=(tu tg ngp ex).walk (K:=K)
  obtain⟨rfl,u,rfl,hu⟩:=a3 j x _ _ hj (Zd.refl _) hy
  have etk:rs.take (j+1)=rs.take j++[rs[j]]:=by rw[Jd,Yf hj];rfl
  have hrj:rs[j]∈rs:=YF hj
  have hbe:∀q∈rs.take j,Zem q<=Zem rs[j]:=λq hq=>by
   obtain⟨i,hi,e⟩:=List.mem_take_iff_getElem.mp hq
   rw[<-e]
   exact List.pairwise_iff_getElem.mp hpw i j ⋯ hj ⋯
  generalize rs[j]=r at hu etk hrj hbe
  obtain⟨x,y,er,hy0,hy1⟩:=hpr r hrj
  have lHy:Zo Hy l ps:=tu hl1 nlp ex
  right
  refine⟨lHy.sq,Zh5 (λq=>decide (Win q r)) lHy ⋯ ?_ ?_⟩
  .intro a q Hz R hq sz haz hR
   obtain⟨x',y',eq,_,_⟩:=hp q hq
   have huz:=sz _ _ hu
   subst er eq
   right
   refine⟨_,SqT.of huz,_,rfl,_,SqT.of haz,_,rfl,_,rfl,_,rfl,ZA (λz=>⟨_,SqT.of haz,_,rfl,_,SqT.of huz,_,rfl,_,rfl,_,rfl,?_⟩) λz=>?_⟩
   .have e:decide (Win [x',y'] [x,y])=decide (y'<=y):=by
     rw[decide_eq_decide]
     exact⟨λh=>h.2,λh=>⟨z,h⟩⟩
    rw[<-e]
    exact hR Hz (Zd.refl _)
   .have e:decide (Win [x',y'] [x,y])=false:=Yz λh=>z h.1
    have:=hR Hz (Zd.refl _)
    rw[e]at this
    exact this
  .intro i H2 s2 zi ti
   have tp2:=tp.same s2
   have hu2:=s2 _ _ hu
   obtain⟨as,e,q1,q2,q3,q4,_⟩:=Zp8 (K:=K) tp2 hu2
   obtain⟨bs,e',p1,p2,p3,_,p5⟩:=Zp8 (K:=K) ti hu2
   have ex2:Exc p H1 H2:=ex.same s2
   have hmin:((ps.filter λq=>decide (Win q r)).count r=(ps.filter λq=>decide (Win q r)).length)↔∀q∈ps,Win q r->q=r:=by
    rw[List.count_eq_length]
    constructor
    .intro h q hq hw
     exact(h q (YQ.mpr ⟨hq,Yt hw⟩)).symm
    .intro h q hq
     obtain⟨h1,h2⟩:=YQ.mp hq
     exact(h q h1 (YT h2)).symm
   have skip:¬ (r∉told/\∀q∈ps,Win q r->q=r)->∃(told:List (List Int)),Zo H2 p told/\told.length<=j+1/\Zqd ps (rs.take (j+1)) told/\Exc p H1 H2:=λh=>by
    refine⟨told,tp2,⋯,⟨L1,λq=>?_⟩,ex2⟩
    rw[L2 q,etk,YB,Y2]
    constructor
    .rintro⟨h1,h2⟩;exact⟨.inl h1,h2⟩
    .rintro⟨h1|h1,h2⟩
     .exact⟨h1,h2⟩
     .subst h1
      have:q∈told:=Classical.byContradiction λz=>h ⟨z,h2⟩
      exact(L2 q).mp this
   right
   obtain⟨cs,hi,hcl,_⟩:=id ti
   obtain⟨ds,hpp,hdl,hdk⟩:=id tp2
   have hbl:bs.length<=7000:=by rw[p2];exact Yr (Jc _ _) hn
   refine⟨as,q1,e,q3,ZA (λz=>?_) λz=>skip λh=>?_⟩
   .rw[q4]at z
    have z:=of_decide_eq_false z
    refine⟨Z5 hi,bs,p1,⋯,e',p3,_,.inl p1,ZA (λy1=>?_) λy1=>skip λh=>?_⟩
    .have yy:bs.countP e'=bs.length:=by rw[Yi]at y1;exact Int.ofNat.inj y1
     rw[p5,p2]at yy
     have hm:=hmin.mp yy
     refine⟨Z5 hpp,_,hpp,by rw[Yi,hdl];exact YG (show _<=7000 by omega) nofun,_,Zo.push hpp hdl hdk hu2,by simp;omega,⟨?_,λq=>?_⟩,ex2.trans Exc.upd⟩
     .rw[List.pairwise_append]
      refine⟨L1,by simp,λt ht q hq=>?_⟩
      rw[Y2.mp hq]
      have ht2:=((L2 t).mp ht).1
      exact ZsN (hpr t (List.mem_of_mem_take ht2)) ⟨x,y,er,hy0,hy1⟩ (hbe t ht2) λy=>z (y▸ht)
     .rw[YB,Y2,L2 q,etk,YB,Y2]
      constructor
      .rintro(⟨h1,h2⟩|h1)
       .exact⟨.inl h1,h2⟩
       .subst h1;exact⟨.inr rfl,hm⟩
      .rintro⟨h1|h1,h2⟩
       .exact .inl ⟨h1,h2⟩
       .exact .inr h1
    .refine y1 ?_
     rw[Yi,p5,p2,hmin.mpr h.2]
   .rw[q4]at z
    exact z (Yz h.1)
 .rintro σ Hx ⟨v2,v3,told,rfl,tp,hlt,⟨L1,L2⟩,ex⟩
  rw[List.take_length]at L2
  right
  exact k1 p told Hx zp ⟨L1,λr=>(L2 r).trans (and_congr_left λ_=>hperm.mem_iff)⟩ tp (s01.exc zp ex)
theorem ZgP {f:Addr}{fd:FuncData} (F:Fun K "_law_told_right" "_law_told_right" ZR f fd) (ZaF:Callee P w K mg base "least_stretches" 7 ["row","text"] (Za6 K mg)) (ZbR:Callee P w K mg base "_law_either" 2 ["pot","some"] (ZcV K mg)) (T:Txt K mg):FnOk P w K mg base (CXE P w) 8 f fd ["pot","row","text","due"] (Za7 K mg):=by
 refine F.okX Za8 (λvs H Q E h=>?_) (λcdv A outer s H vs Q E hr h=>?_)
 .obtain⟨p,r,x,d,ns,ts,T,tab,rs,rfl,_⟩:=h;rfl
 obtain⟨p,r,x,d,ns,ts,T',tab,rs,rfl,P1,nrp,nxp,ndp,hr1,hx,n0,n6,n16,hT,hTab,hL,hd,hT1,hT2,hT3,k1⟩:=h
 refine⟨_,(Ze (Zu (i:=4) Za8.nd rfl (Or.inl rfl) (ZdA (Za (Zi ZbR (hr.mono nofun) rfl ZC (Za (pv 0) (Za (pv 1) Zb))) (Za (Zi ZbR (hr.mono nofun) rfl ZC (Za (pv 0) (Za (pv 2) Zb))) Zb))))
   (Ze (Zu (i:=5) Za8.nd rfl (Or.inl rfl) (Zi ZaF (hr.mono nofun) rfl ZiS (Za (Zk ZF (pv 4) Zf (λ_ _=>rfl)) (Za (Zk ZF (pv 4) Zf (λ_ _=>rfl)) Zb))))
   (Ze (Zaa (PW.pt (ZkH (Zi7 (Zi5 (Zn (ZkR (K:=K) rfl) rfl T.b_isinstance Zgn (Za (pv 5) (Za (Zpl (v:=.ty "list") rfl T.b_list ZiT rfl) Zb))))) (ZkH (Zj (Zn0 (K:=K) rfl hr) (pv 5) (pv 3) (Zl _)) (Zi6 (Zi7 (Zi5 (Zn (ZrT (K:=K) rfl rfl) rfl T.b_all bt_all (Za (Z2 ["pair"] [none] rfl rfl rfl (Zam (pv 5)) (λ_ _ _ _ _=>(Zm (i:=0) (show(["pair"]:List Str).Nodup from by decide +kernel) rfl (Or.inl rfl))) (λ_ _ _ _ _=>Zad) (λ_ _ _ _ _=>(Zn (ZkR (K:=K) rfl) rfl T.b_isinstance Zgn (Za (pv 0) (Za (Zpl (v:=.ty "tuple") rfl T.b_tuple Zg7 rfl) Zb)))) Zs) Zb)))))))) (Zg (Zz Zi4)) ZI)
   (Ze (Zal (Zdb PySem.F.plainAttrs_list PySem.F.slot_list_append PySem.F.type_list_append Zav (pv 5) (Za (ZdA (Za Zf (Za Zf Zb))) Zb)))
   (Zg (Zz (Zlr (Zeu (Zfu (K:=K) rfl hr) (Zi ZaF (hr.mono nofun) rfl ZiS (Za (Zk ZF (pv 4) Zf (λ_ _=>rfl)) (Za (Zk ZF (pv 4) Zf (λ_ _=>rfl)) Zb))) (pv 3) (Zl _)) (Zlr (Zeu (Zfu (K:=K) rfl hr) (ZcG (ZgD (K:=K) rfl) rfl T.b_list ZiT (Za (Zk ZF (pv 4) Zf (λ_ _=>rfl)) Zb)) (pv 1) (Zl _)) (ZnH (Zeu (Zfu (K:=K) rfl hr) (ZcG (ZgD (K:=K) rfl) rfl T.b_list ZiT (Za (Zk ZF (pv 4) Zf (λ_ _=>rfl)) Zb)) (pv 2) (Zl _))))))))))),?_⟩
 have hG:Zcm T':=⟨by have:=hT.1;omega,ns,hT⟩
 refine ZaP (fun σ Hx=>∃(h u1 u2:Addr),σ=[some (.ref p),some (.ref r),some (.ref x),some (.ref d),some (.ref h),none]/\Hx h=some (.tup [.ref u1,.ref u2])/\(Hx u1=some (.lst (ns.map V.int))\/Hx u1=some (.tup (ns.map V.int)))/\(Hx u2=some (.lst (ts.map V.int))\/Hx u2=some (.tup (ts.map V.int)))/\ZK Hx p/\Exc p H Hx) (λR hR=>?_) ?_
 .right
  refine⟨p,r,_,rfl,P1,nrp,hr1,by rw[Yi];omega,λu1 H2 zu1 hu1 P2 e2=>⟨p,x,_,rfl,P2,nxp,e2 _ _ nxp hx,by rw[Yi];omega,λu2 H3 zu2 hu2 P3 e3=>⟨by decide,λh zh=>hR _ _ ⟨h,u1,u2,rfl,Zc,?_,?_,P3.upd zh,(e2.trans e3).same ((Zd.refl H3).upd zh)⟩⟩⟩⟩
  .have n1:u1≠p:=P1.ne zu1
   exact hu1.imp (λz=>((Zd.refl H3).upd zh) _ _ (e3 _ _ n1 z)) λz=>((Zd.refl H3).upd zh) _ _ (e3 _ _ n1 z)
  .exact hu2.imp (λz=>((Zd.refl H3).upd zh) _ _ z) λz=>((Zd.refl H3).upd zh) _ _ z
 rintro σ H1 ⟨h,u1,u2,rfl,hh,hu1,hu2,P2,e1⟩
 have hdn:∀{a:Addr}{xs:List V},H a=some (.tup xs)->a≠p:=λe z=>by
  obtain⟨g,eg,_⟩:=P1
  rw[z,eg]at e;cases e
 replace hd:Zo H1 d rs:=hd.keep (λxs z=>e1 _ _ ndp z) λa xs z=>e1 _ _ (hdn z) z
 replace hr1:=e1 _ _ nrp hr1
 replace hx:=e1 _ _ nxp hx
 have q1:∀(H2:Hp),Zd H1 H2->(SqL K H2 u1 (ns.map V.int)\/SqT K H2 u1 (ns.map V.int)):=λH2 s2=>hu1.imp (λz=>SqL.of (s2 _ _ z)) λz=>SqT.of (s2 _ _ z)
 have q2:∀(H2:Hp),Zd H1 H2->(SqL K H2 u2 (ts.map V.int)\/SqT K H2 u2 (ts.map V.int)):=λH2 s2=>hu2.imp (λz=>SqL.of (s2 _ _ z)) λz=>SqT.of (s2 _ _ z)
 have hT1:ZU K mg "from_below" H1:=ZoP hT1 P1 e1
 have hT2:ZU K mg "best_ahead" H1:=ZoP hT2 P1 e1
 have hT3:ZU K mg "best_behind" H1:=ZoP hT3 P1 e1
 have same:∀{T2:List Int}{tab2:List (List Pt)}{rs2:List (List Int)},Zp ns T2->Zdg T2 ts tab2->Zch (ZiH T2 tab2) rs2->rs2=rs:=λa b c=>by
  have eT:=a.unique hT
  subst eT
  have et:=Zno hG hTab b
  subst et
  exact c.uniq hL λ_=>Iff.rfl
 refine ZaP (fun σ Hx=>∃(l:Addr),σ=[some (.ref p),some (.ref r),some (.ref x),some (.ref d),some (.ref h),some (.ref l)]/\H1 l=none/\Zo Hx l rs/\rs.length<=16/\Zd H1 Hx) (λR hR=>?_) ?_
 .right
  refine⟨_,SqT.of hh,_,rfl,_,SqT.of hh,_,rfl,u1,u2,ns,ts,rfl,q1 _ (Zd.refl _),q2 _ (Zd.refl _),n0,n6,n16,hT1,hT2,hT3,λl T2 tab2 rs2 H2 zl a b c hl16 tl s2=>?_⟩
  have e:=same a b c
  subst e
  exact hR _ _ ⟨l,rfl,zl,tl,hl16,s2⟩
 rintro σ H2 ⟨l,rfl,zl,tl,hl16,s2⟩
 have nlh:∀{a:Addr}{o:HO},H1 a=some o->a≠l:=λe z=>by rw[z,zl]at e;cases e
 refine ZaP (fun σ Hx=>σ=[some (.ref p),some (.ref r),some (.ref x),some (.ref d),some (.ref h),some (.ref l)]/\Zo Hx l rs/\Zd H1 Hx) (λR hR=>?_) ?_
 .right
  obtain⟨as,hla,hal,hak⟩:=id tl
  obtain⟨w1,w2,w3⟩:=tl.walk (K:=K)
  refine⟨true,.inl ⟨_,.lst hla,by with_unfolding_all rfl⟩,ZA (λz=>nomatch z) λ_=>⟨_,Zga (n:=2) (K:=K) (Zgb (n:=1) Zcp) _ _ _ _ tl.isL (hd.same s2).isL,ZA (λz=>absurd z (by simp)) λ_=>⟨tl.sq,?_⟩⟩⟩
  refine comp_map (n:=rs.length) (λ_=>V.bl true) (YG (show _<=1000 by omega) nofun) (λj Hx s hj=>w1 j Hx s hj) (λHx s=>w2 Hx s) ?_ ?_
  .rintro j y Hx Hy hj s hy
   obtain⟨rfl,u,rfl,hu⟩:=w3 j y Hx Hy hj s hy
   right
   exact⟨true,.inl ⟨_,.tup hu,by with_unfolding_all rfl⟩,CW.next hj rfl s⟩
  .intro lz Hx sx hlz
   refine⟨lz,rfl,List.replicate rs.length true,SqL.of (by rw[Zc,List.map_replicate,List.map_const',Y6]),ZA (λz=>absurd z (by simp)) λ_=>hR _ _ ⟨rfl,tl.same (sx.Zaj hlz),s2.trans (sx.Zaj hlz)⟩⟩
 rintro σ H3 ⟨rfl,tl3,s3⟩
 obtain⟨as,hla,hal,hak⟩:=id tl3
 refine ZaP (fun σ Hx=>σ=[some (.ref p),some (.ref r),some (.ref x),some (.ref d),some (.ref h),some (.ref l)]/\Zd H1 Hx) (λR hR=>?_) ?_
 .right
  refine⟨Z5 hla,by decide,λq zq=>⟨_,((Zd.refl H3).upd zq) _ _ hla,by rw[Yi,hal];exact YG (show _<=1000 by omega) nofun,hR _ _ ⟨rfl,λb o e=>by rw[Zh (nlh e)];exact(s3.Zaj zq) b o e⟩⟩⟩
 rintro σ H4 ⟨rfl,s4⟩
 right
 refine⟨_,SqT.of (s4 _ _ hh),_,rfl,_,SqT.of (s4 _ _ hh),_,rfl,u1,u2,ns,ts,rfl,q1 _ s4,q2 _ s4,n0,n6,n16,ZU.same hT1 s4,ZU.same hT2 s4,ZU.same hT3 s4,λl2 T2 tab2 rs2 H5 zl2 a b c hl2 tl2 s5=>?_⟩
 have e:=same a b c
 subst e
 have s45:=s4.trans s5
 refine⟨l2,rfl,_,Zga (n:=2) (K:=K) (Zgb (n:=1) Zcp) _ _ _ _ tl2.isL (hd.same s45).isL,ZA (λ_=>⟨_,SqT.of (s45 _ _ hh),_,rfl,u1,rfl,ns.map V.int,q1 _ s45,λl3 z3=>?_⟩) λz=>absurd (by simp) z⟩
 have s6:=s45.Zaj (o:=.lst (ns.map V.int)) z3
 have h3:=Zc (H:=H5) (a:=l3) (o:=.lst (ns.map V.int))
 generalize upd H5 l3 (.lst (ns.map V.int))=H6 at s6 h3⊢
 refine⟨_,Zga (n:=2) (K:=K) Zcp _ _ _ _ (Zei (SqL.of h3)) (Zei (SqL.of (s6 _ _ hr1))),ZA (λ_=>⟨_,SqT.of (s6 _ _ hh),_,rfl,u2,rfl,ts.map V.int,q2 _ s6,λl4 z4=>?_⟩) λz=>absurd (by simp) z⟩
 have s7:=s6.Zaj (o:=.lst (ts.map V.int)) z4
 have h4:=Zc (H:=H6) (a:=l4) (o:=.lst (ts.map V.int))
 generalize upd H6 l4 (.lst (ts.map V.int))=H7 at s7 h4⊢
 refine⟨_,Zga (n:=2) (K:=K) Zcp _ _ _ _ (Zei (SqL.of h4)) (Zei (SqL.of (s7 _ _ hx))),?_⟩
 rw[Yt rfl]
 exact k1 H7 (P2.same s7) (e1.same s7)
theorem Zh6 {f:Addr}{fd:FuncData} (F:Fun K "_law_by_rules" "_law_by_rules" Z3 f fd) (ZX:Callee P w K mg base "_law_tree" 2 ["row"] (Zbj K mg)) (ZeR:Callee P w K mg base "_law_table" 6 ["row","text"] (ZdJ K mg)) (ZS:Callee P w K mg base "_law_least_ones" 1 ["pairs"] (Zao K mg)) (T:Txt K mg):FnOk P w K mg base (CXE P w) 7 f fd ["row","text"] (ZbK K mg):=by
 refine F.okX Zes (λvs H Q E h=>?_) (λcdv A outer s H vs Q E hr h=>?_)
 .obtain⟨r,x,ns,ts,rfl,_⟩:=h;rfl
 obtain⟨r,x,ns,ts,rfl,hr1,hx,h0,h6,h16,hTb,k1⟩:=h
 refine⟨_,(Ze (Zu (i:=2) Zes.nd rfl (Or.inl rfl) (Zi ZX (hr.mono nofun) rfl ZC (Za (pv 0) Zb)))
   (Zg (Zz (Zi ZS (hr.mono nofun) rfl ZC (Za (Z2 ["pair"] [none] rfl rfl rfl (Zam (Zk Zr (Zi ZeR (hr.mono nofun) rfl ZC (Za (pv 0) (Za (pv 1) Zb))) (Zsq PySem.F.slot_tuple_index PySem.F.type_tuple_index (Zk5 (K:=K) rfl) (pv 2) (Za (Zfr ZcL Zf) Zb)) (λ_ _=>rfl))) (λ_ _ _ _ _=>(Zm (i:=0) (show(["pair"]:List Str).Nodup from by decide +kernel) rfl (Or.inl rfl))) (λ_ _ _ _ _=>Z1 (Zj ZbM (pv 0) Zac (Zl _))) (λ_ _ _ _ _=>(pv 0)) Zs) Zb))))),?_⟩
 right
 refine⟨r,ns,rfl,.inl (SqL.of hr1),⋯,.inr λt T' H1 hT s1 ht=>⟨r,x,ns,ts,rfl,s1 _ _ hr1,s1 _ _ hx,h6,h16,ZU.same hTb s1,λl T2 tab H2 zl hT2 TB hTab s2=>?_⟩⟩
 have eT:=hT2.unique hT
 subst eT
 obtain⟨hm1,htl,ht2⟩:=Zi2 hT h0
 obtain⟨xs,a,vals,hl,hxa,ha,hvl,hvp⟩:=Zqa TB (i:=T2.idxOf (-1)) (by rw[hTab.1];exact htl)
 have hpl:=(hTab.2 _ htl).1
 have htop:∀r,ZiH T2 tab r↔r∈Za0 (tab.getD (T2.idxOf (-1)) []):=λr=>ZgM.symm
 have hbd:∀r,ZiH T2 tab r->∃x y,r=[x,y]/\0<=y/\y<100000:=λr hr=>top_bd hT h0 hTab h6 h16 hr
 generalize tab.getD (T2.idxOf (-1)) []=ps at hvl hvp hpl htop
 refine⟨⟨t,rfl,_,ht.same s2⟩,t,rfl,T2,(ht.same s2).sq,hm1,l,rfl,xs,SqL.of hl,V.ref a,by rw[Zf9 hxa],a,rfl,⟨_,SqL.of ha⟩,?_⟩
 refine ZaL (n:=vals.length) (λj acc Hz=>ZaM Hz acc (Za0 (ps.take j))/\Zd H2 Hz) (YG (show _<=1000 by omega) nofun) ⟨ZaM.nil,Zd.refl _⟩ (λj acc Hz ⟨_,s⟩ hj=>⟨_,_,SqL.of (s _ _ ha),Yf hj⟩) (λacc Hz ⟨_,s⟩=>⟨_,SqL.of (s _ _ ha),Yc _⟩) ?_ ?_
 .rintro j y acc Hz Hw hj hla ⟨tv,sz⟩ ⟨rfl,hy⟩
  have:=hy _ (SqL.of (sz _ _ ha))
  rw[Yf hj]at this
  cases this
  have hp:=hvp j vals[j] (ps[j]'⋯) (Yf hj) (Yf ⋯)
  have etk:ps.take (j+1)=ps.take j++[ps[j]'⋯]:=by rw[Jd,Yf ⋯];rfl
  generalize vals[j]=y at hp⊢
  generalize ps[j]'⋯=pt at hp etk
  cases pt with
  |none =>
   have hp:y=.non:=hp
   subst hp
   right
   refine ZA (λz=>absurd z (by simp)) λ_=>CA.skip hj hla ⟨?_,sz⟩
   have:Za0 (ps.take (j+1))=Za0 (ps.take j):=by rw[etk];unfold Za0;rw[List.filterMap_append];simp
   rw[this];exact tv
  |some e =>
   obtain⟨q,rfl,hq⟩:=hp
   right
   refine ZA (λ_=>CA.take hj hla ⟨?_,sz⟩) λz=>absurd z (by simp)
   have:Za0 (ps.take (j+1))=Za0 (ps.take j)++[[e.1,e.2]]:=by rw[etk];unfold Za0;rw[List.filterMap_append];simp
   rw[this]
   exact tv.snoc (sz _ _ hq)
 .rintro g acc Hz ⟨tv,sz⟩ _ zg
  rw[List.take_of_length_le ⋯]at tv
  refine⟨g,_,rfl,tv.at zg,λr hr=>hbd r ((htop r).mpr hr),Yr (ZoR _) ⋯,λl' rs H5 zl' hL tl' s5=>k1 l' T2 tab rs H5 ?_ hT hTab (hL.congr λr=>(htop r).symm) tl' ?_⟩
  .exact s1.free (s2.free (sz.free (((Zd.refl _).upd zg).free zl')))
  .exact s1.trans (s2.trans ((sz.Zaj zg).trans s5))
theorem nthV0 {h:List Int}{v:Int} (e:h[0]?=some v):atI (h.map V.int) 0=some (.int v):=by
 have:=Zf9 (xs:=h.map V.int) (j:=0) (v:=.int v) (by rw[YE,e];rfl)
 exact this
theorem lastV {h:List Int}{v:Int} (h0:0<h.length) (e:h[h.length-1]?=some v):atI (h.map V.int) (-1)=some (.int v):=by
 rcases List.eq_nil_or_concat h with rfl|⟨q,x,rfl⟩
 .exact absurd h0 (YA _)
 .rw[List.concat_eq_append]at e⊢
  have:v=x:=by simp at e;exact e.symm
  rw[this];exact Zk2 q x
theorem ok_law {f:Addr}{fd:FuncData} (F:Fun K "law" "law" Zhl f fd) (ZfL:Callee P w K mg base "_law_deal" 1 ["script","k"] (ZeD K mg)) (Zdm:Callee P w K mg base "_law_pair" 3 ["pot","most","wide"] (ZeG K mg)) (Zc0:Callee P w K mg base "_law_holding" 3 ["row","text"] (Zcg K mg)) (ZS:Callee P w K mg base "_law_least_ones" 1 ["pairs"] (Zao K mg)) (ZaG:Callee P w K mg base "_law_told_right" 8 ["pot","row","text","due"] (Za7 K mg)) (Za4:Callee P w K mg base "_law_by_rules" 7 ["row","text"] (ZbK K mg)) (T:Txt K mg):FnOk P w K mg base (CXE P w) 9 f fd ["script"] (ZpY K mg):=by
 refine F.okX ZfG (λvs H Q E h=>?_) (λcdv A outer s H vs Q E hr h=>?_)
 .obtain⟨a,ns,rfl,_⟩:=h;rfl
 obtain⟨sc,ss,rfl,hsc,hss,hTT,k1⟩:=h
 have hT1:ZU K mg "from_below" H:=hTT (Zfo K mg "from_below",ZgH "from_below") (by unfold Zfg;simp)
 have hT2:ZU K mg "best_ahead" H:=hTT (Zfo K mg "best_ahead",ZgH "best_ahead") (by unfold Zfg;simp)
 have hT3:ZU K mg "best_behind" H:=hTT (Zfo K mg "best_behind",ZgH "best_behind") (by unfold Zfg;simp)
 have hT4:ZU K mg "_law_table" H:=hTT (Zfo K mg "_law_table",ZgH "_law_table") (by unfold Zfg;simp)
 refine⟨_,(Ze (ZbD (Zdz PassesOwn.never rfl (ZM rfl T.b_range (Za (Zn (Zqh rfl) rfl T.b_max ZnX (Za Zf (Za (Zn (Zqi rfl) rfl T.b_min ZnY (Za (Zn (Zt (K:=K) rfl) rfl T.b_len YL (Za (pv 0) Zb)) (Za Zf Zb))) Zb))) Zb)) (Zm (i:=1) ZfG.nd rfl (Or.inl rfl)) (Ze (Zu (i:=2) ZfG.nd rfl (Or.inl rfl) (Zi ZfL (hr.mono nofun) rfl ZC (Za (pv 0) (Za (pv 1) Zb))))
   (Ze (Zet (Zi Zdm (hr.mono nofun) rfl ZC (Za (pv 2) (Za Zf (Za Zf Zb)))) (ZnI (n:=2) rfl (Zb7 (Zm (i:=3) ZfG.nd rfl (Or.inl rfl)) (Zb7 (Zm (i:=4) ZfG.nd rfl (Or.inl rfl)) ZiQ))))
   (Ze (Zu (i:=5) ZfG.nd rfl (Or.inl rfl) (Zi ZS (hr.mono nofun) rfl ZC (Za (Z2 ["one"] [none] rfl rfl rfl (Zam (Zi Zc0 (hr.mono nofun) rfl ZC (Za (pv 3) (Za (pv 4) Zb)))) (λ_ _ _ _ _=>(Zm (i:=0) (show(["one"]:List Str).Nodup from by decide +kernel) rfl (Or.inl rfl))) (λ_ _ _ _ _=>Zad) (λ_ _ _ _ _=>(ZdA (Za (Zk (r:=Zfn K) ZF (pv 0) Zf (λ_ _=>rfl)) (Za (Zk (r:=Zfn K) ZF (pv 0) (Zfr ZcL Zf) (λ_ _=>rfl)) Zb)))) Zs) Zb)))
   (Ze (Zaa (PW.pt (ZkH (Zj (Zn0 (K:=K) rfl hr) (pv 5) (Zi Za4 (hr.mono nofun) rfl ZC (Za (pv 3) (Za (pv 4) Zb))) (Zl _)) (Zi6 (Zi7 (Zi5 (Zi ZaG (hr.mono nofun) rfl ZC (Za (pv 2) (Za (pv 3) (Za (pv 4) (Za (pv 5) Zb)))))))))) (Zg (Zz Zi4)) ZI)
   (Ze (Zet (Zi Zdm (hr.mono nofun) rfl ZC (Za (pv 2) (Za Zf (Za Zf Zb)))) (ZnI (n:=2) rfl (Zb7 (Zm (i:=3) ZfG.nd rfl (Or.inl rfl)) (Zb7 (Zm (i:=4) ZfG.nd rfl (Or.inl rfl)) ZiQ))))
   (Zg (Zaa (Zi7 (Zi5 (Zi ZaG (hr.mono nofun) rfl ZC (Za (pv 2) (Za (pv 3) (Za (pv 4) (Za (Zi Za4 (hr.mono nofun) rfl ZC (Za (pv 3) (Za (pv 4) Zb))) Zb))))))) (Zg (Zz Zi4)) ZI)))))))))
   (Zg (Zz Zi4))),?_⟩
 right
 refine⟨_,.inl hsc,by split<;>(try split)<;>omega,by split<;>(try split)<;>omega,?_⟩
 refine Zeg (λi σ Hx=>∃v1 v2 v3 v4 v5,σ=[some (.ref sc),v1,v2,v3,v4,v5]/\Zd H Hx) ⟨_,_,_,_,_,rfl,Zd.refl H⟩ ?_ ?_
 .rintro i σ H' hi ⟨v1,v2,v3,v4,v5,rfl,hs⟩
  have hi8:i<16:=by
   revert hi
   split
   .split<;>omega
   .omega
  refine ZaP (fun σ Hx=>∃p,σ=[some (.ref sc),some (.int (0+(i:Int))),some (.ref p),v3,v4,v5]/\H p=none/\ZK Hx p/\Zd H Hx) (λR hR=>?_) ?_
  .right
   exact⟨sc,ss,_,rfl,hs.seq hsc,⋯,⋯,λp H1 hp s1 P1=>hR _ _ ⟨p,rfl,hs.free hp,P1,hs.trans s1⟩⟩
  rintro σ H1 ⟨p,rfl,zp,P1,s1⟩
  refine ZaP (fun σ Hx=>∃(r x:Addr) (ns ts:List Int),σ=[some (.ref sc),some (.int (0+(i:Int))),some (.ref p),some (.ref r),some (.ref x),v5]/\r≠p/\x≠p/\0<ns.length/\ns.length<=4/\ts.length<=9/\Hx r=some (.lst (ns.map V.int))/\Hx x=some (.lst (ts.map V.int))/\ZK Hx p/\Zd H Hx) (λR hR=>?_) ?_
  .right
   exact⟨p,_,_,rfl,by decide,by decide,by decide,by decide,P1,λt r x ns ts H2 zr zx l0 l1 l2 hr2 hx2 ht2 P2 e2=>⟨t,rfl,_,SqT.of ht2,rfl,_,_,rfl,_,_,rfl,rfl,hR _ _ ⟨r,x,ns,ts,rfl,P1.ne zr,P1.ne zx,l0,⋯,⋯,hr2,hx2,P2,s1.exc zp e2⟩⟩⟩
  clear P1 s1 H1
  rintro σ H2 ⟨r,x,ns,ts,rfl,nrp,nxp,l0,l1,l2,hr2,hx2,P2,s2⟩
  refine ZaP (fun σ Hx=>∃(d:Addr) (rs due:List (List Int)),σ=[some (.ref sc),some (.int (0+(i:Int))),some (.ref p),some (.ref r),some (.ref x),some (.ref d)]/\H2 d=none/\(∀r,r∈rs↔ZjF ns ts r)/\Zch (λr=>r∈rs.map λh=>[nth h 0,nth h (ns.length-1)]) due/\Zo Hx d due/\Zd H2 Hx) (λR hR=>?_) ?_
  .right
   refine⟨r,x,ns,ts,rfl,.inl (SqL.of hr2),hx2,l1,l2,λl rs H3 zl tl ll hrs s3=>⟨l,rfl,tl.sq,?_⟩⟩
   obtain⟨w1,w2,w3⟩:=tl.walk (K:=K)
   refine ZaL (n:=rs.length) (λj acc Hz=>ZaM Hz acc ((rs.take j).map λh=>[nth h 0,nth h (ns.length-1)])/\Zd H3 Hz) (YG ll nofun) ⟨by simpa using ZaM.nil,Zd.refl _⟩ (λj acc Hz ⟨_,s⟩ hj=>w1 j Hz s hj) (λacc Hz ⟨_,s⟩=>w2 Hz s) ?_ ?_
   .rintro j y acc Hz Hw hj hla ⟨tv,sz⟩ hy
    obtain⟨rfl,a,rfl,ha⟩:=w3 j y Hz Hw hj sz hy
    have hlen:=((hrs rs[j]).mp (YF hj)).1
    have etk:rs.take (j+1)=rs.take j++[rs[j]]:=by rw[Jd,Yf hj];rfl
    generalize rs[j]=h at ha hlen etk
    have hl1:h[ns.length-1]?=some (nth h (ns.length-1)):=by
     unfold nth;rw[Yh,Yf ⋯];rfl
    have h01:h[0]?=some (nth h 0):=by
     unfold nth;rw[Yh,Yf ⋯];rfl
    right
    refine⟨_,SqT.of ha,_,nthV0 h01,_,SqT.of ha,_,lastV ⋯ (hlen▸hl1),by decide,λq zq=>CA.take hj hla ⟨?_,sz.Zaj zq⟩⟩
    rw[etk,Jf]
    exact(tv.same ((Zd.refl Hw).upd zq)).snoc (by rw[<-hlen];exact Zc)
   .rintro g acc Hz ⟨tv,sz⟩ _ zg
    rw[List.take_length]at tv
    refine⟨g,_,rfl,tv.at zg,λq hq=>?_,by rw[Yi];omega,λl' due H5 zl' hL tl' s5=>hR _ _ ⟨l',rs,due,rfl,s3.free (sz.free (((Zd.refl _).upd zg).free zl')),hrs,hL,tl',s3.trans ((sz.Zaj zg).trans s5)⟩⟩
    obtain⟨h,hh,rfl⟩:=YK.mp hq
    have hH:=(hrs h).mp hh
    have:=(Zi1.mp hH.2.1).1 (ns.length-1) (by rw[hH.1];omega)
    exact⟨_,_,rfl,⋯,⋯⟩
  rintro σ H3 ⟨d,rs,due,rfl,zd,hrs,hL,td,s3⟩
  refine ZaP (fun σ Hx=>σ=[some (.ref sc),some (.int (0+(i:Int))),some (.ref p),some (.ref r),some (.ref x),some (.ref d)]/\ZK Hx p/\Zd H Hx) (λR hR=>?_) ?_
  .right
   refine⟨r,x,ns,ts,rfl,s3 _ _ hr2,s3 _ _ hx2,l0,⋯,⋯,ZU.same hT4 (s2.trans s3),λm T2 tab rs2 H4 zm hT hTab hL2 tl s4=>?_⟩
   have hG:Zcm T2:=⟨by have:=hT.1;omega,ns,hT⟩
   obtain⟨t1,t2⟩:=Zq3 hT l0 hG hTab hrs
   have e:=hL.uniq hL2 λq=>ZoQ (S:=λr=>r∈rs.map λh=>[nth h 0,nth h (ns.length-1)]) (S':=ZiH T2 tab) (λq hq=>by obtain⟨h,_,rfl⟩:=YK.mp hq;exact⟨_,_,rfl⟩) (λq hq=>by obtain⟨h,h1,h2⟩:=t1 q hq;exact YK.mpr ⟨h,h1,h2⟩) (λq hq=>by obtain⟨h,h1,rfl⟩:=YK.mp hq;exact t2 h h1) q
   subst e
   have s34:=s3.trans s4
   exact⟨m,rfl,_,Zga (n:=2) (K:=K) (Zgb (n:=1) Zcp) _ _ _ _ (td.same s4).isL tl.isL,ZA (λz=>absurd z (by simp)) λ_=>⟨p,r,x,d,ns,ts,T2,tab,due,rfl,P2.same s34,nrp,nxp,P2.ne zd,s34 _ _ hr2,s34 _ _ hx2,l0,⋯,⋯,hT,hTab,hL2,td.same s4,ZU.same hT1 (s2.trans s34),ZU.same hT2 (s2.trans s34),ZU.same hT3 (s2.trans s34),λH5 P5 e5=>⟨true,rfl,ZA (λz=>nomatch z) λ_=>hR _ _ ⟨rfl,P5,(s2.trans s34).exc zp e5⟩⟩⟩⟩
  clear s3 s2 P2 hr2 hx2 td hL hrs zd H3 H2
  rintro σ H2 ⟨rfl,P2,s2⟩
  refine ZaP (fun σ Hx=>∃(r x:Addr) (ns ts:List Int),σ=[some (.ref sc),some (.int (0+(i:Int))),some (.ref p),some (.ref r),some (.ref x),some (.ref d)]/\r≠p/\x≠p/\0<ns.length/\ns.length<=6/\ts.length<=16/\Hx r=some (.lst (ns.map V.int))/\Hx x=some (.lst (ts.map V.int))/\ZK Hx p/\Zd H Hx) (λR hR=>?_) ?_
  .right
   exact⟨p,_,_,rfl,by decide,by decide,by decide,by decide,P2,λt r x ns ts H3 zr zx l0 l1 l2 hr2 hx2 ht2 P3 e3=>⟨t,rfl,_,SqT.of ht2,rfl,_,_,rfl,_,_,rfl,rfl,hR _ _ ⟨r,x,ns,ts,rfl,P2.ne zr,P2.ne zx,l0,⋯,⋯,hr2,hx2,P3,s2.exc zp e3⟩⟩⟩
  clear P2 s2 H2 nrp nxp l0 l1 l2 ns ts r x
  rintro σ H2 ⟨r,x,ns,ts,rfl,nrp,nxp,l0,l1,l2,hr2,hx2,P2,s2⟩
  right
  refine⟨r,x,ns,ts,rfl,hr2,hx2,l0,⋯,⋯,ZU.same hT4 s2,λl' T2 tab rs2 H3 zl hT hTab hL2 tl s3=>⟨p,r,x,l',ns,ts,T2,tab,rs2,rfl,P2.same s3,nrp,nxp,P2.ne zl,s3 _ _ hr2,s3 _ _ hx2,l0,⋯,⋯,hT,hTab,hL2,tl,ZU.same hT1 (s2.trans s3),ZU.same hT2 (s2.trans s3),ZU.same hT3 (s2.trans s3),λH5 P5 e5=>⟨true,rfl,ZA (λz=>nomatch z) λ_=>(s2.trans s3).exc zp e5⟩⟩⟩
 .rintro σ H' ⟨v1,v2,v3,v4,v5,rfl,hs⟩
  right
  exact k1 H'
end
theorem all_mk {l:PySem.W.OpenLaw}{w:World}{K:PySem.W.Frag}{h:Heap}{mg:Str->Option Value}{fa:Addr}{ts:List Addr} (X:K.In h) (G:h.Ns mainGlobals mg) (hfa:mg "law"=some (.ref fa))
  {Zfk:Tok}{oc3_need_numbers:Value}{od3_need_numbers:Option Addr}{ZiK:Nat}{sl3_need_numbers:Array (Option Value)}
  (Zbm:nsIn K mainGlobals "need_numbers"=some (some (.ref ZfM))) (Zc1:K.lookup ZfM=some ⟨Zrg,Zrh,.func (fnOf "need_numbers" "need_numbers" (defArgs Zaf) (defBody Zaf) (defScope Zaf) (.ref ZjT) Zri Zrj Zrk Zrl ZiL Zrm),Zrn⟩) (Zc2:codeIn K ZiL "need_numbers"=true) (ZaO:keepIn K (.ref ZfM)=true)
  (Zbn:K.lookup ZjT=some ⟨oc3_need_numbers,od3_need_numbers,.seq #[.int 1 Zfk] ZiK,sl3_need_numbers⟩)
  (ZjU:nsIn K mainGlobals "settle"=some (some (.ref Znu))) (ZjV:K.lookup Znu=some ⟨ZwK,ZwL,.func (fnOf "settle" "settle" (defArgs Zeq) (defBody Zeq) (defScope Zeq) .none ZwM ZwN ZwO ZwP Zq4 ZwQ),ZwR⟩) (ZjW:codeIn K Zq4 "settle"=true) (Zhr:keepIn K (.ref Znu)=true)
  (Zh9:nsIn K mainGlobals "tree_of"=some (some (.ref Zlk))) (Zia:K.lookup Zlk=some ⟨Zwp,Zwq,.func (fnOf "tree_of" "tree_of" (defArgs ZcI) (defBody ZcI) (defScope ZcI) .none Zwr Zws Zwt Zwu ZoS Zwv),Zww⟩) (Zib:codeIn K ZoS "tree_of"=true) (Zgi:keepIn K (.ref Zlk)=true)
  (ZjX:nsIn K mainGlobals "way_up"=some (some (.ref Znv))) (ZjY:K.lookup Znv=some ⟨ZwS,ZwT,.func (fnOf "way_up" "way_up" (defArgs Zer) (defBody Zer) (defScope Zer) .none ZwU ZwV ZwW ZwX Zq5 ZwY),ZwZ⟩) (ZjZ:codeIn K Zq5 "way_up"=true) (Zhs:keepIn K (.ref Znv)=true)
  (ZgS:nsIn K mainGlobals "young_of"=some (some (.ref Zj0))) (ZgT:K.lookup Zj0=some ⟨Zv0,Zv1,.func (fnOf "young_of" "young_of" (defArgs ZbH) (defBody ZbH) (defScope ZbH) .none Zv2 Zv3 Zv4 Zv5 Znw Zv6),Zv7⟩) (ZgU:codeIn K Znw "young_of"=true) (ZeS:keepIn K (.ref Zj0)=true)
  (Zct:nsIn K mainGlobals "from_below"=some (some (.ref ZeT))) (Zcu:K.lookup ZeT=some ⟨Ztv,Ztw,.func (fnOf "from_below" "from_below" (defArgs ZaR) (defBody ZaR) (defScope ZaR) .none Ztx Zty Ztz ZtA Zgq ZtB),ZtC⟩) (ZeU:codeIn K Zgq "from_below"=true) (Zcv:keepIn K (.ref ZeT)=true)
  (ZdP:Zgq=.ref ZbS) (ZdQ:K.lookup ZbS=some ⟨ZtD,ZtE,.fields Zkv,ZtF⟩) (ZdR:Zkv[11]?=some (.ref ZbT)) (ZbU:PySem.W.codeHdIn K ZbS ZbT=true) (ZdS:K.lookup ZbT=none) (ZdT:ZbT∈ts)
  (ZeV:nsIn K mainGlobals "need_loose"=some (some (.ref Zht))) (ZeW:K.lookup Zht=some ⟨ZtG,ZtH,.func (fnOf "need_loose" "need_loose" (defArgs ZaS) (defBody ZaS) (defScope ZaS) .none ZtI ZtJ ZtK ZtL Zkw ZtM),ZtN⟩) (ZeX:codeIn K Zkw "need_loose"=true) (Zcw:keepIn K (.ref Zht)=true)
  (Zcx:nsIn K mainGlobals "best_ahead"=some (some (.ref ZeY))) (Zcy:K.lookup ZeY=some ⟨ZtO,ZtP,.func (fnOf "best_ahead" "best_ahead" (defArgs ZaT) (defBody ZaT) (defScope ZaT) .none ZtQ ZtR ZtS ZtT Zgr ZtU),ZtV⟩) (ZeZ:codeIn K Zgr "best_ahead"=true) (Zcz:keepIn K (.ref ZeY)=true)
  (ZdU:Zgr=.ref ZbV) (ZdV:K.lookup ZbV=some ⟨ZtW,ZtX,.fields Zkx,ZtY⟩) (ZdW:Zkx[11]?=some (.ref ZbW)) (ZbX:PySem.W.codeHdIn K ZbV ZbW=true) (ZdX:K.lookup ZbW=none) (ZdY:ZbW∈ts)
  (ZbY:nsIn K mainGlobals "best_behind"=some (some (.ref ZdZ))) (ZbZ:K.lookup ZdZ=some ⟨ZsO,ZsP,.func (fnOf "best_behind" "best_behind" (defArgs Zax) (defBody Zax) (defScope Zax) .none ZsQ ZsR ZsS ZsT ZfN ZsU),ZsV⟩) (Zd0:codeIn K ZfN "best_behind"=true) (Zb0:keepIn K (.ref ZdZ)=true)
  (Zc3:ZfN=.ref Zbo) (Zc4:K.lookup Zbo=some ⟨ZsW,ZsX,.fields Zj1,ZsY⟩) (Zc5:Zj1[11]?=some (.ref Zbp)) (Zbq:PySem.W.codeHdIn K Zbo Zbp=true) (Zc6:K.lookup Zbp=none) (Zc7:Zbp∈ts)
  (Zic:nsIn K mainGlobals "pair_at"=some (some (.ref Zll))) (Zid:K.lookup Zll=some ⟨Zwx,Zwy,.func (fnOf "pair_at" "pair_at" (defArgs ZcJ) (defBody ZcJ) (defScope ZcJ) .none Zwz ZwA ZwB ZwC ZoT ZwD),ZwE⟩) (Zie:codeIn K ZoT "pair_at"=true) (Zgj:keepIn K (.ref Zll)=true)
  (ZgV:nsIn K mainGlobals "table_by"=some (some (.ref Zj2))) (ZgW:K.lookup Zj2=some ⟨Zv8,Zv9,.func (fnOf "table_by" "table_by" (defArgs ZbI) (defBody ZbI) (defScope ZbI) .none Zwa Zwb Zwc Zwd Znx Zwe),Zwf⟩) (ZgX:codeIn K Znx "table_by"=true) (Ze0:keepIn K (.ref Zj2)=true)
  (Zd1:nsIn K mainGlobals "lies_within"=some (some (.ref Zgs))) (Zd2:K.lookup Zgs=some ⟨ZsZ,Zs0,.func (fnOf "lies_within" "lies_within" (defArgs Zay) (defBody Zay) (defScope Zay) .none Zs1 Zs2 Zs3 Zs4 Zj3 Zs5),Zs6⟩) (Zd3:codeIn K Zj3 "lies_within"=true) (Zb1:keepIn K (.ref Zgs)=true)
  (Zbr:nsIn K mainGlobals "least_stretches"=some (some (.ref Zdn))) (Zbs:K.lookup Zdn=some ⟨ZoU,ZoV,.func (fnOf "least_stretches" "least_stretches" (defArgs ZP) (defBody ZP) (defScope ZP) .none ZoW ZoX ZoY ZoZ ZgY Zo0),Zo1⟩) (Zbt:codeIn K ZgY "least_stretches"=true) (ZaH:keepIn K (.ref Zdn)=true)
  (ZfO:nsIn K mainGlobals "_law_deal"=some (some (.ref Zis))) (ZfP:K.lookup Zis=some ⟨Zve,Zvf,.func (fnOf "_law_deal" "_law_deal" (defArgs Za9) (defBody Za9) (defScope Za9) .none Zvg Zvh Zvi Zvj Zmh Zvk),Zvl⟩) (ZfQ:codeIn K Zmh "_law_deal"=true) (Zdo:keepIn K (.ref Zis)=true)
  (ZfR:nsIn K mainGlobals "_law_take"=some (some (.ref Zit))) (ZfS:K.lookup Zit=some ⟨Zvm,Zvn,.func (fnOf "_law_take" "_law_take" (defArgs Zba) (defBody Zba) (defScope Zba) .none Zvo Zvp Zvq Zvr Zmi Zvs),Zvt⟩) (ZfT:codeIn K Zmi "_law_take"=true) (Zdp:keepIn K (.ref Zit)=true)
  (ZgZ:nsIn K mainGlobals "_law_row"=some (some (.ref Zj4))) (Zg0:K.lookup Zj4=some ⟨Zwg,Zwh,.func (fnOf "_law_row" "_law_row" (defArgs ZbJ) (defBody ZbJ) (defScope ZbJ) .none Zwi Zwj Zwk Zwl Zny Zwm),Zwn⟩) (Zg1:codeIn K Zny "_law_row"=true) (Ze1:keepIn K (.ref Zj4)=true)
  (Ze2:nsIn K mainGlobals "_law_elder"=some (some (.ref Zhu))) (Ze3:K.lookup Zhu=some ⟨ZtZ,Zt0,.func (fnOf "_law_elder" "_law_elder" (defArgs ZaU) (defBody ZaU) (defScope ZaU) .none Zt1 Zt2 Zt3 Zt4 Zky Zt5),Zt6⟩) (Ze4:codeIn K Zky "_law_elder"=true) (ZcA:keepIn K (.ref Zhu)=true)
  (ZfU:nsIn K mainGlobals "_law_tree"=some (some (.ref Ziu))) (ZfV:K.lookup Ziu=some ⟨Zvu,Zvv,.func (fnOf "_law_tree" "_law_tree" (defArgs Zbb) (defBody Zbb) (defScope Zbb) .none Zvw Zvx Zvy Zvz Zmj ZvA),ZvB⟩) (ZfW:codeIn K Zmj "_law_tree"=true) (Zdq:keepIn K (.ref Ziu)=true)
  (ZfX:nsIn K mainGlobals "_law_over"=some (some (.ref Ziv))) (ZfY:K.lookup Ziv=some ⟨ZvC,ZvD,.func (fnOf "_law_over" "_law_over" (defArgs Zbc) (defBody Zbc) (defScope Zbc) .none ZvE ZvF ZvG ZvH Zmk ZvI),ZvJ⟩) (ZfZ:codeIn K Zmk "_law_over"=true) (Zdr:keepIn K (.ref Ziv)=true)
  (Zd4:nsIn K mainGlobals "_law_either"=some (some (.ref Zgt))) (Zd5:K.lookup Zgt=some ⟨Zs7,Zs8,.func (fnOf "_law_either" "_law_either" (defArgs Zaz) (defBody Zaz) (defScope Zaz) .none Zs9 Zta Ztb Ztc Zj5 Ztd),Zte⟩) (Zd6:codeIn K Zj5 "_law_either"=true) (Zb2:keepIn K (.ref Zgt)=true)
  (Zf0:nsIn K mainGlobals "_law_pair"=some (some (.ref Ziw))) (Zf1:K.lookup Ziw=some ⟨ZvK,ZvL,.func (fnOf "_law_pair" "_law_pair" (defArgs Zbd) (defBody Zbd) (defScope Zbd) .none ZvM ZvN ZvO ZvP Zml ZvQ),ZvR⟩) (Zf2:codeIn K Zml "_law_pair"=true) (Zds:keepIn K (.ref Ziw)=true)
  (Zd7:nsIn K mainGlobals "_law_tuples"=some (some (.ref Zgu))) (Zd8:K.lookup Zgu=some ⟨Ztf,Ztg,.func (fnOf "_law_tuples" "_law_tuples" (defArgs ZaA) (defBody ZaA) (defScope ZaA) .none Zth Zti Ztj Ztk Zj6 Ztl),Ztm⟩) (Zd9:codeIn K Zj6 "_law_tuples"=true) (Zb3:keepIn K (.ref Zgu)=true)
  (Zc8:nsIn K mainGlobals "_law_holding"=some (some (.ref Zf3))) (Zc9:K.lookup Zf3=some ⟨Zro,Zrp,.func (fnOf "_law_holding" "_law_holding" (defArgs Zag) (defBody Zag) (defScope Zag) .none Zrq Zrr Zrs Zrt ZiM Zru),Zrv⟩) (Zda:codeIn K ZiM "_law_holding"=true) (Zbu:keepIn K (.ref Zf3)=true)
  (Ze5:nsIn K mainGlobals "_law_under"=some (some (.ref Zhv))) (Ze6:K.lookup Zhv=some ⟨Zt7,Zt8,.func (fnOf "_law_under" "_law_under" (defArgs ZaV) (defBody ZaV) (defScope ZaV) .none Zt9 Zua Zub Zuc Zkz Zud),Zue⟩) (Ze7:codeIn K Zkz "_law_under"=true) (ZcB:keepIn K (.ref Zhv)=true)
  (Zf4:nsIn K mainGlobals "_law_hand"=some (some (.ref Zix))) (Zf5:K.lookup Zix=some ⟨ZvS,ZvT,.func (fnOf "_law_hand" "_law_hand" (defArgs Zbe) (defBody Zbe) (defScope Zbe) .none ZvU ZvV ZvW ZvX Zmm ZvY),ZvZ⟩) (Zf6:codeIn K Zmm "_law_hand"=true) (Zdt:keepIn K (.ref Zix)=true)
  (Ze8:nsIn K mainGlobals "_law_ruled"=some (some (.ref Zhw))) (Ze9:K.lookup Zhw=some ⟨Zuf,Zug,.func (fnOf "_law_ruled" "_law_ruled" (defArgs ZaW) (defBody ZaW) (defScope ZaW) .none Zuh Zui Zuj Zuk ZkA Zul),Zum⟩) (Zfa:codeIn K ZkA "_law_ruled"=true) (ZcC:keepIn K (.ref Zhw)=true)
  (ZcD:nsIn K mainGlobals "_law_table"=some (some (.ref Zfb))) (ZcE:K.lookup Zfb=some ⟨Zun,Zuo,.func (fnOf "_law_table" "_law_table" (defArgs ZaX) (defBody ZaX) (defScope ZaX) .none Zup Zuq Zur Zus Zgv Zut),Zuu⟩) (Zfc:codeIn K Zgv "_law_table"=true) (ZcF:keepIn K (.ref Zfb)=true)
  (Zea:Zgv=.ref Zb4) (Zeb:K.lookup Zb4=some ⟨Zuv,Zuw,.fields ZkB,Zux⟩) (Zec:ZkB[11]?=some (.ref Zb5)) (Zb6:PySem.W.codeHdIn K Zb4 Zb5=true) (Zed:K.lookup Zb5=none) (Zee:Zb5∈ts)
  (Zbv:nsIn K mainGlobals "_law_least_ones"=some (some (.ref Zdu))) (Zbw:K.lookup Zdu=some ⟨Zo2,Zo3,.func (fnOf "_law_least_ones" "_law_least_ones" (defArgs ZQ) (defBody ZQ) (defScope ZQ) .none Zo4 Zo5 Zo6 Zo7 Zg2 Zo8),Zo9⟩) (Zbx:codeIn K Zg2 "_law_least_ones"=true) (ZaI:keepIn K (.ref Zdu)=true)
  (Zby:nsIn K mainGlobals "_law_told_right"=some (some (.ref Zdv))) (Zbz:K.lookup Zdv=some ⟨Zpa,Zpb,.func (fnOf "_law_told_right" "_law_told_right" (defArgs ZR) (defBody ZR) (defScope ZR) .none Zpc Zpd Zpe Zpf Zg3 Zpg),Zph⟩) (ZbA:codeIn K Zg3 "_law_told_right"=true) (ZaJ:keepIn K (.ref Zdv)=true)
  (Zcj:nsIn K mainGlobals "_law_by_rules"=some (some (.ref Zfl))) (Zck:K.lookup Zfl=some ⟨Zq6,Zq7,.func (fnOf "_law_by_rules" "_law_by_rules" (defArgs Z3) (defBody Z3) (defScope Z3) .none Zq8 Zq9 Zra Zrb Zif Zrc),Zrd⟩) (Zcl:codeIn K Zif "_law_by_rules"=true) (Za5:keepIn K (.ref Zfl)=true)
  (Ztn:nsIn K mainGlobals "law"=some (some (.ref Zwo))) (Zto:K.lookup Zwo=some ⟨Zw1,Zw2,.func (fnOf "law" "law" (defArgs Zhl) (defBody Zhl) (defScope Zhl) .none ZwF ZwG ZwH ZwI Ztp ZwJ),Zw3⟩) (Ztq:codeIn K Ztp "law"=true) (Ztr:keepIn K (.ref Zwo)=true)
  {C_DipError:Addr} (n_DipError:nsIn K mainGlobals "DipError"=some (some (.ref C_DipError))) (x_DipError:PySem.W.excIn K C_DipError bmV newV=true) (d_DipError:PySem.W.hasDictIn K C_DipError=true) (y_DipError:PySem.W.typeIn K (.ref C_DipError)=some (.type "type"))
  {C_Empty:Addr} (n_Empty:nsIn K mainGlobals "Empty"=some (some (.ref C_Empty))) (x_Empty:PySem.W.excIn K C_Empty bmV newV=true) (d_Empty:PySem.W.hasDictIn K C_Empty=true) (y_Empty:PySem.W.typeIn K (.ref C_Empty)=some (.type "type"))
  {C_TooMany:Addr} (n_TooMany:nsIn K mainGlobals "TooMany"=some (some (.ref C_TooMany))) (x_TooMany:PySem.W.excIn K C_TooMany bmV newV=true) (d_TooMany:PySem.W.hasDictIn K C_TooMany=true) (y_TooMany:PySem.W.typeIn K (.ref C_TooMany)=some (.type "type"))
  (b_all:nsIn K mainGlobals "all"=some none)
  (b_any:nsIn K mainGlobals "any"=some none)
  (b_enumerate:nsIn K mainGlobals "enumerate"=some none)
  (b_isinstance:nsIn K mainGlobals "isinstance"=some none)
  (b_len:nsIn K mainGlobals "len"=some none)
  (b_list:nsIn K mainGlobals "list"=some none)
  (b_max:nsIn K mainGlobals "max"=some none)
  (b_min:nsIn K mainGlobals "min"=some none)
  (b_range:nsIn K mainGlobals "range"=some none)
  (b_sorted:nsIn K mainGlobals "sorted"=some none)
  (b_tuple:nsIn K mainGlobals "tuple"=some none)
  {t_MOST_HELD:Tok} (m_MOST_HELD:nsIn K mainGlobals "MOST_HELD"=some (some (.int 6 t_MOST_HELD)))
  {t_MOST_HOLDING:Tok} (m_MOST_HOLDING:nsIn K mainGlobals "MOST_HOLDING"=some (some (.int 16 t_MOST_HOLDING)))
  (nd:[ZbT,ZbW,Zbp,Zb5].Nodup)
  : ∃fd:FuncData,(∀(s:Shared) (v:Value),BindsTo s fd ⟨[v],[]⟩ [("script",v)])/\(∀p∈Zfg K mg,p.1∈ts/\K.lookup p.1=none/\∃c,PySem.W.codeHdIn K c p.1=true)/\((Zfg K mg).map (·.1)).Nodup/\∀base:Heap,K.In base->base.Ns mainGlobals mg->BM mg base->FnOk l.prog w K mg base (CXE l.prog w) 9 fa fd ["script"] (ZpY K mg):=by
 have e:=hfa.symm.trans (mg_of X G Ztn)
 cases e
 have q_DipError:clsAt mg "DipError"=C_DipError:=by unfold clsAt;rw[mg_of X G n_DipError]
 have q_Empty:clsAt mg "Empty"=C_Empty:=by unfold clsAt;rw[mg_of X G n_Empty]
 have q_TooMany:clsAt mg "TooMany"=C_TooMany:=by unfold clsAt;rw[mg_of X G n_TooMany]
 have q_MOST_HELD:tokAt mg "MOST_HELD"=t_MOST_HELD:=by unfold tokAt;rw[mg_of X G m_MOST_HELD]
 have q_MOST_HOLDING:tokAt mg "MOST_HOLDING"=t_MOST_HOLDING:=by unfold tokAt;rw[mg_of X G m_MOST_HOLDING]
 have T:Txt K mg:={
  b_all:=mg_none_of X G b_all
  b_any:=mg_none_of X G b_any
  b_enumerate:=mg_none_of X G b_enumerate
  b_isinstance:=mg_none_of X G b_isinstance
  b_len:=mg_none_of X G b_len
  b_list:=mg_none_of X G b_list
  b_max:=mg_none_of X G b_max
  b_min:=mg_none_of X G b_min
  b_range:=mg_none_of X G b_range
  b_sorted:=mg_none_of X G b_sorted
  b_tuple:=mg_none_of X G b_tuple
  c_DipError:=by rw[q_DipError];exact mg_of X G n_DipError
  x_DipError:=by rw[q_DipError];exact x_DipError
  c_Empty:=by rw[q_Empty];exact mg_of X G n_Empty
  x_Empty:=by rw[q_Empty];exact x_Empty
  c_TooMany:=by rw[q_TooMany];exact mg_of X G n_TooMany
  x_TooMany:=by rw[q_TooMany];exact x_TooMany
  m_MOST_HELD:=by rw[q_MOST_HELD];exact mg_of X G m_MOST_HELD
  m_MOST_HOLDING:=by rw[q_MOST_HOLDING];exact mg_of X G m_MOST_HOLDING
 }
 subst ZdP
 have ZaB:=ZiX (mg_of X G Zct) Zcu rfl ZdQ ZdR
 have Zmn:ZlY K mg "from_below" ZeT:=⟨ZbS,ZaB.2,by rw[ZaB.1];exact ZbU⟩
 subst ZdU
 have ZaC:=ZiX (mg_of X G Zcx) Zcy rfl ZdV ZdW
 have Zmo:ZlY K mg "best_ahead" ZeY:=⟨ZbV,ZaC.2,by rw[ZaC.1];exact ZbX⟩
 subst Zc3
 have Zai:=ZiX (mg_of X G ZbY) ZbZ rfl Zc4 Zc5
 have ZkC:ZlY K mg "best_behind" ZdZ:=⟨Zbo,Zai.2,by rw[Zai.1];exact Zbq⟩
 subst Zea
 have ZaD:=ZiX (mg_of X G ZcD) ZcE rfl Zeb Zec
 have Zmp:ZlY K mg "_law_table" Zfb:=⟨Zb4,ZaD.2,by rw[ZaD.1];exact Zb6⟩
 have ZbB:=ZuQ (st:=Zaf) Zc1 Zc2 ZaO
 have Zj7:=ZbB.binds (ps:=["row","fewest"]) (ds:=[]) Zbn λ_ _ _ _ _ _ us hl=>by obtain⟨x0,u0,rfl,h0⟩:=le1 (show us.length=2 by simpa using hl);obtain⟨x1,u1,rfl,h1⟩:=le1 h0;obtain rfl:=le0 h1;exact⟨_,rfl,rfl⟩
 have ZiN:=ZbB.binds (ps:=["row","fewest"]) (ds:=[.int 1 Zfk]) Zbn λ_ _ _ _ _ _ us hl=>by obtain⟨x0,u0,rfl,h0⟩:=le1 (show us.length=1 from Nat.succ.inj (YS.symm.trans hl));obtain rfl:=le0 h0;exact⟨_,rfl,rfl⟩
 have Znz:=ZH (st:=Zeq) ZjV ZjW Zhr
 have Zts:=Znz.binds (ps:=["elders","spine","place","keep"]) λ_ _ _ _ _ _ us hl=>by obtain⟨x0,u0,rfl,h0⟩:=le1 hl;obtain⟨x1,u1,rfl,h1⟩:=le1 h0;obtain⟨x2,u2,rfl,h2⟩:=le1 h1;obtain⟨x3,u3,rfl,h3⟩:=le1 h2;obtain rfl:=le0 h3;exact rfl
 have Zlm:=ZH (st:=ZcI) Zia Zib Zgi
 have Zre:=Zlm.binds (ps:=["row"]) λ_ _ _ _ _ _ us hl=>by obtain⟨x0,u0,rfl,h0⟩:=le1 hl;obtain rfl:=le0 h0;exact rfl
 have ZnA:=ZH (st:=Zer) ZjY ZjZ Zhs
 have Ztt:=ZnA.binds (ps:=["tree","place"]) λ_ _ _ _ _ _ us hl=>by rfl'
 have Zj8:=ZH (st:=ZbH) ZgT ZgU ZeS
 have Zpi:=Zj8.binds (ps:=["tree"]) λ_ _ _ _ _ _ us hl=>by obtain⟨x0,u0,rfl,h0⟩:=le1 hl;obtain rfl:=le0 h0;exact rfl
 have Zhx:=ZH (st:=ZaR) Zcu ZeU Zcv
 have Zmq:=Zhx.binds (ps:=["tree"]) λ_ _ _ _ _ _ us hl=>by obtain⟨x0,u0,rfl,h0⟩:=le1 hl;obtain rfl:=le0 h0;exact rfl
 have Zhy:=ZH (st:=ZaS) ZeW ZeX Zcw
 have Zmr:=Zhy.binds (ps:=["row","text"]) λ_ _ _ _ _ _ us hl=>by rfl'
 have Zhz:=ZH (st:=ZaT) Zcy ZeZ Zcz
 have Zms:=Zhz.binds (ps:=["text","pairs","i"]) λ_ _ _ _ _ _ us hl=>by obtain⟨x0,u0,rfl,h0⟩:=le1 hl;obtain⟨x1,u1,rfl,h1⟩:=le1 h0;obtain⟨x2,u2,rfl,h2⟩:=le1 h1;obtain rfl:=le0 h2;exact rfl
 have Zgw:=ZH (st:=Zax) ZbZ Zd0 Zb0
 have ZkD:=Zgw.binds (ps:=["text","pairs","i"]) λ_ _ _ _ _ _ us hl=>by obtain⟨x0,u0,rfl,h0⟩:=le1 hl;obtain⟨x1,u1,rfl,h1⟩:=le1 h0;obtain⟨x2,u2,rfl,h2⟩:=le1 h1;obtain rfl:=le0 h2;exact rfl
 have Zln:=ZH (st:=ZcJ) Zid Zie Zgj
 have Zrf:=Zln.binds (ps:=["text","table","young","i"]) λ_ _ _ _ _ _ us hl=>by obtain⟨x0,u0,rfl,h0⟩:=le1 hl;obtain⟨x1,u1,rfl,h1⟩:=le1 h0;obtain⟨x2,u2,rfl,h2⟩:=le1 h1;obtain⟨x3,u3,rfl,h3⟩:=le1 h2;obtain rfl:=le0 h3;exact rfl
 have Zj9:=ZH (st:=ZbI) ZgW ZgX Ze0
 have Zpj:=Zj9.binds (ps:=["tree","text"]) λ_ _ _ _ _ _ us hl=>by rfl'
 have Zgx:=ZH (st:=Zay) Zd2 Zd3 Zb1
 have ZkE:=Zgx.binds (ps:=["pair","other"]) λ_ _ _ _ _ _ us hl=>by rfl'
 have Zdw:=ZH (st:=ZP) Zbs Zbt ZaH
 have ZhA:=Zdw.binds (ps:=["row","text"]) λ_ _ _ _ _ _ us hl=>by rfl'
 have Ziy:=ZH (st:=Za9) ZfP ZfQ Zdo
 have ZnB:=Ziy.binds (ps:=["script","k"]) λ_ _ _ _ _ _ us hl=>by rfl'
 have Ziz:=ZH (st:=Zba) ZfS ZfT Zdp
 have ZnC:=Ziz.binds (ps:=["pot","many"]) λ_ _ _ _ _ _ us hl=>by rfl'
 have Zka:=ZH (st:=ZbJ) Zg0 Zg1 Ze1
 have Zpk:=Zka.binds (ps:=["pot","most"]) λ_ _ _ _ _ _ us hl=>by rfl'
 have ZhB:=ZH (st:=ZaU) Ze3 Ze4 ZcA
 have Zmt:=ZhB.binds (ps:=["row","place"]) λ_ _ _ _ _ _ us hl=>by rfl'
 have ZiA:=ZH (st:=Zbb) ZfV ZfW Zdq
 have ZnD:=ZiA.binds (ps:=["row"]) λ_ _ _ _ _ _ us hl=>by obtain⟨x0,u0,rfl,h0⟩:=le1 hl;obtain rfl:=le0 h0;exact rfl
 have ZiB:=ZH (st:=Zbc) ZfY ZfZ Zdr
 have ZnE:=ZiB.binds (ps:=["tree","place"]) λ_ _ _ _ _ _ us hl=>by rfl'
 have Zgy:=ZH (st:=Zaz) Zd5 Zd6 Zb2
 have ZkF:=Zgy.binds (ps:=["pot","some"]) λ_ _ _ _ _ _ us hl=>by rfl'
 have ZiC:=ZH (st:=Zbd) Zf1 Zf2 Zds
 have ZnF:=ZiC.binds (ps:=["pot","most","wide"]) λ_ _ _ _ _ _ us hl=>by obtain⟨x0,u0,rfl,h0⟩:=le1 hl;obtain⟨x1,u1,rfl,h1⟩:=le1 h0;obtain⟨x2,u2,rfl,h2⟩:=le1 h1;obtain rfl:=le0 h2;exact rfl
 have Zgz:=ZH (st:=ZaA) Zd8 Zd9 Zb3
 have ZkG:=Zgz.binds (ps:=["many","size"]) λ_ _ _ _ _ _ us hl=>by rfl'
 have Zf7:=ZH (st:=Zag) Zc9 Zda Zbu
 have Zkb:=Zf7.binds (ps:=["row","text"]) λ_ _ _ _ _ _ us hl=>by rfl'
 have ZhC:=ZH (st:=ZaV) Ze6 Ze7 ZcB
 have Zmu:=ZhC.binds (ps:=["tree","place"]) λ_ _ _ _ _ _ us hl=>by rfl'
 have ZiD:=ZH (st:=Zbe) Zf5 Zf6 Zdt
 have ZnG:=ZiD.binds (ps:=["tree","place","later"]) λ_ _ _ _ _ _ us hl=>by obtain⟨x0,u0,rfl,h0⟩:=le1 hl;obtain⟨x1,u1,rfl,h1⟩:=le1 h0;obtain⟨x2,u2,rfl,h2⟩:=le1 h1;obtain rfl:=le0 h2;exact rfl
 have ZhD:=ZH (st:=ZaW) Ze9 Zfa ZcC
 have Zmv:=ZhD.binds (ps:=["tree","text","table","place","at"]) λ_ _ _ _ _ _ us hl=>by obtain⟨x0,u0,rfl,h0⟩:=le1 hl;obtain⟨x1,u1,rfl,h1⟩:=le1 h0;obtain⟨x2,u2,rfl,h2⟩:=le1 h1;obtain⟨x3,u3,rfl,h3⟩:=le1 h2;obtain⟨x4,u4,rfl,h4⟩:=le1 h3;obtain rfl:=le0 h4;exact rfl
 have ZhE:=ZH (st:=ZaX) ZcE Zfc ZcF
 have Zmw:=ZhE.binds (ps:=["row","text"]) λ_ _ _ _ _ _ us hl=>by rfl'
 have Zdx:=ZH (st:=ZQ) Zbw Zbx ZaI
 have ZhF:=Zdx.binds (ps:=["pairs"]) λ_ _ _ _ _ _ us hl=>by obtain⟨x0,u0,rfl,h0⟩:=le1 hl;obtain rfl:=le0 h0;exact rfl
 have Zdy:=ZH (st:=ZR) Zbz ZbA ZaJ
 have ZhG:=Zdy.binds (ps:=["pot","row","text","due"]) λ_ _ _ _ _ _ us hl=>by obtain⟨x0,u0,rfl,h0⟩:=le1 hl;obtain⟨x1,u1,rfl,h1⟩:=le1 h0;obtain⟨x2,u2,rfl,h2⟩:=le1 h1;obtain⟨x3,u3,rfl,h3⟩:=le1 h2;obtain rfl:=le0 h3;exact rfl
 have Zfm:=ZH (st:=Z3) Zck Zcl Za5
 have ZiO:=Zfm.binds (ps:=["row","text"]) λ_ _ _ _ _ _ us hl=>by rfl'
 have Zw0:=ZH (st:=Zhl) Zto Ztq Ztr
 refine⟨fnOf "law" "law" (defArgs Zhl) (defBody Zhl) (defScope Zhl) .none ZwF ZwG ZwH ZwI Ztp ZwJ,λs v=>.of_eq rfl,?tb,?nd,λbase _ _ B=>?_⟩
 case tb =>
  intro p hp
  unfold Zfg at hp
  simp only[Yk,List.not_mem_nil,or_false]at hp
  rcases hp with rfl|rfl|rfl|rfl
  .exact⟨by rw[ZaB.1];exact ZdT,by rw[ZaB.1];exact ZdS,ZbS,by rw[ZaB.1];exact ZbU⟩
  .exact⟨by rw[ZaC.1];exact ZdY,by rw[ZaC.1];exact ZdX,ZbV,by rw[ZaC.1];exact ZbX⟩
  .exact⟨by rw[Zai.1];exact Zc7,by rw[Zai.1];exact Zc6,Zbo,by rw[Zai.1];exact Zbq⟩
  .exact⟨by rw[ZaD.1];exact Zee,by rw[ZaD.1];exact Zed,Zb4,by rw[ZaD.1];exact Zb6⟩
 case nd =>
  unfold Zfg
  simp only[YR,List.map_nil]
  rw[ZaB.1,ZaC.1,Zai.1,ZaD.1]
  exact nd
 have ZfL:Callee l.prog w K mg base "_law_deal" 1 ["script","k"] (ZeD K mg):=⟨_,_,mg_of X G ZfO,Zdo,ZnB,Zl8 Ziy T⟩
 have Zv:Callee l.prog w K mg base "_law_take" 1 ["pot","many"] (Zbi K mg):=⟨_,_,mg_of X G ZfR,Zdp,ZnC,Zl9 Ziz T⟩
 have ZeP:Callee l.prog w K mg base "_law_row" 2 ["pot","most"] (ZfE K mg):=⟨_,_,mg_of X G ZgZ,Ze1,Zpk,Znk Zka Zv T⟩
 have Zdm:Callee l.prog w K mg base "_law_pair" 3 ["pot","most","wide"] (ZeG K mg):=⟨_,_,mg_of X G Zf0,Zds,ZnF,Zme ZiC Zv ZeP T⟩
 have ZeK:Callee l.prog w K mg base "_law_elder" 1 ["row","place"] (ZdG K mg):=⟨_,_,mg_of X G Ze2,ZcA,Zmt,Zko ZhB T⟩
 have ZX:Callee l.prog w K mg base "_law_tree" 2 ["row"] (Zbj K mg):=⟨_,_,mg_of X G ZfU,Zdq,ZnD,Zma ZiA ZeK T⟩
 have ZdN:Callee l.prog w K mg base "_law_tuples" 1 ["many","size"] (ZcW K mg):=⟨_,_,mg_of X G Zd7,Zb3,ZkG,ZjO Zgz T⟩
 have Zc0:Callee l.prog w K mg base "_law_holding" 3 ["row","text"] (Zcg K mg):=⟨_,_,mg_of X G Zc8,Zbu,Zkb,ZiJ Zf7 ZX ZdN T⟩
 have ZS:Callee l.prog w K mg base "_law_least_ones" 1 ["pairs"] (Zao K mg):=⟨_,_,mg_of X G Zbv,ZaI,ZhF,ZgO Zdx T⟩
 have ZjR:Callee l.prog w K mg base "settle" 1 ["elders","spine","place","keep"] (Zh2 K mg):=⟨_,_,mg_of X G ZjU,Zhr,Zts,ZqY Znz T⟩
 have Zh8:Callee l.prog w K mg base "tree_of" 2 ["row"] (ZgL K mg):=⟨_,_,mg_of X G Zh9,Zgi,Zre,ZoE Zlm ZjR T⟩
 have Ztu:Callee l.prog w K mg base "need_numbers" 1 ["row","fewest"] (Za3 K mg):=⟨_,_,mg_of X G Zbm,ZaO,Zj7,Zfj ZbB T⟩
 have Zci:ZlS l.prog w K mg base "need_numbers" 1 ["row","fewest"] [V.int 1] (Za3 K mg):=⟨_,_,_,mg_of X G Zbm,ZaO,ZiN,.cons ⟨_,rfl⟩ .nil,Zfj ZbB T⟩
 have ZeQ:Callee l.prog w K mg base "need_loose" 2 ["row","text"] (ZdF K mg):=⟨_,_,mg_of X G ZeV,Zcw,Zmr,Zkr Zhy Zci T⟩
 have ZgQ:Callee l.prog w K mg base "young_of" 1 ["tree"] (ZfC K mg):=⟨_,_,mg_of X G ZgS,ZeS,Zpi,Znp Zj8 T⟩
 have ZjS:Callee l.prog w K mg base "way_up" 1 ["tree","place"] (Zh1 K mg):=⟨_,_,mg_of X G ZjX,Zhs,Ztt,ZqZ ZnA T⟩
 have ZeM:Callee l.prog w K mg base "from_below" 5 ["tree"] (ZdC K mg):=⟨_,_,mg_of X G Zct,Zcv,Zmq,Zkp Zhx ZjS Zmn B T⟩
 have ZeL:Callee l.prog w K mg base "best_ahead" 1 ["text","pairs","i"] (ZdD K mg):=⟨_,_,mg_of X G Zcx,Zcz,Zms,Zkq Zhz Zmo B T⟩
 have ZdM:Callee l.prog w K mg base "best_behind" 1 ["text","pairs","i"] (ZcU K mg):=⟨_,_,mg_of X G ZbY,Zb0,ZkD,ZjJ Zgw ZkC B T⟩
 have Zh7:Callee l.prog w K mg base "pair_at" 2 ["text","table","young","i"] (ZgK K mg):=⟨_,_,mg_of X G Zic,Zgj,Zrf,ZoJ Zln ZeL ZdM T⟩
 have ZgR:Callee l.prog w K mg base "table_by" 6 ["tree","text"] (ZfD K mg):=⟨_,_,mg_of X G ZgV,Ze0,Zpj,Znq Zj9 ZgQ ZeM Zh7 T⟩
 have ZdO:Callee l.prog w K mg base "lies_within" 1 ["pair","other"] (ZcX K mg):=⟨_,_,mg_of X G Zd1,Zb1,ZkE,ZjQ Zgx T⟩
 have ZaF:Callee l.prog w K mg base "least_stretches" 7 ["row","text"] (Za6 K mg):=⟨_,_,mg_of X G Zbr,ZaH,ZhA,ZgN Zdw Zh8 ZeQ ZgR ZdO T⟩
 have ZbR:Callee l.prog w K mg base "_law_either" 2 ["pot","some"] (ZcV K mg):=⟨_,_,mg_of X G Zd4,Zb2,ZkF,ZjL Zgy Zv T⟩
 have ZaG:Callee l.prog w K mg base "_law_told_right" 8 ["pot","row","text","due"] (Za7 K mg):=⟨_,_,mg_of X G Zby,ZaJ,ZhG,ZgP Zdy ZaF ZbR T⟩
 have ZfK:Callee l.prog w K mg base "_law_over" 1 ["tree","place"] (ZeE K mg):=⟨_,_,mg_of X G ZfX,Zdr,ZnE,Zmb ZiB T⟩
 have ZeN:Callee l.prog w K mg base "_law_under" 2 ["tree","place"] (ZdI K mg):=⟨_,_,mg_of X G Ze5,ZcB,Zmu,Zks ZhC ZfK T⟩
 have Zdl:Callee l.prog w K mg base "_law_hand" 1 ["tree","place","later"] (ZeF K mg):=⟨_,_,mg_of X G Zf4,Zdt,ZnG,Zmd ZiD T⟩
 have ZeO:Callee l.prog w K mg base "_law_ruled" 2 ["tree","text","table","place","at"] (ZdH K mg):=⟨_,_,mg_of X G Ze8,ZcC,Zmv,Zkt ZhD Zdl T⟩
 have ZeR:Callee l.prog w K mg base "_law_table" 6 ["row","text"] (ZdJ K mg):=⟨_,_,mg_of X G ZcD,ZcF,Zmw,Zku ZhE ZX ZeN ZeO Zmp B T⟩
 have Za4:Callee l.prog w K mg base "_law_by_rules" 7 ["row","text"] (ZbK K mg):=⟨_,_,mg_of X G Zcj,Za5,ZiO,Zh6 Zfm ZX ZeR ZS T⟩
 exact ok_law Zw0 ZfL Zdm Zc0 ZS ZaG Za4 T
theorem walk {l:PySem.W.OpenLaw}{q:Program}{loose:List Str}{XP:(Str->Option Value)->Heap->Prop}{YP:World->Heap->Prop}{d:DefRec}{K:Params->PySem.W.Frag}{ts:List Addr} (hn:l.most=some 63) (hdf:d.params.defaults=[])
  (hY:∀(w:World) (h:Heap),YP w h->(K w.params).In h) (hY2:∀(w:World) (h:Heap),YP w h->∀P∈ts,h.get? P=some (PySem.W.tabObj #[]))
  (F:∀(w:World) (mg:Str->Option Value) (fa:Addr) (h:Heap),(K w.params).In h->h.Ns mainGlobals mg->mg d.name=some (.ref fa) ->
   ∃fd:FuncData,(∀(s:Shared) (u:Value),BindsTo s fd ⟨[u],[]⟩ [("script",u)])/\(∀p∈Zfg (K w.params) mg,p.1∈ts/\(K w.params).lookup p.1=none/\∃c,PySem.W.codeHdIn (K w.params) c p.1=true)/\((Zfg (K w.params) mg).map (·.1)).Nodup/\∀base:Heap,(K w.params).In base->base.Ns mainGlobals mg->BM mg base->FnOk l.prog w (K w.params) mg base (CXE l.prog w) 9 fa fd ["script"] (ZpY (K w.params) mg)) :
  PySem.W.WalkO q loose XP YP l.row.toRowW d [] (λf vs=>PySem.call f vs) :=
 Lake.Zse (n:=63) (k:=9) (x:="script") (ts:=ts) (tabs:=Zfg) (CX:=λw=>CXE l.prog w) (sp:=λw mg=>ZpY (K w.params) mg) hn nofun hdf ⟨rfl,by decide,by decide⟩ hY hY2 F (λ_ _ _ a ns hl hS hT=>⟨a,ns,rfl,hS,hl,hT,λ_=>rfl⟩) λ_ _ _ _ _ ⟨_,_,_,_,_,_,_,z⟩=>z
end Internal
namespace PySem.W.Fast
def tw13566384357837199458:=()
def tw7699946233030399531:=()
def tw10861387661810441664:=()
def tw17473678946673660849:=()
def tw14579916828907704438:=()
def tw4295811397302636191:=()
def tw6351297056681793983:=()
def tw8273106838635351001:=()
def tw6002483805178589598:=()
def tw4672795050507769519:=()
def tw11567923116969484348:=()
def tw14630661258143369850:=()
def tw17266094162804941489:=()
def tw8899136389728789558:=()
def tw14826530137272304563:=()
def tw6853388205838667187:=()
def tw10412559084427335433:=()
def tw5848392346057009587:=()
def tw521885396295426612:=()
def tw17622735829818588014:=()
def tw18273183363655039712:=()
def tw12538420313862411866:=()
def tw1146041324151358797:=()
def tw4137224937260142269:=()
def tw4257730885389051950:=()
def tw16856985261392378475:=()
def tw16637872353509603284:=()
def tw14471624673474359210:=()
def tw9727147574270439443:=()
def tw6362023858932689009:=()
def tw16481304863304543646:=()
def tw5874913880960627427:=()
def tw8985323709133743942:=()
def tw5179642617552654421:=()
def tw10619917158345613660:=()
def tw5026077665854161401:=()
def tw8926530142395056119:=()
def tw12189721287715033557:=()
def tw954454271157097198:=()
def tw11172992046121121693:=()
def tw10609914182510129926:=()
def tw16179447617647373888:=()
def tw15411072236446619813:=()
def tw7464908189739362412:=()
def tw6759005947083770343:=()
def tw16466680151795935448:=()
def tw13332914328518674341:=()
def tw13452023410697363345:=()
def tw16616064582620490845:=()
def tw17763576143011434065:=()
def tw16079597683433398870:=()
def tw2970199335624418230:=()
def tw11642233942845056321:=()
def tw10714944194471608432:=()
def tw5436597992004980964:=()
def tw17229831433167848942:=()
def tw1669967929890865249:=()
def tw10121068177028584637:=()
def tw8475434117941783591:=()
def tw17349632809019335255:=()
def tw11204523622295147669:=()
def tw15120826198486017742:=()
def tw2801798165958848678:=()
def tw13415720219289948092:=()
def tw15207212354092966747:=()
def tw6691043891435102143:=()
def tw16179406065469802804:=()
def tw17146317423415065231:=()
def tw17414756658770764954:=()
def tw12264563370767875699:=()
def tw7520228009897289274:=()
def tw1416639051921563284:=()
def tw7497879215026973645:=()
def tw15022318538876373540:=()
def tw709103020881061688:=()
def tw9535263487030340055:=()
def tw9755640311769066923:=()
def tw11924112586339597443:=()
def tw2477872982072144047:=()
end PySem.W.Fast
open PySem PySem.W PyProof.Rows
set_option maxRecDepth 100000 in
set_option maxHeartbeats 0 in
theorem PySem.Challenge.cw_dipkin_k52_least_stretches_told_holds : PySem.Challenge.rw_dipkin_k52_least_stretches_told.Holds := by
 w_on;o_law;k_head;(case hw=>w_witness2)
 k_fill
 refine Internal.walk (l:=PySem.Challenge.rw_dipkin_k52_least_stretches_told) rfl rfl (λw h Y=>PySem.W.km_in_of Y) (λw h Y=>PySem.W.km_tabs_of Y) ?F
 case F =>
  intro w mg fa h KX G hmg
  refine' Internal.all_mk KX G hmg ?Zbm ?Zc1 ?Zc2 ?ZaO ?Zbn ?ZjU ?ZjV ?ZjW ?Zhr ?Zh9 ?Zia ?Zib ?Zgi ?ZjX ?ZjY ?ZjZ ?Zhs ?ZgS ?ZgT ?ZgU ?ZeS ?Zct ?Zcu ?ZeU ?Zcv ?ZdP ?ZdQ ?ZdR ?ZbU ?ZdS ?ZdT ?ZeV ?ZeW ?ZeX ?Zcw ?Zcx ?Zcy ?ZeZ ?Zcz ?ZdU ?ZdV ?ZdW ?ZbX ?ZdX ?ZdY ?ZbY ?ZbZ ?Zd0 ?Zb0 ?Zc3 ?Zc4 ?Zc5 ?Zbq ?Zc6 ?Zc7 ?Zic ?Zid ?Zie ?Zgj ?ZgV ?ZgW ?ZgX ?Ze0 ?Zd1 ?Zd2 ?Zd3 ?Zb1 ?Zbr ?Zbs ?Zbt ?ZaH ?ZfO ?ZfP ?ZfQ ?Zdo ?ZfR ?ZfS ?ZfT ?Zdp ?ZgZ ?Zg0 ?Zg1 ?Ze1 ?Ze2 ?Ze3 ?Ze4 ?ZcA ?ZfU ?ZfV ?ZfW ?Zdq ?ZfX ?ZfY ?ZfZ ?Zdr ?Zd4 ?Zd5 ?Zd6 ?Zb2 ?Zf0 ?Zf1 ?Zf2 ?Zds ?Zd7 ?Zd8 ?Zd9 ?Zb3 ?Zc8 ?Zc9 ?Zda ?Zbu ?Ze5 ?Ze6 ?Ze7 ?ZcB ?Zf4 ?Zf5 ?Zf6 ?Zdt ?Ze8 ?Ze9 ?Zfa ?ZcC ?ZcD ?ZcE ?Zfc ?ZcF ?Zea ?Zeb ?Zec ?Zb6 ?Zed ?Zee ?Zbv ?Zbw ?Zbx ?ZaI ?Zby ?Zbz ?ZbA ?ZaJ ?Zcj ?Zck ?Zcl ?Za5 ?Ztn ?Zto ?Ztq ?Ztr ?n_DipError ?x_DipError ?d_DipError ?y_DipError ?n_Empty ?x_Empty ?d_Empty ?y_Empty ?n_TooMany ?x_TooMany ?d_TooMany ?y_TooMany ?b_all ?b_any ?b_enumerate ?b_isinstance ?b_len ?b_list ?b_max ?b_min ?b_range ?b_sorted ?b_tuple ?m_MOST_HELD ?m_MOST_HOLDING ?nd
  (case Zbm|Zc1|Zc2|ZaO|Zbn|ZjU|ZjV|ZjW|Zhr|Zh9|Zia|Zib|Zgi|ZjX|ZjY|ZjZ|Zhs|ZgS|ZgT|ZgU|ZeS|Zct|Zcu|ZeU|Zcv=>k_is)
  (case ZdP=>exact rfl)
  (case ZdQ=>k_is)
  (case ZdR=>exact rfl)
  (case ZbU=>kernel_rfl)
  (case ZdS=>kernel_rfl)
  (case ZdT=>decide)
  (case ZeV|ZeW|ZeX|Zcw|Zcx|Zcy|ZeZ|Zcz=>k_is)
  (case ZdU=>exact rfl)
  (case ZdV=>k_is)
  (case ZdW=>exact rfl)
  (case ZbX=>kernel_rfl)
  (case ZdX=>kernel_rfl)
  (case ZdY=>decide)
  (case ZbY|ZbZ|Zd0|Zb0=>k_is)
  (case Zc3=>exact rfl)
  (case Zc4=>k_is)
  (case Zc5=>exact rfl)
  (case Zbq=>kernel_rfl)
  (case Zc6=>kernel_rfl)
  (case Zc7=>decide)
  (case Zic|Zid|Zie|Zgj|ZgV|ZgW|ZgX|Ze0|Zd1|Zd2|Zd3|Zb1|Zbr|Zbs|Zbt|ZaH|ZfO|ZfP|ZfQ|Zdo|ZfR|ZfS|ZfT|Zdp|ZgZ|Zg0|Zg1|Ze1|Ze2|Ze3|Ze4|ZcA|ZfU|ZfV|ZfW|Zdq|ZfX|ZfY|ZfZ|Zdr|Zd4|Zd5|Zd6|Zb2|Zf0|Zf1|Zf2|Zds|Zd7|Zd8|Zd9|Zb3|Zc8|Zc9|Zda|Zbu|Ze5|Ze6|Ze7|ZcB|Zf4|Zf5|Zf6|Zdt|Ze8|Ze9|Zfa|ZcC|ZcD|ZcE|Zfc|ZcF=>k_is)
  (case Zea=>exact rfl)
  (case Zeb=>k_is)
  (case Zec=>exact rfl)
  (case Zb6=>kernel_rfl)
  (case Zed=>kernel_rfl)
  (case Zee=>decide)
  (case Zbv|Zbw|Zbx|ZaI|Zby|Zbz|ZbA|ZaJ|Zcj|Zck|Zcl|Za5|Ztn|Zto|Ztq|Ztr|n_DipError=>k_is)
  (case x_DipError=>k_exc)
  (case d_DipError|y_DipError|n_Empty=>k_is)
  (case x_Empty=>k_exc)
  (case d_Empty|y_Empty|n_TooMany=>k_is)
  (case x_TooMany=>k_exc)
  (case d_TooMany|y_TooMany|b_all|b_any|b_enumerate|b_isinstance|b_len|b_list|b_max|b_min|b_range|b_sorted|b_tuple|m_MOST_HELD|m_MOST_HOLDING=>k_is)
  (case nd=>decide)
