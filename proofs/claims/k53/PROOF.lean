import PyProof.Rows.All
import Wide.All
import OpenK.AllK
import Wide.FinOn
import Lean
import PyProof.EqAt
import PyProof.EqKinds
import PyProof.TupleCall
import PyProof.MeetsSeq
import PyProof.NeKinds
import PyProof.TupleOfSeq
import PyProof.ListRange
import PyProof.TupleOfGen
import PyProof.ZipIter
import KE.KRevIter
import PyProof.StrWalks
import PyProof.StrBlock2
import PyProof.MeetsStr
import PyProof.StrCalls2
import PyProof.StrLawsIn
import KE.KIntText
import PyProof.StrLawsTight
import PyProof.StrLawsChain
import PyProof.StrLawsAffix
import PyProof.Rows.StrItems
import PyProof.Rows.ReprOcc
import KE.KDictSum
import PyProof.Rows.SeqMore
import KE.KDictList
import KE.KStateDown
import PyProof.StrBlockI
import PyProof.FactsAll.NoneType_1
import PyProof.FString2
import PyProof.TupleKey
import PySem.Challenge.RW_dipkin_k53_places_in_stretches
set_option Elab.async false
set_option linter.all false
set_option maxRecDepth 100000
set_option maxHeartbeats 4000000
set_option genSizeOfSpec false
set_option bootstrap.genMatcherCode false
set_option compiler.extract_closed false
set_option hygiene false
local macro_rules | `(tactic| omega) => `(tactic| first | lia | omega (config := {}))
local macro_rules | `(⋯)=>`(by omega)
local macro_rules | `(tactic|and_intros)=>`(tactic|first|exact .inl rfl|exact .inr rfl|assumption)
local macro_rules | `(tactic|ac_rfl)=>`(tactic|first|exact Or.inl rfl|exact Or.inr (Or.inl rfl)|exact Or.inr (Or.inr rfl))
local macro_rules | `(tactic|ac_nf)=>`(tactic|(intro _;rfl))
local macro_rules | `(tactic|infer_instance)=>`(tactic|exact ⟨rfl,rfl,rfl,by decide +kernel,rfl,by decide +kernel,by decide +kernel⟩)
local macro_rules | `(tactic|rfl')=>`(tactic|(obtain⟨x0,u0,rfl,h0⟩:=le1 hl;obtain⟨x1,u1,rfl,h1⟩:=le1 h0;obtain rfl:=le0 h1;exact rfl))
local macro_rules | `(nofun)=>`(by decide)
section
open PySem PySem.Spec PyProof.Rows
abbrev Ya:=@wpAny_bind
abbrev Yb:=@if_neg
abbrev Yc:=@wpAny_pure
abbrev Yd:=@if_pos
abbrev Ye:=@Nat.le_refl
abbrev Yf:=@List.getElem?_eq_getElem
abbrev Yg:=@List.getD_eq_getElem?_getD
abbrev Yh:=@List.length_map
abbrev Yi:=@List.mem_cons
abbrev Yj:=@Heap.lt_size
abbrev Yk:=@Heap.get?_push_of_some
abbrev Yl:=@Nat.ne_of_lt
abbrev Ym:=@List.mem_append_right
abbrev Yn:=@Nat.le_trans
abbrev Yo:=@Nat.zero_le
abbrev Yp:=@List.size_toArray
abbrev Yq:=@List.mem_range
abbrev Yr:=@List.getElem?_eq_some_iff
abbrev Ys:=@Array.length_toList
abbrev Yt:=@decide_eq_false
abbrev Yu:=@decide_eq_true
abbrev Yv:=@Heap.get?_push_size
abbrev Yw:=@List.mem_append
abbrev Yy:=@List.mem_cons_self
abbrev Yz:=@List.mem_cons_of_mem
abbrev YA:=@Nat.lt_of_le_of_lt
abbrev YB:=@Nat.lt_irrefl
abbrev YC:=@PySem.boot_len
abbrev YD:=@Nat.lt_of_lt_of_le
abbrev YE:=@wpAny_holding
abbrev YF:=@Option.some.inj
abbrev YG:=@List.getElem?_map
abbrev YH:=@List.mem_map
abbrev YI:=@List.length_cons
abbrev YJ:=@List.map_cons
abbrev YK:=@List.getElem_mem
abbrev YL:=@Bool.false_ne_true
abbrev YM:=@wpAny_mono
abbrev YN:=@Array.getD_eq_getD_getElem?
abbrev YO:=@List.mem_filter
abbrev YQ:=@List.length_append
abbrev YR:=@Nat.lt_succ_of_lt
abbrev YS:=@List.mem_append_left
abbrev YT:=@List.mem_singleton
abbrev YU:=@List.getElem_of_mem
abbrev YV:=@List.getElem?_append_right
abbrev YW:=@Array.getElem?_toList
abbrev YX:=@List.length_range
abbrev YY:=@Nat.le_succ
abbrev YZ:=@List.map_map
abbrev Y2:=@of_decide_eq_true
abbrev Y3:=@Nat.le_of_lt
abbrev Y4:=@List.length_take
abbrev Y5:=@List.getElem?_append_left
abbrev Y6:=@wpAny_ite_split
abbrev Y7:=@List.range_succ
abbrev Y8:=@Int.eq_ofNat_of_zero_le
noncomputable abbrev Y9:=@Classical.propDecidable
abbrev Ja:=@List.append_assoc
abbrev Jb:=@List.map_append
abbrev Jc:=@List.length_filter_le
abbrev Jd:=@List.getElem_append_left
abbrev Je:=@List.take_add_one
abbrev Jf:=@Int.toNat_natCast
abbrev Jg:=@List.length_drop
abbrev Jh:=@List.pairwise_cons
abbrev Ji:=@Nat.le_of_eq
abbrev Jj:=@List.getElem_append_right
abbrev Jk:=@List.take_append_drop
end
namespace Lake
open PySem PySem.Spec PyProof.Rows
noncomputable abbrev Key:=Sum Int Str
noncomputable def Ziu:Key->Value->Bool
 |.inl k,v=>Value.isInt k v
 |.inr x,v=>Value.isStrOf x v
noncomputable def keyH (w:World):Key->Int
 |.inl k=>hashInt k
 |.inr x=>hashStr w x
theorem ZU:∀{k:Key}{v:Value},Ziu k v=true->(∃i t,k=Sum.inl i/\v=Value.int i t)\/(∃x t,k=Sum.inr x/\v=Value.str x t)
 |.inl i,v,h=>by
  obtain⟨t,e⟩:=Value.isInt_shape (k:=i) (v:=v) h
  exact .inl ⟨i,t,rfl,e⟩
 |.inr x,v,h=>by
  obtain⟨t,e⟩:=Value.isStrOf_shape (x:=x) (v:=v) h
  exact .inr ⟨x,t,rfl,e⟩
theorem Zmn (i:Int) (t:Tok):Ziu (.inl i) (.int i t)=true:=by simp[Ziu,Value.isInt]
theorem Zmo (x:Str) (t:Tok):Ziu (.inr x) (.str x t)=true:=by simp[Ziu,Value.isStrOf]
theorem key_ll (a b:Int):decide ((Sum.inl a:Key)=Sum.inl b)=(a==b):=by
 by_cases e:a=b
 .subst e;simp
 .have h:¬ (Sum.inl a:Key)=Sum.inl b:=λq=>e (Sum.inl.inj q)
  rw[Yt h]
  exact(beq_eq_false_iff_ne.mpr e).symm
theorem key_rr (a b:Str):decide ((Sum.inr a:Key)=Sum.inr b)=decide (a=b):=by
 by_cases e:a=b
 .subst e;simp
 .have h:¬ (Sum.inr a:Key)=Sum.inr b:=λq=>e (Sum.inr.inj q)
  rw[Yt h,Yt e]
theorem key_lr (a:Int) (b:Str):decide ((Sum.inl a:Key)=Sum.inr b)=false:=Yt (λq=>nomatch q)
theorem key_rl (a:Str) (b:Int):decide ((Sum.inr a:Key)=Sum.inl b)=false:=Yt (λq=>nomatch q)
noncomputable def Z6 (prog:Program) (w:World):PySem.KeyKind prog w Key where
 is:=Ziu
 hash:=keyH w
 inj:=λv a b ha hb=>by
  rcases ZU ha with⟨i,t,rfl,rfl⟩|⟨x,t,rfl,rfl⟩
  .rcases ZU hb with⟨j,u,rfl,e⟩|⟨y,u,rfl,e⟩
   .injection e with e1 _;rw[e1]
   .exact nomatch e
  .rcases ZU hb with⟨j,u,rfl,e⟩|⟨y,u,rfl,e⟩
   .exact nomatch e
   .injection e with e1 _;rw[e1]
 byValue:=λk v h=>by
  rcases ZU h with⟨i,t,rfl,rfl⟩|⟨x,t,rfl,rfl⟩<;>rfl
 pyHash:=λhv h=>by
  rcases ZU hv with⟨i,t,rfl,rfl⟩|⟨x,t,rfl,rfl⟩
  .exact wpAny_pyHash_int h
  .exact wpAny_pyHash_str h
 eqBool:=λhu hv h=>by
  rcases ZU hu with⟨i,t,rfl,rfl⟩|⟨x,t,rfl,rfl⟩
  .rcases ZU hv with⟨j,u,rfl,rfl⟩|⟨y,u,rfl,rfl⟩
   .rw[key_ll]at h;exact wpAny_eqBool_int h
   .rw[key_lr]at h;exact SeqAt.EqAt.int_str i t y u _ _ _ _ h
  .rcases ZU hv with⟨j,u,rfl,rfl⟩|⟨y,u,rfl,rfl⟩
   .rw[key_rl]at h;exact SeqAt.EqAt.str_int x t j u _ _ _ _ h
   .rw[key_rr]at h;exact wpAny_eqBool_str h
 «strs»:=λk x t v h=>by
  rcases ZU h with⟨i,u,rfl,e⟩|⟨y,u,rfl,e⟩
  .exact nomatch e
  .injection e with e1 _
   subst e1
   cases v<;>rfl
theorem ZjR (prog:Program) (w:World) (i:Int) (t:Tok):(Z6 prog w).is (.inl i) (.int i t)=true:=Zmn i t
theorem ZjS (prog:Program) (w:World) (x:Str) (t:Tok):(Z6 prog w).is (.inr x) (.str x t)=true:=Zmo x t
inductive V where
 |non|bl (b:Bool)|int (i:Int)|str (x:Str)|byt (b:Array UInt8)|flt (b:UInt64)|ref (a:Addr)|ty (n:String)
 deriving DecidableEq
noncomputable def RelV:V->Value->Prop
 |.non,u=>u=Value.none
 |.bl b,u=>u=Value.bool b
 |.int i,u=>∃t,u=Value.int i t
 |.str x,u=>∃t,u=Value.str x t
 |.byt b,u=>∃t,u=Value.bytes b t
 |.flt b,u=>∃t,u=Value.float b t
 |.ref a,u=>u=Value.ref a
 |.ty n,u=>u=Value.type n
noncomputable abbrev Vals:List V->List Value->Prop:=Paired RelV
theorem Vals.length {xs:List V}{us:List Value} (r:Vals xs us):xs.length=us.length:=Paired.length r
theorem Vals.get:∀{xs:List V}{us:List Value}{i:Nat}{x:V},Vals xs us->xs[i]?=some x->∃u,us[i]?=some u/\RelV x u
 |_,_,_,_,.nil,e=>by simp at e
 |_,_,0,_,.cons r _,e=>by simp at e;subst e;exact⟨_,rfl,r⟩
 |_,_,i+1,x,.cons _ t,e=>by
  obtain⟨u,h1,h2⟩:=Vals.get (i:=i) (x:=x) t (by simpa using e)
  exact⟨u,by simpa using h1,h2⟩
theorem Vals.set {x:V}{u:Value} (r:RelV x u):∀{xs:List V}{us:List Value} (i:Nat),Vals xs us->Vals (xs.set i x) (us.set i u)
 |_,_,_,.nil=>.nil
 |_,_,0,.cons _ t=>.cons r t
 |_,_,i+1,.cons q t=>.cons q (Vals.set r i t)
theorem Vals.append:∀{xs ys:List V}{us ws:List Value},Vals xs us->Vals ys ws->Vals (xs++ys) (us++ws)
 |_,_,_,_,.nil,s=>s
 |_,_,_,_,.cons r t,s=>.cons r (Vals.append t s)
theorem Vals.take:∀{xs:List V}{us:List Value} (n:Nat),Vals xs us->Vals (xs.take n) (us.take n)
 |_,_,0,_=>.nil
 |_,_,_+1,.nil=>.nil
 |_,_,n+1,.cons r t=>.cons r (Vals.take n t)
theorem Vals.drop:∀{xs:List V}{us:List Value} (n:Nat),Vals xs us->Vals (xs.drop n) (us.drop n)
 |_,_,0,r=>r
 |_,_,_+1,.nil=>.nil
 |_,_,n+1,.cons _ t=>Vals.drop n t
noncomputable def Zhd:Option V->Option Value->Prop
 |some v,some u=>RelV v u
 |none,none=>True
 |_,_=>False
noncomputable def KV {κ:Type}:List (κ×V)->List (κ×Value)->Prop:=Paired λ(p:κ×V) (q:κ×Value)=>p.1=q.1/\RelV p.2 q.2
noncomputable def kV:Key->V
 |.inl i=>.int i
 |.inr x=>.str x
inductive HO where
 |lst (xs:List V)
 |tup (xs:List V)
 |dK (kvs:List (Key×V))|dT (kvs:List (List Key×V))
 |set (S:Int->Bool) (n:Nat)
 |ins (C dx:Addr) (fs:List (Str×V))
 |own (x:Addr)
 |xd (fs:List (Str×V))
 |met (f x:Addr)
 |rng (lo hi:Int)
 |frz (o:Obj) (u:HO)
 |tbl (ps:Array Value)
 |ext (φ:Heap->Prop)
noncomputable abbrev Hp:=Addr->Option HO
noncomputable def upd (H:Hp) (a:Addr) (o:HO):Hp:=λb=>if b=a then some o else H b
theorem Zc {H:Hp}{a:Addr}{o:HO}:upd H a o a=some o:=by unfold upd;rw[Yd rfl]
theorem Zh {H:Hp}{a b:Addr}{o:HO} (h:b≠a):upd H a o b=H b:=by unfold upd;rw[Yb h]
theorem Zq1 {H:Hp}{a:Addr}{o u:HO}:upd (upd H a o) a u=upd H a u:=by
 funext b;unfold upd;split<;>rfl
theorem ne_of {H:Hp}{a b:Addr}{o u:HO} (h:H a=some o) (h':H b=some u) (d:o≠u):a≠b:=by
 intro e;subst e;rw[h]at h';exact d (YF h')
theorem Zz {H:Hp}{a b:Addr}{o:HO} (h:H a=some o) (h':H b=none):a≠b:=by
 intro e;subst e;rw[h]at h';cases h'
section
variable (P:Program) (w:World)
noncomputable def ZO (H:Hp) (h:Heap) (a:Addr):HO->Prop
 |.lst xs=>xs.length<=sizeLine/\∃(its:List Value) (n:Nat),Vals xs its/\h.get? a=some {cls:=.type "list",data:=.seq its.toArray n}
 |.tup xs=>xs.length<=sizeLine/\∃its:List Value,Vals xs its/\IsTup h a its.toArray
 |.dK kvs=>kvs.length<=sizeLine/\(a==sysModules)=false/\∃vs,KV kvs vs/\h.DictOf (Z6 P w) a vs
 |.dT kvs=>kvs.length<=sizeLine/\(a==sysModules)=false/\∃xs:List (List Key×Addr×Value),
   Paired (λ(p:List Key×V) (q:List Key×Addr×Value)=>p.1=q.1/\H q.2.1=some (.tup (p.1.map kV))/\RelV p.2 q.2.2) kvs xs /\
   ∃o es ep,h.get? a=some o/\o.ExactDict/\o.data=.dict es ep/\es.toList=xs.map (entryOfKey (tupleKind (Z6 P w)))/\(xs.map (·.1)).Nodup
 |.set S n=>h.SetOf (intKind P w) a S n
 |.ins C dx fs=>H dx=some (.own a)/\fs.length<=1000/\dx≠a/\h.get? a=some (PySem.W.instObj C dx) /\
   ∃mA,h.Ns1 dx mA/\(∀f,Zhd (fs.lookup f) (mA f))/\PySem.Within mA (fs.map (·.1))
 |.own _=>∃o,h.get? a=some o
 |.xd fs=>∃mA,h.Ns1 a mA/\∀f,Zhd (fs.lookup f) (mA f)
 |.rng lo hi=>∃t u v,h.get? a=some {cls:=.type "range",data:=.fields #[.int lo t,.int hi u,.int 1 v]}
 |.frz o u=>h.get? a=some o/\ZO H h a u
 |.tbl ps=>∃ts:Array Value,h.get? a=some {cls:=.none,data:=.fields ts}/\TriplesOk ts.toList/\∀pos cv,codeAmong pos ts.toList=some cv->∃c oc vs q t t',cv=.ref c/\H c=some (.frz oc (.own a))/\oc.data=.fields vs/\ps[0]?=some (.str q t)/\vs[1]?=some (.str q t')
 |.met f x=>h.get? a=some (PySem.W.methodObj (.ref f) (.ref x))
 |.ext φ=>φ h/\(∃o,h.get? a=some o)/\∀h1 h2:Heap,φ h1->(∀o,h1.get? a=some o->h2.get? a=some o)->φ h2
noncomputable def HOk (H:Hp) (h:Heap):Prop:=∀a o,H a=some o->ZO P w H h a o
end
section
variable {P:Program}{w:World}{H H':Hp}{h h':Heap}{a:Addr}{o:HO}
theorem ZO.lt (x:ZO P w H h a o):a<h.objs.size:=by
 cases o with
 |lst xs=>obtain⟨_,_,_,_,e⟩:=x;exact Yj e
 |tup xs=>obtain⟨_,_,_,p⟩:=x;exact p.lt
 |dK kvs=>obtain⟨_,_,_,_,o,_,_,e,_⟩:=x;exact Yj e
 |dT kvs=>obtain⟨_,_,_,_,o,_,_,e,_⟩:=x;exact Yj e
 |set S n=>obtain⟨o,_,_,_,e,_⟩:=x;exact Yj e
 |ins C dx fs=>obtain⟨_,_,_,e,_⟩:=x;exact Yj e
 |own y=>obtain⟨_,e⟩:=x;exact Yj e
 |xd fs=>obtain⟨_,⟨_,_,_,e,_⟩,_⟩:=x;exact Yj e
 |rng lo hi=>obtain⟨_,_,_,e⟩:=x;exact Yj e
 |frz ob u=>obtain⟨e,_⟩:=x;exact Yj e
 |tbl ps=>obtain⟨_,e,_⟩:=x;exact Yj e
 |met f y=>exact Yj (show h.get? a=some _ from x)
 |ext φ=>obtain⟨_,⟨_,e⟩,_⟩:=x;exact Yj e
theorem Paired.mapP {α β:Type}{F G:α->β->Prop}:∀{l₁:List α}{l₂:List β},Paired F l₁ l₂->(∀a b,F a b->G a b)->Paired G l₁ l₂
 |_,_,.nil,_=>.nil
 |_,_,.cons r t,f=>.cons (f _ _ r) (Paired.mapP t f)
theorem ZO.ZfW (x:ZO P w H h a o) (k:∀b u,(b=a\/H b=some (.own a))->h.get? b=some u->h'.get? b=some u)
  (ho:∀b,H b=some (.own a)->H' b=some (.own a)) (ht:∀b xs,H b=some (.tup xs)->H' b=some (.tup xs)) (hz:∀b o u,H b=some (.frz o u)->H' b=some (.frz o u)):ZO P w H' h' a o:=by
 induction o with
 |lst xs=>obtain⟨z,its,n,r,e⟩:=x;exact⟨z,its,n,r,k _ _ (.inl rfl) e⟩
 |tup xs=>obtain⟨z,its,r,ob,e,c⟩:=x;exact⟨z,its,r,ob,k _ _ (.inl rfl) e,c⟩
 |dK kvs=>obtain⟨z,y,vs,r,ob,es,ep,e,c⟩:=x;exact⟨z,y,vs,r,ob,es,ep,k _ _ (.inl rfl) e,c⟩
 |dT kvs =>
  obtain⟨z,y,xs,r,ob,es,ep,e,c⟩:=x
  exact⟨z,y,xs,Paired.mapP r λp q z=>⟨z.1,ht _ _ z.2.1,z.2.2⟩,ob,es,ep,k _ _ (.inl rfl) e,c⟩
 |set S n=>obtain⟨ob,es,ep,t,e,c⟩:=x;exact⟨ob,es,ep,t,k _ _ (.inl rfl) e,c⟩
 |ins C dx fs =>
  obtain⟨d,z,ne,e,mA,⟨od,es,ep,e2,c⟩,r⟩:=x
  exact⟨ho _ d,z,ne,k _ _ (.inl rfl) e,mA,⟨od,es,ep,k _ _ (.inr d) e2,c⟩,r⟩
 |own y=>obtain⟨ob,e⟩:=x;exact⟨ob,k _ _ (.inl rfl) e⟩
 |xd fs=>obtain⟨mA,⟨od,es,ep,e,c⟩,r⟩:=x;exact⟨mA,⟨od,es,ep,k _ _ (.inl rfl) e,c⟩,r⟩
 |rng lo hi=>obtain⟨t,u,v,e⟩:=x;exact⟨t,u,v,k _ _ (.inl rfl) e⟩
 |frz ob u ih=>obtain⟨e,q⟩:=x;exact⟨k _ _ (.inl rfl) e,ih q⟩
 |tbl ps =>
  obtain⟨ts,e,t3,z⟩:=x
  refine⟨ts,k a _ (.inl rfl) e,t3,λpos cv hc=>?_⟩
  obtain⟨c,oc,vs,q,t,t',e1,e2,r⟩:=z pos cv hc
  exact⟨c,oc,vs,q,t,t',e1,hz _ _ _ e2,r⟩
 |met f y =>
  have e:h.get? a=some (PySem.W.methodObj (.ref f) (.ref y)):=x
  show h'.get? a=some (PySem.W.methodObj (.ref f) (.ref y))
  exact k a _ (.inl rfl) e
 |ext φ=>obtain⟨p,⟨o,e⟩,st⟩:=x;exact⟨st _ _ p λo q=>k _ _ (.inl rfl) q,⟨o,k _ _ (.inl rfl) e⟩,st⟩
theorem HOk.lt (x:HOk P w H h) (e:H a=some o):a<h.objs.size:=(x a o e).lt
theorem HOk.fresh (x:HOk P w H h) (e:h.objs.size<=a):H a=none:=by
 cases q:H a with
 |none=>rfl
 |some u=>exact absurd (YD (x.lt q) e) (YB _)
theorem HOk.kept (x:HOk P w H h) (k:∀b u,h.get? b=some u->h'.get? b=some u):HOk P w H h':=λa o e =>
 (x a o e).ZfW (λb u _ q=>k b u q) (λ_ q=>q) (λ_ _ q=>q) λ_ _ _ q=>q
theorem HOk.laid (x:HOk P w H h) (k:∀b u,h.get? b=some u->h'.get? b=some u) (hp:h.objs.size<=a) (new:ZO P w (upd H a o) h' a o):HOk P w (upd H a o) h':=λb u e=>by
 have hn:=x.fresh hp
 by_cases hb:b=a
 .subst hb;rw[Zc]at e;cases e;exact new
 .rw[Zh hb]at e
  exact(x b u e).ZfW (λc v _ q=>k c v q) (λc q=>by rw[Zh (Zz q hn)];exact q) (λc xs q=>by rw[Zh (Zz q hn)];exact q) λc o u q=>by rw[Zh (Zz q hn)];exact q
end
noncomputable def Rd (H:Hp) (a:Addr) (u:HO):Prop:=H a=some u\/∃o,H a=some (.frz o u)
theorem Rd.ok {P:Program}{w:World}{H:Hp}{h:Heap}{a:Addr}{u:HO} (r:Rd H a u) (x:HOk P w H h):ZO P w H h a u:=by
 rcases r with r|⟨o,r⟩
 .exact x a u r
 .obtain⟨_,q⟩:=x a _ r
  exact q
noncomputable def Mut:Option HO->Prop
 |some (.lst _)=>True
 |some (.dK _)=>True
 |some (.dT _)=>True
 |some (.set _ _)=>True
 |some (.ins _ _ _)=>True
 |some (.ext _)=>True
 |_=>False
section
variable {P:Program}{w:World}{H:Hp}{h h':Heap}{x e:Addr}{o':HO}
theorem HOk.write (ok:HOk P w H h) (mu:Mut (H x)) (he:e=x\/H e=some (.own x)) (k:∀b u,b≠e->h.get? b=some u->h'.get? b=some u) (heo:∃u,h'.get? e=some u)
  (new:ZO P w (upd H x o') h' x o'):HOk P w (upd H x o') h':=λb u q=>by
 have nown:∀c y,H c=some (.own y)->c≠x:=λc y r z=>by subst z;rw[r]at mu;exact mu
 have ntup:∀c xs,H c=some (.tup xs)->c≠x:=λc xs r z=>by subst z;rw[r]at mu;exact mu
 have nfrz:∀c o u,H c=some (.frz o u)->c≠x:=λc o u r z=>by subst z;rw[r]at mu;exact mu
 by_cases hb:b=x
 .subst hb;rw[Zc]at q;cases q;exact new
 .rw[Zh hb]at q
  by_cases hbe:b=e
  .have q':H b=some (.own x):=by
    rcases he with z|z
    .exact absurd (hbe.trans z) hb
    .rw[hbe];exact z
   rw[q]at q';cases q'
   obtain⟨v,hv⟩:=heo
   exact⟨v,by rw[hbe];exact hv⟩
  .refine(ok b u q).ZfW (λc v hc r=>k c v ?_ r) (λc r=>by rw[Zh (nown c b r)];exact r) (λc xs r=>by rw[Zh (ntup c xs r)];exact r) λc o u r=>by rw[Zh (nfrz c o u r)];exact r
   rcases hc with rfl|hc
   .exact hbe
   .rintro rfl
    rcases he with z|z
    .exact nown c b hc z
    .rw[hc]at z;cases z;exact hb rfl
end
structure Un (fs ex:List Addr) (H H':Hp) (h h':Heap):Prop where
 keep:∀b o,h.get? b=some o->H b=none->b∉fs->b∉ex->h'.get? b=some o
 slot:∀b o,h.get? b=some o->H b=none->b∈fs->b∉ex->∃sl,h'.get? b=some {o with slots:=sl}
 free:∀b o,h.get? b=some o->H b=none->b∉ex->H' b=none
 there:∀b o,h.get? b=some o->b∉ex->∃o',h'.get? b=some o'
 tups:∀b xs,H b=some (.tup xs)->H' b=some (.tup xs)
 frzs:∀b o u,H b=some (.frz o u)->H' b=some (.frz o u)
 tbls:∀b ps,H b=some (.tbl ps)->∃more,H' b=some (.tbl (ps++more))
section
variable {fs fs' ex ex':List Addr}{H H1 H2:Hp}{h h1 h2 h':Heap}{a x e:Addr}{o:HO}
theorem Un.any (u:Un fs ex H H1 h h1) {b:Addr}{ob:Obj} (q:h.get? b=some ob) (n:H b=none) (hx:b∉ex):∃sl,h1.get? b=some {ob with slots:=sl}:=by
 by_cases hb:b∈fs
 .exact u.slot b ob q n hb hx
 .exact⟨ob.slots,u.keep b ob q n hb hx⟩
theorem Un.kept (k:∀b u,h.get? b=some u->h'.get? b=some u):Un fs ex H H h h' :=
 ⟨λb ob q _ _ _=>k b ob q,λb ob q _ _ _=>⟨ob.slots,k b ob q⟩,λ_ _ _ n _=>n,λb ob q _=>⟨ob,k b ob q⟩,λ_ _ q=>q,λ_ _ _ q=>q,λ_ ps q=>⟨#[],by rw[q];simp⟩⟩
theorem Un.refl:Un fs ex H H h h:=Un.kept λ_ _ q=>q
theorem Un.laid (k:∀b u,h.get? b=some u->h'.get? b=some u) (hp:h.objs.size<=a) (hn:H a=none):Un fs ex H (upd H a o) h h' where
 keep:=λb u q _ _ _=>k b u q
 slot:=λb u q _ _ _=>⟨u.slots,k b u q⟩
 free:=λb u q n _=>by rw[Zh (Yl (YD (Yj q) hp))];exact n
 there:=λb u q _=>⟨u,k b u q⟩
 tups:=λb xs q=>by rw[Zh (Zz q hn)];exact q
 frzs:=λb u xs q=>by rw[Zh (Zz q hn)];exact q
 tbls:=λb ps q=>⟨#[],by rw[Zh (Zz q hn),q];simp⟩
theorem Un.write (mu:Mut (H x)) (he:e=x\/H e=some (.own x)) (k:∀b u,b≠e->h.get? b=some u->h'.get? b=some u) (heo:∃u,h'.get? e=some u):Un fs ex H (upd H x o) h h':=by
 have hx:∀b,H b=none->b≠x:=λb n z=>by subst z;rw[n]at mu;exact mu
 have hb:∀b,H b=none->b≠e:=λb n z=>by
  subst z
  rcases he with r|r
  .exact hx b n r
  .rw[n]at r;cases r
 have hm:∀b u,H b=some u->¬ Mut (some u)->b≠x:=λb u q nm z=>by subst z;rw[q]at mu;exact nm mu
 refine⟨λb u q n _ _=>k b u (hb b n) q,λb u q n _ _=>⟨u.slots,k b u (hb b n) q⟩,λb u q n _=>by rw[Zh (hx b n)];exact n,λb u q _=>?_,
  λb xs q=>by rw[Zh (hm b _ q λz=>z)];exact q,λb u xs q=>by rw[Zh (hm b _ q λz=>z)];exact q,λb ps q=>⟨#[],by rw[Zh (hm b _ q λz=>z),q];simp⟩⟩
 by_cases hbe:b=e
 .subst hbe;exact heo
 .exact⟨u,k b u hbe q⟩
end
noncomputable def trk (h:Heap) (H:Hp):List Addr:=(List.range h.objs.size).filter λa=>(H a).isSome
noncomputable def Zh5 (h:Heap) (H:Hp):Heap:=PySem.W.hideAll h (trk h H)
theorem Zmp (h:Heap) (H:Hp):(Zh5 h H).objs.size=h.objs.size:=PySem.W.hideAll_size _ _
theorem ZnK {h:Heap}{H:Hp}{b:Addr}{o:Obj} (e:h.get? b=some o) (n:H b=none):(Zh5 h H).get? b=some o :=
 PySem.W.hideAll_get _ e λhm=>by
  have q:(H b).isSome=true:=(YO.mp hm).2
  rw[n]at q;simp at q
theorem Zq2 {h:Heap}{H:Hp}{b:Addr}{o:Obj} (e:(Zh5 h H).get? b=some o):h.get? b=some o/\H b=none:=by
 have e':h.get? b=some o:=PySem.W.of_hideAll (trk h H) e
 refine⟨e',?_⟩
 cases q:H b with
 |none=>rfl
 |some x =>
  have hm:b∈trk h H:=YO.mpr ⟨Yq.mpr (Yj e'),by simp[q]⟩
  have z:(Zh5 h H).get? b=none:=PySem.W.hideAll_none (trk h H) hm
  rw[z]at e;cases e
noncomputable def Zq3 (g h:Heap) (L:Addr):List (Addr×Obj):=(List.range h.objs.size).filterMap λa=>if a=L\/(g.get? a).isSome=true then none else (h.get? a).map λo=>(a,o)
noncomputable def rest (g h:Heap) (L d:Addr):List (Addr×Obj):=(Zq3 g h L).filter λp=>decide (p.1≠d)
structure Mod (K:PySem.W.Frag) (mg:Str->Option Value) (base:Heap):Prop where
 kin:K.In base
 glob:base.Ns mainGlobals mg
 blt:∃mb,base.Ns builtinsNs mb/\∀x:Str,x≠"__name__"->mb x=bootBuiltins x
 nolimit:base.NoLimit
structure Cx where
 prog:Program
 w:World
 K:PySem.W.Frag
 mg:Str->Option Value
 base:Heap
 A:Around
 N:List Str
 s₀:Shared
 H₀:Hp
 env:Env
 outer:List Env
 stack:List Env
 ex:List Addr
 fn:Str->Bool
 calm:Bool
 pn:List (Addr×Obj)
 xe:Value->Shared->Prop
noncomputable def frs (l:List Env):List Addr:=l.filterMap (·.frame)
noncomputable abbrev Cx.fs (X:Cx):List Addr:=frs X.outer
noncomputable def Vis (sc:Scope) (x:Str):Prop:=sc.names.lookup x=some .local\/sc.names.lookup x=some .cell\/sc.names.lookup x=some .free
noncomputable def Loc (sc:Scope) (x:Str):Prop:=sc.names.lookup x=some .local\/sc.names.lookup x=some .cell
noncomputable def Look (env:Env) (h:Heap) (m:Str->Option Value) (x:Str) (u:Value):Prop :=
 (env.kindOf x=some .local/\m x=some u)\/((env.kindOf x=some .cell\/env.kindOf x=some .free)/\∃c,env.cells.lookup x=some c/\h.IsCell c (some u))
structure Cx.Ok (X:Cx):Prop where
 mod:Mod X.K X.mg X.base
 kind:X.env.scope.kind=.function
 glob:X.env.globals=mainGlobals
 blt:X.env.builtins=builtinsNs
 above:X.s₀.heap.objs.size<=X.env.locals
 inj:∀x y c,X.env.cells.lookup x=some c->X.env.cells.lookup y=some c->x=y
 has:∀x,(X.env.kindOf x=some .cell\/X.env.kindOf x=some .free)->∃c,X.env.cells.lookup x=some c
 cab:∀x c,X.fn x=true->X.env.cells.lookup x=some c->X.s₀.heap.objs.size<=c
 hd:X.calm=true->X.A.handled=none
 frames:X.A.frames=some X.stack
 stk:X.stack=X.outer\/(X.stack=X.env::X.outer/\X.env.frame=some X.env.locals)
 exf:∀b∈X.ex,b≠X.env.locals/\∀x c,X.env.cells.lookup x=some c->c≠b
 bs:∀b o,X.base.get? b=some o->X.s₀.heap.get? b=some o/\X.H₀ b=none
 bsz:X.base.objs.size<=X.s₀.heap.objs.size
 noex:∀b o,X.base.get? b=some o->b∉X.ex
 exfs:∀b∈X.ex,b∉X.fs
 funs:X.s₀.heap.FunFrames X.base X.outer
 frf:∀b∈X.fs,X.H₀ b=none
structure Inv (X:Cx) (pins:List (Addr×Obj)) (σ:List (Option V)) (H:Hp) (s:Shared):Prop where
 ok:X.Ok
 os:s.os=X.s₀.os
 bare:AllBare s.gens
 base:Un X.fs X.ex X.H₀ H X.s₀.heap s.heap
 loc:∃m,s.heap.Ns X.env.locals m/\∀(i:Nat) (x:Str) (v:V),X.N[i]?=some x->σ[i]?=some (some v)->Vis X.env.scope x->∃u,RelV v u/\Look X.env s.heap m x u
 cell:∀x c,X.env.cells.lookup x=some c->∃v,s.heap.IsCell c v
 free:H X.env.locals=none
 freeC:∀x c,X.env.cells.lookup x=some c->H c=none
 pin:∀p∈X.pn++pins,s.heap.get? p.1=some p.2/\H p.1=none/\p.1≠X.env.locals/\p.1∉X.fs/\∀v,p.2.data≠.cell v
 hok:HOk X.prog X.w H s.heap
 len:σ.length=X.N.length
section
variable {X:Cx}{pins:List (Addr×Obj)}{σ:List (Option V)}{H H':Hp}{s:Shared}{h':Heap}
theorem Cx.Ok.nofr (ok:X.Ok) {b:Addr}{o:Obj} (e:X.base.get? b=some o):b∉X.fs:=λhb=>by
 have:=(ok.funs.mem hb).1
 rw[e]at this;cases this
theorem Inv.bs (I:Inv X pins σ H s):∀b o,X.base.get? b=some o->s.heap.get? b=some o/\H b=none:=λb o e =>
 ⟨I.base.keep b o (I.ok.bs b o e).1 (I.ok.bs b o e).2 (I.ok.nofr e) (I.ok.noex b o e),I.base.free b o (I.ok.bs b o e).1 (I.ok.bs b o e).2 (I.ok.noex b o e)⟩
theorem Inv.bk (I:Inv X pins σ H s):∀b o,X.base.get? b=some o->s.heap.get? b=some o:=λb o e=>(I.bs b o e).1
theorem Inv.mod (I:Inv X pins σ H s):Mod X.K X.mg X.base:=I.ok.mod
theorem Inv.kIn (I:Inv X pins σ H s):X.K.In s.heap:=I.ok.mod.kin.keeps I.bk
theorem Inv.nolimit (I:Inv X pins σ H s):s.heap.NoLimit:=I.ok.mod.nolimit.keeps I.bk
theorem Inv.lt (I:Inv X pins σ H s):X.env.locals<s.heap.objs.size:=let ⟨_,hn,_⟩:=I.loc;hn.lt
theorem Inv.sz (I:Inv X pins σ H s):X.s₀.heap.objs.size<=s.heap.objs.size:=Yn I.ok.above (Y3 I.lt)
theorem Inv.ZjT (I:Inv X pins σ H s) {a:Addr} (h:s.heap.objs.size<=a):a∉X.fs:=λhb=>by
 obtain⟨_,o,ho,_⟩:=I.ok.funs.mem hb
 exact absurd (YD (Yj ho) (Yn I.sz h)) (YB _)
theorem Inv.cne (I:Inv X pins σ H s):∀x c,X.env.cells.lookup x=some c->c≠X.env.locals:=λx c e z=>by
 obtain⟨v,o,ho,hd⟩:=I.cell x c e
 obtain⟨m,⟨o',es,ep,ho',hd',_⟩,_⟩:=I.loc
 rw[z,ho']at ho;cases ho;rw[hd']at hd;cases hd
theorem Inv.funs (I:Inv X pins σ H s):s.heap.FunFrames X.base X.outer:=by
 have all:∀(l:List Env),(∀b∈frs l,b∈X.fs)->X.s₀.heap.FunFrames X.base l->s.heap.FunFrames X.base l:=by
  intro l
  induction l with
  |nil=>intro _ _;trivial
  |cons env r ih =>
   intro hs hl
   obtain⟨hk,⟨L,o,hf,hn,ho,hd⟩,hr⟩:=hl
   have hL:L∈X.fs:=hs L (by unfold frs;rw[List.filterMap_cons,hf];exact Yy)
   obtain⟨sl,e⟩:=I.base.slot L o ho (I.ok.frf L hL) hL λz=>I.ok.exfs L z hL
   exact⟨hk,⟨L,_,hf,hn,e,hd⟩,ih (λb hb=>hs b (by unfold frs;rw[List.filterMap_cons,hf];exact Yz _ hb)) hr⟩
 exact all X.outer (λ_ hb=>hb) I.ok.funs
theorem Inv.stack (I:Inv X pins σ H s):s.heap.FunFrames X.base X.stack:=by
 rcases I.ok.stk with e|⟨e,hf⟩
 .rw[e];exact I.funs
 .rw[e]
  obtain⟨m,hn,_⟩:=I.loc
  refine .cons (by rw[I.ok.kind];decide) hf hn ?_ I.funs
  exact Heap.get?_none_of_le (Yn I.ok.bsz I.ok.above)
theorem Inv.ZfX (I:Inv X pins σ H s):∀b∈frs X.stack,b∈X.env.locals::X.fs:=λb hb=>by
 rcases I.ok.stk with e|⟨e,hf⟩
 .rw[e]at hb;exact Yz _ hb
 .rw[e]at hb
  unfold frs at hb
  rw[List.filterMap_cons,hf]at hb
  exact hb
theorem Inv.Zg2 (I:Inv X pins σ H s):∀b∈frs X.stack,H b=none:=λb hb=>by
 rcases Yi.mp (I.ZfX b hb)with e|hb
 .rw[e];exact I.free
 .obtain⟨_,o,ho,_⟩:=I.ok.funs.mem hb
  exact I.base.free b o ho (I.ok.frf b hb) λz=>I.ok.exfs b z hb
theorem Inv.step {g':Array GenState}{t':Nat}{d':Drawn}{ch:List Addr} (I:Inv X pins σ H s)
  (hch:∀b∈ch,(b∈X.ex\/X.s₀.heap.objs.size<=b)/\b≠X.env.locals/\(∀x c,X.env.cells.lookup x=some c->c≠b)/\∀p∈X.pn++pins,p.1≠b)
  (keep:∀b o,b≠X.env.locals->b∉X.fs->b∉ch->s.heap.get? b=some o->H b=none->h'.get? b=some o)
  (slot:∀b o,b≠X.env.locals->b∈X.fs->b∉ch->s.heap.get? b=some o->H b=none->∃sl,h'.get? b=some {o with slots:=sl}) (free:∀b o,b∉ch->s.heap.get? b=some o->H b=none->H' b=none)
  (there:∀b o,b∉ch->s.heap.get? b=some o->∃o',h'.get? b=some o')
  (tups:∀b xs,H b=some (.tup xs)->H' b=some (.tup xs)) (frzs:∀b o u,H b=some (.frz o u)->H' b=some (.frz o u)) (tbls:∀b ps,H b=some (.tbl ps)->∃more,H' b=some (.tbl (ps++more)))
  (ns:∀m,s.heap.Ns X.env.locals m->h'.Ns X.env.locals m) (hok:HOk X.prog X.w H' h') (hg:AllBare g') :
  Inv X pins σ H' {s with heap:=h',gens:=g',drawn:=d',toks:=t'}:=by
 have neL:∀b o,X.s₀.heap.get? b=some o->b≠X.env.locals:=λb o e=>Yl (YD (Yj e) I.ok.above)
 have neC:∀b o,X.s₀.heap.get? b=some o->b∉X.ex->b∉ch:=λb o e hx hb=>by
  rcases(hch b hb).1 with z|z
  .exact hx z
  .exact absurd (YD (Yj e) z) (YB _)
 have cellK:∀x c,X.env.cells.lookup x=some c->∀v,s.heap.IsCell c v->h'.IsCell c v:=λx c e v ⟨o,ho,hd⟩=>by
  have nch:c∉ch:=λz=>(hch c z).2.2.1 x c e rfl
  by_cases hc:c∈X.fs
  .obtain⟨sl,q⟩:=slot c o (I.cne x c e) hc nch ho (I.freeC x c e)
   exact⟨_,q,hd⟩
  .exact⟨o,keep c o (I.cne x c e) hc nch ho (I.freeC x c e),hd⟩
 refine⟨I.ok,I.os,hg,⟨λb o e n hb hx=>?_,λb o e n hb hx=>?_,λb o e n hx=>?_,λb o e hx=>?_,λb xs e=>tups b xs (I.base.tups b xs e),λb o xs e=>frzs b o xs (I.base.frzs b o xs e),λb ps e=>?_⟩,?_,λx c e=>?_,?_,λx c e=>?_,λp hp=>?_,hok,I.len⟩
 .exact keep b o (neL b o e) hb (neC b o e hx) (I.base.keep b o e n hb hx) (I.base.free b o e n hx)
 .obtain⟨sl,e1⟩:=I.base.slot b o e n hb hx
  obtain⟨sl',e2⟩:=slot b _ (neL b o e) hb (neC b o e hx) e1 (I.base.free b o e n hx)
  exact⟨sl',e2⟩
 .obtain⟨o',e1⟩:=I.base.there b o e hx
  exact free b o' (neC b o e hx) e1 (I.base.free b o e n hx)
 .obtain⟨o',e1⟩:=I.base.there b o e hx
  exact there b o' (neC b o e hx) e1
 .obtain⟨m1,e1⟩:=I.base.tbls b ps e
  obtain⟨m2,e2⟩:=tbls b _ e1
  exact⟨m1++m2,by rw[e2,Array.append_assoc]⟩
 .obtain⟨m,hn,hl⟩:=I.loc
  refine⟨m,ns m hn,λi x v e1 e2 e3=>?_⟩
  obtain⟨u,r,l⟩:=hl i x v e1 e2 e3
  refine⟨u,r,?_⟩
  rcases l with l|⟨k,c,e,z⟩
  .exact .inl l
  .exact .inr ⟨k,c,e,cellK x c e _ z⟩
 .obtain⟨v,z⟩:=I.cell x c e
  exact⟨v,cellK x c e v z⟩
 .obtain⟨m,⟨o,_,_,ho,_⟩,_⟩:=I.loc
  exact free _ o (λz=>(hch _ z).2.1 rfl) ho I.free
 .obtain⟨v,o,ho,hd⟩:=I.cell x c e
  exact free c o (λz=>(hch c z).2.2.1 x c e rfl) ho (I.freeC x c e)
 .obtain⟨e,n,ne,nf,d⟩:=I.pin p hp
  have nch:p.1∉ch:=λz=>(hch p.1 z).2.2.2 p hp rfl
  exact⟨keep p.1 p.2 ne nf nch e n,free p.1 p.2 nch e n,ne,nf,d⟩
theorem Inv.un {t':Nat} (I:Inv X pins σ H s) (u:Un X.fs [] H H' s.heap h') (hok:HOk X.prog X.w H' h'):Inv X pins σ H' {s with heap:=h',toks:=t'}:=by
 obtain⟨m,⟨o,es,ep,ho,r⟩,_⟩:=id I.loc
 obtain⟨sl,hL⟩:=u.any ho I.free (by simp)
 exact I.step (g':=s.gens) (d':=s.drawn) (ch:=[]) (λ_ z=>nomatch z) (λb o _ hb _ e n=>u.keep b o e n hb (by simp)) (λb o _ hb _ e n=>u.slot b o e n hb (by simp)) (λb o _ e n=>u.free b o e n (by simp)) (λb o _ e=>u.there b o e (by simp)) u.tups u.frzs u.tbls (λm' hm=>by
  obtain⟨o',es',ep',ho',r'⟩:=hm
  rw[ho]at ho';cases ho'
  exact⟨_,es',ep',hL,r'⟩) hok I.bare
theorem Inv.call {g':Array GenState}{t':Nat}{d':Drawn}{ch:List Addr} (I:Inv X pins σ H s) (u:Un (frs X.stack) ch H H' s.heap h') (hok:HOk X.prog X.w H' h') (hg:AllBare g')
  (hch:∀b∈ch,(b∈X.ex\/X.s₀.heap.objs.size<=b)/\b≠X.env.locals/\(∀x c,X.env.cells.lookup x=some c->c≠b)/\∀p∈X.pn++pins,p.1≠b) :
  Inv X pins σ H' {s with heap:=h',gens:=g',drawn:=d',toks:=t'}:=by
 obtain⟨m,⟨o,es,ep,ho,r⟩,_⟩:=id I.loc
 obtain⟨sl,hL⟩:=u.any ho I.free λz=>(hch _ z).2.1 rfl
 exact I.step (ch:=ch) hch (λb o hL hb hc e n=>u.keep b o e n (λz=>(Yi.mp (I.ZfX b z)).elim hL hb) hc) (λb o _ _ hc e n=>u.any e n hc) (λb o hc e n=>u.free b o e n hc) (λb o hc e=>u.there b o e hc) u.tups u.frzs u.tbls (λm' hm=>by
  obtain⟨o',es',ep',ho',r'⟩:=hm
  rw[ho]at ho';cases ho'
  exact⟨_,es',ep',hL,r'⟩) hok hg
theorem Inv.turned {t':Nat}{it:Addr} (I:Inv X pins σ H s) (k:∀b o,b≠it->s.heap.get? b=some o->h'.get? b=some o) (hn:H it=none) (hL:it≠X.env.locals)
  (h1:it∈X.ex\/X.s₀.heap.objs.size<=it) (h2:∀x c,X.env.cells.lookup x=some c->c≠it) (h3:∀p∈X.pn++pins,p.1≠it):Inv X pins σ H {s with heap:=h',toks:=t'}:=by
 have nit:∀b u,H b=some u->b≠it:=λb u e z=>by rw[z,hn]at e;cases e
 refine I.step (g':=s.gens) (d':=s.drawn) (ch:=[it]) (λb hb=>?_) (λb o _ _ hc e _=>k b o (λz=>hc (by simp[z])) e) (λb o _ _ hc e _=>⟨o.slots,k b o (λz=>hc (by simp[z])) e⟩) (λ_ _ _ _ n=>n)
  (λb o hc e=>⟨o,k b o (λz=>hc (by simp[z])) e⟩) (λ_ _ e=>e) (λ_ _ _ e=>e) (λb ps e=>⟨#[],by rw[e];simp⟩) (λm hm=>?_) (λb u e=>?_) I.bare
 .have e:b=it:=by simpa using hb
  subst e
  exact⟨h1,hL,h2,h3⟩
 .obtain⟨o,es,ep,ho,r⟩:=hm
  exact⟨o,es,ep,k _ o (Ne.symm hL) ho,r⟩
 .refine(I.hok b u e).ZfW (λc v hc q=>k c v ?_ q) (λ_ q=>q) (λ_ _ q=>q) λ_ _ _ q=>q
  rcases hc with z|z
  .rw[z];exact nit b u e
  .exact nit c _ z
theorem Inv.tok (I:Inv X pins σ H s) (t:Nat):Inv X pins σ H {s with toks:=t}:=I.un (h':=s.heap) (t':=t) Un.refl I.hok
theorem Inv.kept {t':Nat} (I:Inv X pins σ H s) (k:∀b u,s.heap.get? b=some u->h'.get? b=some u):Inv X pins σ H {s with heap:=h',toks:=t'}:=I.un (Un.kept k) (I.hok.kept k)
theorem Inv.laid {a:Addr}{o:HO}{t':Nat} (I:Inv X pins σ H s) (k:∀b u,s.heap.get? b=some u->h'.get? b=some u) (hp:s.heap.objs.size<=a) (new:ZO X.prog X.w (upd H a o) h' a o) :
  Inv X pins σ (upd H a o) {s with heap:=h',toks:=t'}:=I.un (Un.laid k hp (I.hok.fresh hp)) (I.hok.laid k hp new)
theorem Inv.write {x e:Addr}{o:HO}{t':Nat} (I:Inv X pins σ H s) (mu:Mut (H x)) (he:e=x\/H e=some (.own x)) (k:∀b u,b≠e->s.heap.get? b=some u->h'.get? b=some u) (heo:∃u,h'.get? e=some u)
  (new:ZO X.prog X.w (upd H x o) h' x o):Inv X pins σ (upd H x o) {s with heap:=h',toks:=t'}:=I.un (Un.write mu he k heo) (I.hok.write mu he k heo new)
theorem Inv.weak {σ':List (Option V)} (I:Inv X pins σ H s) (hl:σ'.length=σ.length) (w:∀(i:Nat) v,σ'[i]?=some (some v)->σ[i]?=some (some v)):Inv X pins σ' H s :=
 ⟨I.ok,I.os,I.bare,I.base,let ⟨m,hn,hl'⟩:=I.loc;⟨m,hn,λi x v e1 e2 e3=>hl' i x v e1 (w i v e2) e3⟩,I.cell,I.free,I.freeC,I.pin,I.hok,hl.trans I.len⟩
theorem Inv.ZH {pins':List (Addr×Obj)} (I:Inv X pins σ H s) (h:∀p∈pins',s.heap.get? p.1=some p.2/\H p.1=none/\p.1≠X.env.locals/\p.1∉X.fs/\∀v,p.2.data≠.cell v):Inv X pins' σ H s :=
 ⟨I.ok,I.os,I.bare,I.base,I.loc,I.cell,I.free,I.freeC,λp hp=>(Yw.mp hp).elim (λz=>I.pin p (YS _ z)) (h p),I.hok,I.len⟩
theorem Zhe {N:List Str} (hN:N.Nodup) {i j:Nat}{x:Str} (a:N[i]?=some x) (b:N[j]?=some x):i=j:=by
 obtain⟨h1,e1⟩:=Yr.mp a
 obtain⟨h2,e2⟩:=Yr.mp b
 exact(List.getElem_inj hN).mp (e1.trans e2.symm)
theorem Zmq {M:Model}{A:Around}{E:Value->Shared->Prop}{i:Nat}{x:Str}{v:V}{u:Value}{Q:Unit->Shared->Prop} (I:Inv X pins σ H s) (hN:X.N.Nodup) (hi:X.N[i]?=some x) (hx:Loc X.env.scope x) (r:RelV v u)
  (h:∀s',Inv X pins (σ.set i (some v)) H s'->(∃a,Heap.SameBut a s.heap s'.heap/\(a=X.env.locals\/X.env.cells.lookup x=some a))->Q () s') (hf:X.fn x=true\/X.env.scope.names.lookup x=some .local:=by and_intros):wpAny M A (storeName X.env x u) Q E s:=by
 obtain⟨m,hn,hl⟩:=id I.loc
 have hcls:(X.env.scope.kind==.class||(X.env.scope.kind==.module&&X.env.locals != X.env.globals))=false:=by rw[I.ok.kind];rfl
 have hiσ:i < σ.length:=by rw[I.len];exact(Yr.mp hi).1
 have cne:=I.cne
 have tracked:∀{a:Addr}{h':Heap},(∃o,s.heap.get? a=some o/\H a=none)->Heap.SameBut a s.heap h'->HOk X.prog X.w H h':=λ{a h'} ha hs b ob e=>by
  obtain⟨_,_,hfree⟩:=ha
  refine(I.hok b ob e).ZfW (λc w' hc q=>(hs.2 c ?_).trans q) (λ_ q=>q) (λ_ _ q=>q) λ_ _ _ q=>q
  rintro rfl
  rcases hc with rfl|hc
  .rw[hfree]at e;cases e
  .rw[hfree]at hc;cases hc
 rcases hx with hk|hk
 .refine wpAny_storeName_local hk hn (λh' hn' hs=>?_) hcls
  obtain⟨oL,_,_,hoL,_⟩:=id hn
  refine h _ ⟨I.ok,I.os,I.bare,⟨λb o e n hb hx=>?_,λb o e n hb hx=>?_,I.base.free,λb o e hx=>?_,I.base.tups,I.base.frzs,I.base.tbls⟩,⟨_,hn',λj y v' e1 e2 e3=>?_⟩,λy c e=>?_,I.free,I.freeC,λp hp=>?_,tracked ⟨oL,hoL,I.free⟩ hs,by simpa using I.len⟩ ⟨_,hs,.inl rfl⟩
  .exact(hs.2 b (Yl (YD (Yj e) I.ok.above))).trans (I.base.keep b o e n hb hx)
  .obtain⟨sl,e1⟩:=I.base.slot b o e n hb hx
   exact⟨sl,(hs.2 b (Yl (YD (Yj e) I.ok.above))).trans e1⟩
  .obtain⟨o',e1⟩:=I.base.there b o e hx
   exact⟨o',(hs.2 b (Yl (YD (Yj e) I.ok.above))).trans e1⟩
  .by_cases hj:j=i
   .subst hj
    rw[hi]at e1;cases e1
    rw[List.getElem?_set_self hiσ]at e2
    cases e2
    exact⟨u,r,.inl ⟨hk,by simp⟩⟩
   .rw[List.getElem?_set_ne (Ne.symm hj)]at e2
    obtain⟨u',r',q⟩:=hl j y v' e1 e2 e3
    refine⟨u',r',?_⟩
    rcases q with⟨k,e⟩|⟨k,c,e,z⟩
    .refine .inl ⟨k,?_⟩
     have:y≠x:=λe=>hj (Zhe hN e1 (e▸hi))
     simp[this,e]
    .exact .inr ⟨k,c,e,z.sameBut hs (cne y c e)⟩
  .obtain⟨w',z⟩:=I.cell y c e
   exact⟨w',z.sameBut hs (cne y c e)⟩
  .obtain⟨e,n,ne,nf,d⟩:=I.pin p hp
   exact⟨(hs.2 p.1 ne).trans e,n,ne,nf,d⟩
 .have hfn:X.fn x=true:=by
   rcases hf with z|z
   .exact z
   .rw[z]at hk;cases hk
  obtain⟨c,hc⟩:=I.ok.has x (.inl hk)
  obtain⟨w',z⟩:=I.cell x c hc
  refine wpAny_storeName_cell I.ok.kind hk hc z (λh' hc' hs=>?_)
  obtain⟨oc,hoc,hocd⟩:=id z
  refine h {s with heap:=h'} ⟨I.ok,I.os,I.bare,⟨λb o e n hb hx=>?_,λb o e n hb hx=>?_,I.base.free,λb o e hx=>?_,I.base.tups,I.base.frzs,I.base.tbls⟩,⟨m,hn.sameBut hs (Ne.symm (cne x c hc)),λj y v' e1 e2 e3=>?_⟩,λy c' e=>?_,I.free,I.freeC,λp hp=>?_,tracked ⟨oc,hoc,I.freeC x c hc⟩ hs,by simpa using I.len⟩ ⟨c,hs,.inr hc⟩
  .exact(hs.2 b (Yl (YD (Yj e) (I.ok.cab x c hfn hc)))).trans (I.base.keep b o e n hb hx)
  .obtain⟨sl,e1⟩:=I.base.slot b o e n hb hx
   exact⟨sl,(hs.2 b (Yl (YD (Yj e) (I.ok.cab x c hfn hc)))).trans e1⟩
  .obtain⟨o',e1⟩:=I.base.there b o e hx
   exact⟨o',(hs.2 b (Yl (YD (Yj e) (I.ok.cab x c hfn hc)))).trans e1⟩
  .by_cases hj:j=i
   .subst hj
    rw[hi]at e1;cases e1
    rw[List.getElem?_set_self hiσ]at e2
    cases e2
    exact⟨u,r,.inr ⟨.inl hk,c,hc,hc'⟩⟩
   .rw[List.getElem?_set_ne (Ne.symm hj)]at e2
    obtain⟨u',r',q⟩:=hl j y v' e1 e2 e3
    refine⟨u',r',?_⟩
    rcases q with q|⟨k,c',e,z'⟩
    .exact .inl q
    .refine .inr ⟨k,c',e,z'.sameBut hs ?_⟩
     rintro rfl
     exact hj (Zhe hN e1 (I.ok.inj _ _ _ e hc▸hi))
  .by_cases hcc:c'=c
   .subst hcc;exact⟨_,hc'⟩
   .obtain⟨w2,z2⟩:=I.cell y c' e
    exact⟨w2,z2.sameBut hs hcc⟩
  .obtain⟨e,n,ne,nf,d⟩:=I.pin p hp
   refine⟨(hs.2 p.1 ?_).trans e,n,ne,nf,d⟩
   intro q
   rw[q,hoc]at e
   have q':oc=p.2:=YF e
   exact d w' (by rw[<-q'];exact hocd)
theorem ZdL {M:Model}{A:Around}{E:Value->Shared->Prop}{i:Nat}{x:Str}{v:V}{u:Value}{Q:Unit->Shared->Prop} (I:Inv X pins σ H s) (hN:X.N.Nodup) (hi:X.N[i]?=some x) (hx:Loc X.env.scope x) (r:RelV v u)
  (h:∀s',Inv X pins (σ.set i (some v)) H s'->Q () s') (hf:X.fn x=true\/X.env.scope.names.lookup x=some .local:=by and_intros):wpAny M A (storeName X.env x u) Q E s :=
 Zmq I hN hi hx r (λs' I' _=>h s' I') hf
theorem Inv.ZnL {s':Shared}{ch:List Addr} (I:Inv X pins σ H s) (ho:s'.os=s.os) (u:Un (frs X.stack) ch H H' s.heap s'.heap) (hok:HOk X.prog X.w H' s'.heap) (hg:AllBare s'.gens)
  (hch:∀b∈ch,(b∈X.ex\/X.s₀.heap.objs.size<=b)/\b≠X.env.locals/\(∀x c,X.env.cells.lookup x=some c->c≠b)/\∀p∈X.pn++pins,p.1≠b):Inv X pins σ H' s':=by
 obtain⟨h',g',d',t',o'⟩:=s'
 have e:o'=s.os:=ho
 subst e
 exact I.call (g':=g') (t':=t') (d':=d') u hok hg hch
end
noncomputable abbrev XK:=Value->Option Addr->Hp->Prop
noncomputable abbrev St:=List (Option V)
noncomputable abbrev VK:=V->Hp->Prop
noncomputable abbrev TE:=St->Hp->VK->Prop
noncomputable abbrev TT:=St->Hp->(Bool->Hp->Prop)->Prop
noncomputable abbrev TA:=St->Hp->(List V->Hp->Prop)->Prop
structure Ends where
 nx:St->Hp->Prop
 rt:VK
 bk:St->Hp->Prop:=λ_ _=>False
 ct:St->Hp->Prop:=λ_ _=>False
noncomputable abbrev TS:=Ends->St->Hp->Prop
noncomputable def EP (X:Cx) (pins:List (Addr×Obj)) (σ:St) (Q:VK) (u:Value) (s':Shared):Prop:=∃v H',Inv X pins σ H' s'/\RelV v u/\Q v H'
noncomputable def TP (X:Cx) (pins:List (Addr×Obj)) (σ:St) (Q:Bool->Hp->Prop) (b:Bool) (s':Shared):Prop:=∃H',Inv X pins σ H' s'/\Q b H'
noncomputable def AP (X:Cx) (pins:List (Addr×Obj)) (σ:St) (Q:List V->Hp->Prop) (us:List Value) (s':Shared):Prop:=∃vs H',Inv X pins σ H' s'/\Vals vs us/\Q vs H'
noncomputable def SP (X:Cx) (pins:List (Addr×Obj)) (D:Ends) (f:Flow) (s':Shared):Prop :=
 match f with
 |.next=>∃σ' H',Inv X pins σ' H' s'/\D.nx σ' H'
 |.brk=>∃σ' H',Inv X pins σ' H' s'/\D.bk σ' H'
 |.cont=>∃σ' H',Inv X pins σ' H' s'/\D.ct σ' H'
 |.ret u=>∃v σ' H',Inv X pins σ' H' s'/\RelV v u/\D.rt v H'
noncomputable def PE (X:Cx) (e:Expr) (t:TE):Prop :=
 ∀(pins:List (Addr×Obj)) (s:Shared) (σ:St) (H:Hp) (Q:VK),Inv X pins σ H s->t σ H Q->wpAny (model X.prog X.w) X.A (eval e X.env) (EP X pins σ Q) X.xe s
noncomputable def PT (X:Cx) (e:Expr) (t:TT):Prop :=
 ∀(pins:List (Addr×Obj)) (s:Shared) (σ:St) (H:Hp) (Q:Bool->Hp->Prop),Inv X pins σ H s->t σ H Q->wpAny (model X.prog X.w) X.A (isTrue e X.env (eval e X.env)) (TP X pins σ Q) X.xe s
noncomputable def PW (X:Cx) (e:Expr) (t:TT):Prop :=
 ∀(whole:Sem Value) (pins:List (Addr×Obj)) (s:Shared) (σ:St) (H:Hp) (Q:Bool->Hp->Prop),Inv X pins σ H s->t σ H Q->wpAny (model X.prog X.w) X.A (isTrue e X.env whole) (TP X pins σ Q) X.xe s
theorem PW.pt {X:Cx}{e:Expr}{t:TT} (h:PW X e t):PT X e t:=h _
noncomputable def PA (X:Cx) (es:List Expr) (t:TA):Prop :=
 ∀(pos:Pos) (pins:List (Addr×Obj)) (s:Shared) (σ:St) (H:Hp) (Q:List V->Hp->Prop),Inv X pins σ H s->t σ H Q->wpAny (model X.prog X.w) X.A (spliced (backTo pos (starEach es X.env))) (AP X pins σ Q) X.xe s
noncomputable def PS (X:Cx) (st:Stmt) (t:TS):Prop :=
 ∀(pins:List (Addr×Obj)) (s:Shared) (σ:St) (H:Hp) (D:Ends),Inv X pins σ H s->t D σ H->wpAny (model X.prog X.w) X.A (exec st X.env) (SP X pins D) X.xe s
noncomputable def PSs (X:Cx) (st:List Stmt) (t:TS):Prop :=
 ∀(pins:List (Addr×Obj)) (s:Shared) (σ:St) (H:Hp) (D:Ends),Inv X pins σ H s->t D σ H->wpAny (model X.prog X.w) X.A (execs st X.env) (SP X pins D) X.xe s
theorem thn {α:Type}{t:Sem α}{Q Q':α->Shared->Prop}{M:Model}{A:Around}{E:Value->Shared->Prop}{s:Shared} (h:wpAny M A t Q E s) (hQ:∀a s,Q a s->Q' a s):wpAny M A t Q' E s:=YM h hQ λ_ _ x=>x
section
variable {X:Cx}
noncomputable def tVar (i:Nat):TE:=fun σ H Q=>∃v,σ[i]?=some (some v)/\Q v H
noncomputable def tC (v:V):TE:=λ_ H Q=>Q v H
theorem pe_var {i:Nat}{x:Str}{pos:Pos} (hN:X.N[i]?=some x) (hv:Vis X.env.scope x) (hd:(x==("__debug__":Str))=false:=by decide) (hcd:(x==("__classdict__":Str))=false:=by decide):PE X (.Name x pos) (tVar i):=by
 intro pins s σ H Q I h
 obtain⟨v,e,h⟩:=h
 obtain⟨m,hn,hl⟩:=I.loc
 obtain⟨u,r,l⟩:=hl i x v hN e hv
 have fin:EP X pins σ Q u s:=⟨v,H,I,r,h⟩
 rcases l with⟨hk,hm⟩|⟨hk,c,hc,hcell⟩
 .exact wpAny_Name (wpAny_loadName_local I.ok.kind hk hn hm fin) hd
 .rcases hk with hk|hk
  .exact wpAny_Name (wpAny_loadName_cell I.ok.kind hk hc hcell fin) hd
  .exact wpAny_Name (wpAny_loadName_free I.ok.kind hk hc hcell fin hcd) hd
theorem Zf {i j pos}:PE X (.Constant (.int i) j pos) (tC (.int i)):=λ_ _ _ H _ I h=>wpAny_Constant_int ⟨.int i,H,I.tok _,⟨_,rfl⟩,h⟩
theorem ZeM {b j pos}:PE X (.Constant (.bool b) j pos) (tC (.bl b)):=λ_ _ _ H _ I h=>Constant_bool ⟨.bl b,H,I,rfl,h⟩
theorem ZP {j pos}:PE X (.Constant .none j pos) (tC .non):=λ_ _ _ H _ I h=>Constant_none ⟨.non,H,I,rfl,h⟩
noncomputable def Gl (X:Cx) (x:Str):Prop:=X.env.kindOf x=some .globalImplicit
theorem Zff {E:Value->Shared->Prop}{pins:List (Addr×Obj)}{s:Shared}{σ:St}{H:Hp}{x:Str}{u:Value}{pos:Pos}{Q:Value->Shared->Prop} (I:Inv X pins σ H s) (hg:Gl X x) (hm:X.mg x=some u) (h:Q u s)
  (hd:(x==("__debug__":Str))=false:=by decide):wpAny (model X.prog X.w) X.A (eval (.Name x pos) X.env) Q E s :=
 Calls.Name_function_global I.ok.kind hg (Calls.loadGlobal_global (by rw[I.ok.glob];exact I.mod.glob.keeps I.bk) hm h) hd
theorem ZaF {E:Value->Shared->Prop}{pins:List (Addr×Obj)}{s:Shared}{σ:St}{H:Hp}{x:Str}{u:Value}{pos:Pos}{Q:Value->Shared->Prop} (I:Inv X pins σ H s) (hg:Gl X x) (hm:X.mg x=none) (hv:bootBuiltins x=some u) (h:Q u s)
  (hn:x≠"__name__":=by decide) (hd:(x==("__debug__":Str))=false:=by decide):wpAny (model X.prog X.w) X.A (eval (.Name x pos) X.env) Q E s:=by
 obtain⟨mb,h1,h2⟩:=I.mod.blt
 exact Calls.Name_function_global I.ok.kind hg (Calls.loadGlobal_builtin (by rw[I.ok.glob];exact I.mod.glob.keeps I.bk) hm (by rw[I.ok.blt];exact h1.keeps I.bk) ((h2 x hn).trans hv) h) hd
theorem Z7 {x:Str}{v:V}{u:Value}{pos:Pos} (hg:Gl X x) (hm:X.mg x=some u) (r:RelV v u) (hd:(x==("__debug__":Str))=false:=by decide):PE X (.Name x pos) (tC v) :=
 λ_ _ _ H _ I h=>Zff I hg hm ⟨v,H,I,r,h⟩ hd
theorem Zg3 {x:Str}{v:V}{u:Value}{pos:Pos} (hg:Gl X x) (hm:X.mg x=none) (hv:bootBuiltins x=some u) (r:RelV v u) (hn:x≠"__name__":=by decide) (hd:(x==("__debug__":Str))=false:=by decide):PE X (.Name x pos) (tC v) :=
 λ_ _ _ H _ I h=>ZaF I hg hm hv ⟨v,H,I,r,h⟩ hn hd
variable {a b:Expr}{ta tb:TE}{pos:Pos}
noncomputable def tB (t:TE):TT:=fun σ H Q=>t σ H λx H1=>∃c,x=.bl c/\Q c H1
theorem ZeW {e:Expr}{t:TE} (h:PE X e t) (he:∀whole,isTrue e X.env whole=(do let v <-whole;standAt e.pos;holding [v] (truthy v)):=by ac_nf):PT X e (tB t):=by
 intro pins s σ H Q I hw
 refine isTrue_plain (thn (h pins s σ H _ I hw) λv s1 ⟨x,H1,I1,r1,q1⟩=>?_) (he _)
 obtain⟨d,rfl,q⟩:=q1
 cases r1
 exact wpAny_truthy_bool ⟨H1,I1,q⟩
variable {tA tB':TT}{rest:List Expr}
noncomputable def tAnd (t u:TT):TT:=fun σ H Q=>t σ H λc H1=>if c=true then u σ H1 Q else Q false H1
noncomputable def tOr (t u:TT):TT:=fun σ H Q=>t σ H λc H1=>if c=true then Q true H1 else u σ H1 Q
noncomputable def tNot (t:TT):TT:=fun σ H Q=>t σ H λc H1=>Q (!c) H1
theorem Zbq (ha:PT X a tA):PW X (.BoolOp .And [a] pos) tA:=by
 intro wh pins s σ H Q I h
 refine isTrue_and (thn (ha pins s σ H Q I h) λc s1 e=>?_)
 cases c with
 |true=>exact isTrue_and_nil e
 |false=>exact e
theorem ZdM (ha:PT X a tA):PW X (.BoolOp .Or [a] pos) tA:=by
 intro wh pins s σ H Q I h
 refine isTrue_or (thn (ha pins s σ H Q I h) λc s1 e=>?_)
 cases c with
 |false=>exact isTrue_or_nil e
 |true=>exact e
theorem ZbK (ha:PT X a tA) (hb:PW X (.BoolOp .And (b::rest) pos) tB'):PW X (.BoolOp .And (a::b::rest) pos) (tAnd tA tB'):=by
 intro wh pins s σ H Q I h
 refine isTrue_and (thn (ha pins s σ H _ I h) λc s1 ⟨H1,I1,q1⟩=>?_)
 cases c with
 |true=>exact hb wh pins s1 σ H1 Q I1 q1
 |false=>exact⟨H1,I1,q1⟩
theorem ZdN (ha:PT X a tA) (hb:PW X (.BoolOp .Or (b::rest) pos) tB'):PW X (.BoolOp .Or (a::b::rest) pos) (tOr tA tB'):=by
 intro wh pins s σ H Q I h
 refine isTrue_or (thn (ha pins s σ H _ I h) λc s1 ⟨H1,I1,q1⟩=>?_)
 cases c with
 |true=>exact⟨H1,I1,q1⟩
 |false=>exact hb wh pins s1 σ H1 Q I1 q1
theorem ZfY (ha:PT X a tA):PT X (.UnaryOp .Not a pos) (tNot tA):=by
 intro pins s σ H Q I h
 exact isTrue_not (ha pins s σ H (λc H1=>Q (!c) H1) I h)
noncomputable def tAndV (ta tb:TE):TE:=fun σ H Q=>ta σ H λx H1=>∃c,x=.bl c/\if c=true then tb σ H1 Q else Q (.bl false) H1
noncomputable def tNotV (ta:TE):TE:=fun σ H Q=>ta σ H λx H1=>∃c,x=.bl c/\Q (.bl (!c)) H1
theorem ZkL {op}{t:TE} (h:PE X a t):PE X (.BoolOp op [a] pos) t:=λpins s σ H Q I hw=>BoolOp_one (h pins s σ H Q I hw)
theorem ZkM (ha:PE X a ta) (hb:PE X (.BoolOp .And (b::rest) pos) tb):PE X (.BoolOp .And (a::b::rest) pos) (tAndV ta tb):=by
 intro pins s σ H Q I h
 refine BoolOp_and (thn (ha pins s σ H _ I h) λv s1 ⟨x,H1,I1,r1,q1⟩=>?_)
 obtain⟨c,rfl,q1⟩:=q1
 cases r1
 refine wpAny_truthy_bool ?_
 cases c with
 |true=>exact hb pins s1 σ H1 Q I1 q1
 |false=>exact⟨.bl false,H1,I1,rfl,q1⟩
theorem pe_not (ha:PE X a ta):PE X (.UnaryOp .Not a pos) (tNotV ta):=by
 intro pins s σ H Q I h
 refine UnaryOp_ (thn (ha pins s σ H _ I h) λv s1 ⟨x,H1,I1,r1,q1⟩=>?_)
 obtain⟨c,rfl,q1⟩:=q1
 cases r1
 exact not_of (wpAny_truthy_bool ⟨.bl (!c),H1,I1,rfl,q1⟩)
noncomputable def tIf (t:TT) (ta tb:TE):TE:=fun σ H Q=>t σ H λc H1=>if c=true then ta σ H1 Q else tb σ H1 Q
theorem ZnM {c:Expr} (hc:PT X c tA) (ha:PE X a ta) (hb:PE X b tb):PE X (.IfExp c a b pos) (tIf tA ta tb):=by
 intro pins s σ H Q I h
 refine wpAny_IfExp (thn (hc pins s σ H _ I h) λd s1 ⟨H1,I1,q1⟩=>?_)
 cases d with
 |true=>exact ha pins s1 σ H1 Q I1 q1
 |false=>exact hb pins s1 σ H1 Q I1 q1
end
noncomputable def SqL (K:PySem.W.Frag) (H:Hp) (a:Addr) (xs:List V):Prop :=
 Rd H a (.lst xs) \/
  ∃(o:Obj) (its:Array Value) (n:Nat),K.lookup a=some o/\o.cls=.type "list"/\o.dict=none/\o.data=.seq its n/\its.size<=sizeLine/\Vals xs its.toList
noncomputable def SqT (K:PySem.W.Frag) (H:Hp) (a:Addr) (xs:List V):Prop :=
 Rd H a (.tup xs) \/
  ∃(o:Obj) (its:Array Value) (n:Nat),K.lookup a=some o/\o.cls=.type "tuple"/\o.data=.seq its n/\its.size<=sizeLine/\Vals xs its.toList
noncomputable def absV:Value->Option V
 |.none=>some .non
 |.bool b=>some (.bl b)
 |.int i _=>some (.int i)
 |.str x _=>some (.str x)
 |.bytes b _=>some (.byt b)
 |.float b _=>some (.flt b)
 |.ref a=>some (.ref a)
 |.type n=>some (.ty n)
 |_=>none
theorem RelV.abs {x:V}{u:Value} (r:RelV x u):absV u=some x:=by
 cases x with
 |non=>cases r;rfl
 |bl _=>cases r;rfl
 |int _=>obtain⟨t,rfl⟩:=r;rfl
 |str _=>obtain⟨t,rfl⟩:=r;rfl
 |byt _=>obtain⟨t,rfl⟩:=r;rfl
 |flt _=>obtain⟨t,rfl⟩:=r;rfl
 |ref _=>cases r;rfl
 |ty _=>cases r;rfl
theorem RelV.inj {x y:V}{u:Value} (r:RelV x u) (q:RelV y u):x=y:=YF (r.abs.symm.trans q.abs)
theorem Vals.inj:∀{xs ys:List V}{us:List Value},Vals xs us->Vals ys us->xs=ys
 |_,_,_,.nil,.nil=>rfl
 |_,_,_,.cons r t,.cons r' t'=>by rw[r.inj r',Vals.inj t t']
section
variable {X:Cx}{pins:List (Addr×Obj)}{σ:St}{H:Hp}{s:Shared}{a:Addr}{xs ys:List V}
theorem SqL.of {K:PySem.W.Frag} (h:H a=some (.lst xs)):SqL K H a xs:=.inl (.inl h)
theorem SqT.of {K:PySem.W.Frag} (h:H a=some (.tup xs)):SqT K H a xs:=.inl (.inl h)
theorem Inv.list (I:Inv X pins σ H s) (h:SqL X.K H a xs):∃its:List Value,Vals xs its/\PlainL s.heap a its.toArray/\xs.length<=sizeLine:=by
 rcases h with h|⟨o,its,n,hk,hc,hd,hs,hz,r⟩
 .obtain⟨z,its,n,r,e⟩:=h.ok I.hok
  exact⟨its,r,⟨_,n,e,rfl,rfl,rfl⟩,z⟩
 .refine⟨its.toList,r,⟨o,n,I.kIn a o hk,hc,hd,by simpa using hs⟩,?_⟩
  have e:=r.length
  simp only[Ys]at e
  omega
theorem Inv.tuple (I:Inv X pins σ H s) (h:SqT X.K H a xs):∃its:List Value,Vals xs its/\IsTup s.heap a its.toArray/\xs.length<=sizeLine:=by
 rcases h with h|⟨o,its,n,hk,hc,hs,hz,r⟩
 .obtain⟨z,its,r,p⟩:=h.ok I.hok
  exact⟨its,r,p,z⟩
 .refine⟨its.toList,r,⟨o,I.kIn a o hk,hc,n,by simpa using hs⟩,?_⟩
  have e:=r.length
  simp only[Ys]at e
  omega
theorem Inv.ZdO (I:Inv X pins σ H s) (h:SqL X.K H a xs) (h':SqL X.K H a ys):xs=ys:=by
 obtain⟨its,r,⟨o,n,e,_,_,d⟩,_⟩:=I.list h
 obtain⟨its',r',⟨o',n',e',_,_,d'⟩,_⟩:=I.list h'
 rw[e]at e';cases e'
 rw[d]at d'
 injection d' with d1 _
 have:its=its':=by simpa using congrArg Array.toList d1
 subst this
 exact r.inj r'
theorem Inv.ZfZ (I:Inv X pins σ H s) (h:SqT X.K H a xs) (h':SqT X.K H a ys):xs=ys:=by
 obtain⟨its,r,⟨o,e,_,n,d⟩,_⟩:=I.tuple h
 obtain⟨its',r',⟨o',e',_,n',d'⟩,_⟩:=I.tuple h'
 rw[e]at e';cases e'
 rw[d]at d'
 injection d' with d1 _
 have:its=its':=by simpa using congrArg Array.toList d1
 subst this
 exact r.inj r'
end
noncomputable abbrev Cx.Zh6 (X:Cx) (E:Value->Shared->Prop):Cx:={X with xe:=E}
noncomputable abbrev Cx.nox (X:Cx):Cx:=X.Zh6 λ_ _=>False
theorem Cx.Ok.Zh6 {X:Cx} (ok:X.Ok) (E:Value->Shared->Prop):(X.Zh6 E).Ok :=
 ⟨ok.mod,ok.kind,ok.glob,ok.blt,ok.above,ok.inj,ok.has,ok.cab,ok.hd,ok.frames,ok.stk,ok.exf,ok.bs,ok.bsz,ok.noex,ok.exfs,ok.funs,ok.frf⟩
theorem Cx.Ok.ZdP {X:Cx}{E:Value->Shared->Prop} (ok:(X.Zh6 E).Ok):X.Ok :=
 ⟨ok.mod,ok.kind,ok.glob,ok.blt,ok.above,ok.inj,ok.has,ok.cab,ok.hd,ok.frames,ok.stk,ok.exf,ok.bs,ok.bsz,ok.noex,ok.exfs,ok.funs,ok.frf⟩
section
variable {X:Cx}{pins:List (Addr×Obj)}{σ:St}{H:Hp}{s:Shared}{E:Value->Shared->Prop}
theorem Inv.Zh6 (I:Inv X pins σ H s) (E:Value->Shared->Prop):Inv (X.Zh6 E) pins σ H s:=⟨I.ok.Zh6 E,I.os,I.bare,I.base,I.loc,I.cell,I.free,I.freeC,I.pin,I.hok,I.len⟩
theorem Inv.ZdP (I:Inv (X.Zh6 E) pins σ H s):Inv X pins σ H s:=⟨I.ok.ZdP,I.os,I.bare,I.base,I.loc,I.cell,I.free,I.freeC,I.pin,I.hok,I.len⟩
theorem SP.ZdP {D:Ends}{f:Flow}{s':Shared} (h:SP (X.Zh6 E) pins D f s'):SP X pins D f s':=by
 cases f with
 |next=>obtain⟨σ',H',I,q⟩:=h;exact⟨σ',H',I.ZdP,q⟩
 |brk=>obtain⟨σ',H',I,q⟩:=h;exact⟨σ',H',I.ZdP,q⟩
 |cont=>obtain⟨σ',H',I,q⟩:=h;exact⟨σ',H',I.ZdP,q⟩
 |ret u=>obtain⟨v,σ',H',I,r,q⟩:=h;exact⟨v,σ',H',I.ZdP,r,q⟩
end
section
variable {X:Cx}{st:Stmt}{rest:List Stmt}{t u:TS}{e:Expr}{te:TE}{pos:Pos}
noncomputable def tNext:TS:=λD σ H=>D.nx σ H
noncomputable def tSeq (t u:TS):TS:=λD σ H=>t {D with nx:=u D} σ H
theorem ZA:PSs X [] tNext:=λ_ _ σ H _ I h=>wpAny_execs_nil ⟨σ,H,I,h⟩
theorem Ze (h1:PS X st t) (h2:PSs X rest u):PSs X (st::rest) (tSeq t u):=by
 intro pins s σ H D I h
 refine wpAny_execs_cons (thn (h1 pins s σ H {D with nx:=u D} I h) λf s1 q=>?_)
 cases f with
 |next =>
  obtain⟨σ',H',I',q⟩:=q
  exact h2 pins s1 σ' H' D I' q
 |ret v=>exact q
 |brk=>exact q
 |cont=>exact q
theorem Zg (h1:PS X st t):PSs X [st] t:=by
 intro pins s σ H D I h
 refine wpAny_execs_cons (thn (h1 pins s σ H D I h) λf s1 q=>?_)
 cases f with
 |next=>exact wpAny_execs_nil q
 |ret v=>exact q
 |brk=>exact q
 |cont=>exact q
theorem Inv.quiet {pins:List (Addr×Obj)}{σ:St}{H:Hp}{s:Shared} (I:Inv X pins σ H s):interactive X.env=false:=by simp[interactive,I.ok.kind]
noncomputable def tDrop (te:TE):TS:=λD σ H=>te σ H λ_ H1=>D.nx σ H1
theorem Z8 (he:PE X e te) (hs:swapsWith e none pos.line X.env=pure false:=by rfl):PS X (.Expr e pos) (tDrop te):=by
 intro pins s σ H D I h
 exact wpAny_Expr_any (thn (he pins s σ H _ I h) λv s1 ⟨x,H1,I1,r1,q1⟩=>⟨σ,H1,I1,q1⟩) I.quiet hs
noncomputable def tRet (te:TE):TS:=λD σ H=>te σ H D.rt
theorem Zu (he:PE X e te):PS X (.Return (some e) pos) (tRet te):=by
 intro pins s σ H D I h
 exact wpAny_Return_some (thn (he pins s σ H _ I h) λv s1 ⟨x,H1,I1,r1,q1⟩=>⟨x,σ,H1,I1,r1,q1⟩)
noncomputable def tIfS (c:TT) (t u:TS):TS:=λD σ H=>c σ H λb H1=>if b=true then t D σ H1 else u D σ H1
theorem ZN {c:Expr}{a b:List Stmt}{tc:TT} (hc:PT X c tc) (ha:PSs X a t) (hb:PSs X b u):PS X (.If c a b pos) (tIfS tc t u):=by
 intro pins s σ H D I h
 refine wpAny_If (thn (hc pins s σ H _ I h) λd s1 ⟨H1,I1,q1⟩=>?_)
 cases d with
 |true=>exact ha pins s1 σ H1 D I1 q1
 |false=>exact hb pins s1 σ H1 D I1 q1
end
noncomputable abbrev TG:=V->St->Hp->(St->Hp->Prop)->Prop
noncomputable abbrev TGs:=List V->St->Hp->(St->Hp->Prop)->Prop
noncomputable def PG (X:Cx) (target:Expr) (t:TG):Prop :=
 ∀(pins:List (Addr×Obj)) (s:Shared) (σ:St) (H:Hp) (v:V) (u:Value) (Q:St->Hp->Prop),Inv X pins σ H s->RelV v u->t v σ H Q ->
  wpAny (model X.prog X.w) X.A (assign target X.env u) (λ_ s'=>∃σ' H',Inv X pins σ' H' s'/\Q σ' H') X.xe s
noncomputable def PGs (X:Cx) (ts:List Expr) (t:TGs):Prop :=
 ∀(pins:List (Addr×Obj)) (s:Shared) (σ:St) (H:Hp) (vs:List V) (us:List Value) (Q:St->Hp->Prop),Inv X pins σ H s->Vals vs us->t vs σ H Q ->
  wpAny (model X.prog X.w) X.A (assignInOrder ((assignEach ts X.env).map (·.2)) us) (λ_ s'=>∃σ' H',Inv X pins σ' H' s'/\Q σ' H') X.xe s
noncomputable abbrev TSet:=V->V->V->Hp->(Hp->Prop)->Prop
noncomputable def PSet (X:Cx) (t:TSet):Prop :=
 ∀(pins:List (Addr×Obj)) (s:Shared) (σ:St) (H:Hp) (o i v:V) (ov iv u:Value) (Q:Hp->Prop),Inv X pins σ H s->RelV o ov->RelV i iv->RelV v u->t o i v H Q ->
  wpAny (model X.prog X.w) X.A (setItem ov iv u) (λ_ s'=>∃H',Inv X pins σ H' s'/\Q H') X.xe s
noncomputable abbrev TIp:=V->V->Hp->VK->Prop
noncomputable def PIp (X:Cx) (op:Operator) (t:TIp):Prop :=
 ∀(pins:List (Addr×Obj)) (s:Shared) (σ:St) (H:Hp) (x y:V) (v u:Value) (Q:VK),Inv X pins σ H s->RelV x v->RelV y u->t x y H Q ->
  wpAny (model X.prog X.w) X.A (inplaceOp op v u) (EP X pins σ Q) X.xe s
section
variable {X:Cx}{pos:Pos}
noncomputable def gName (i:Nat):TG:=λv σ H Q=>Q (σ.set i (some v)) H
theorem Zn {i:Nat}{x:Str} (hN:X.N.Nodup) (hi:X.N[i]?=some x) (hx:Loc X.env.scope x) (hf:X.fn x=true\/X.env.scope.names.lookup x=some .local:=by and_intros):PG X (.Name x pos) (gName i):=by
 intro pins s σ H v u Q I r h
 exact wpAny_assign_Name (ZdL I hN hi hx r (λs' I'=>⟨_,H,I',h⟩) hf)
noncomputable def gNil:TGs:=λvs σ H Q=>vs=[]/\Q σ H
noncomputable def gCons (t:TG) (u:TGs):TGs:=λvs σ H Q=>∃v r,vs=v::r/\t v σ H fun σ' H'=>u r σ' H' Q
theorem ZcL:PGs X [] gNil:=by
 intro pins s σ H vs us Q I r h
 obtain⟨e,h⟩:=h
 subst e
 cases r
 exact assignInOrder_nil ⟨σ,H,I,h⟩
theorem ZV {e:Expr}{es:List Expr}{t:TG}{u:TGs} (h1:PG X e t) (h2:PGs X es u)
  (hs:(assignEach (e::es) X.env).map (·.2)=assign e X.env::(assignEach es X.env).map (·.2):=by rfl):PGs X (e::es) (gCons t u):=by
 intro pins s σ H vs us Q I r h
 obtain⟨v,vr,e1,h⟩:=h
 subst e1
 cases r with
 |cons r rr =>
  rw[hs]
  refine assignInOrder_cons (thn (h1 pins s σ H _ _ _ I r h) λ_ s1 ⟨σ1,H1,I1,q1⟩=>?_)
  exact h2 pins s1 σ1 H1 _ _ Q I1 rr q1
noncomputable def gTup (K:PySem.W.Frag) (n:Nat) (t:TGs):TG:=λv σ H Q=>∃a xs,v=.ref a/\SqT K H a xs/\xs.length=n/\t xs σ H Q
theorem Zhf {es:List Expr}{k:Nat}{t:TGs}{n:Nat} (hc:X.calm=true) (h:PGs X es t)
  (hn:(assignEach es X.env).length=n:=by rfl) (hst:(assignEach es X.env).findIdx? (·.1)=none:=by rfl):PG X (.Tuple es k pos) (gTup X.K n t):=by
 intro pins s σ H v u Q I r hw
 obtain⟨a,xs,e1,hq,hl,hw⟩:=hw
 subst e1
 cases r
 obtain⟨its,rv,ht,hz⟩:=I.tuple hq
 refine assign_Tuple_tuple (I.ok.hd hc) ht (by simp[hn,<-hl,rv.length]) hst λh' hx=>?_
 have I1:Inv X pins σ H {s with heap:=h'}:=I.kept (t':=s.toks) λb o e=>hx b o (Yl (Yj e)) e
 exact h pins _ σ H xs _ Q I1 (by simpa using rv) hw
noncomputable def gSub (to ti:TE) (t:TSet):TG:=λv σ H Q=>to σ H λo H1=>ti σ H1 λi H2=>t o i v H2 λH3=>Q σ H3
theorem Zf0 {o i:Expr}{to ti:TE}{t:TSet} (ho:PE X o to) (hi:PE X i ti) (hs:PSet X t)
  (ha:∀v,assign (.Subscript o i pos) X.env v=(do
   let ov <-holding [v] (eval o X.env)
   let iv <-holding [v,ov] (eval i X.env)
   standAt pos
   holding [v,ov,iv] (setItem ov iv v)
   release [v,ov,iv] []):=by ac_nf):PG X (.Subscript o i pos) (gSub to ti t):=by
 intro pins s σ H v u Q I r h
 rw[ha]
 refine Ya (YE (thn (ho pins s σ H _ I h) λov s1 ⟨x,H1,I1,r1,q1⟩=>?_))
 refine Ya (YE (thn (hi pins s1 σ H1 _ I1 q1) λiv s2 ⟨y,H2,I2,r2,q2⟩=>?_))
 refine Ya (wpAny_standAt (Ya (YE (thn (hs pins s2 σ H2 x y v ov iv u _ I2 r1 r2 r q2) λ_ s3 ⟨H3,I3,q3⟩=>?_))))
 exact wpAny_release ⟨σ,H3,I3,q3⟩
noncomputable def tAsg (te:TE) (g:TG):TS:=λD σ H=>te σ H λx H1=>g x σ H1 D.nx
theorem ZcM {tg e:Expr}{te:TE}{g:TG} (he:PE X e te) (hg:PG X tg g) (hs:swapsWithSole [tg] e pos.line X.env=pure false:=by rfl) (hw:swappedStores [tg] e X.env=pure none:=by rfl)
  (h1:(assignEach [tg] X.env).map (·.2)=[assign tg X.env]:=by rfl):PS X (.Assign [tg] e pos) (tAsg te g):=by
 intro pins s σ H D I h
 refine wpAny_Assign_stores (thn (he pins s σ H _ I h) λv s1 ⟨x,H1,I1,r1,q1⟩=>?_) hs hw
 rw[h1]
 exact thn (hg pins s1 σ H1 x v _ I1 r1 q1) λ_ s2 q=>q
theorem Zs {i:Nat}{x:Str}{e:Expr}{te:TE}{pos':Pos} (hN:X.N.Nodup) (hi:X.N[i]?=some x) (hx:Loc X.env.scope x) (he:PE X e te) (hs:swapsWith e (some (.Name x pos')) pos.line X.env=pure false:=by rfl) (hf:X.fn x=true\/X.env.scope.names.lookup x=some .local:=by and_intros) :
  PS X (.Assign [.Name x pos'] e pos) (tAsg te (gName i)):=by
 intro pins s σ H D I h
 refine wpAny_Assign_Name (thn (he pins s σ H _ I h) λv s1 ⟨y,H1,I1,r1,q1⟩=>?_) hs
 exact ZdL I1 hN hi hx r1 (λs2 I2=>⟨_,H1,I2,q1⟩) hf
noncomputable def tAug (i:Nat) (te:TE) (ti:TIp):TS:=λD σ H=>∃x,σ[i]?=some (some x)/\te σ H λy H1=>ti x y H1 λz H2=>D.nx (σ.set i (some z)) H2
theorem ps_aug {i:Nat}{x:Str}{e:Expr}{te:TE}{op:Operator}{ti:TIp}{pos':Pos} (hN:X.N.Nodup) (hi:X.N[i]?=some x) (hx:Loc X.env.scope x) (he:PE X e te) (ho:PIp X op ti) (hf:X.fn x=true\/X.env.scope.names.lookup x=some .local:=by and_intros) :
  PS X (.AugAssign (.Name x pos') op e pos) (tAug i te ti):=by
 intro pins s σ H D I h
 obtain⟨v,e1,h⟩:=h
 obtain⟨m,hn,hl⟩:=I.loc
 have vis:Vis X.env.scope x:=by rcases hx with k|k;exact .inl k;exact .inr (.inl k)
 obtain⟨u,r,l⟩:=hl i x v hi e1 vis
 refine wpAny_AugAssign_Name ?_
 have go:wpAny (model X.prog X.w) X.A (eval e X.env) (λw s₂=>wpAny (model X.prog X.w) X.A (inplaceOp op u w) (λr s₃=>wpAny (model X.prog X.w) X.A (storeName X.env x r) (λ_=>SP X pins D .next) X.xe s₃) X.xe s₂) X.xe s:=by
  refine thn (he pins s σ H _ I h) λw s1 ⟨y,H1,I1,r1,q1⟩=>?_
  refine thn (ho pins s1 σ H1 v y u w _ I1 r r1 q1) λz s2 ⟨zv,H2,I2,r2,q2⟩=>?_
  exact ZdL I2 hN hi hx r2 (λs3 I3=>⟨_,H2,I3,q2⟩) hf
 rcases l with⟨hk,hm⟩|⟨hk,c,hc,hcell⟩
 .exact wpAny_loadName_local I.ok.kind hk hn hm go
 .rcases hk with hk|hk
  .exact wpAny_loadName_cell I.ok.kind hk hc hcell go
  .rcases hx with k|k
   .have:X.env.scope.names.lookup x=some .free:=hk
    rw[k]at this;cases this
   .have:X.env.scope.names.lookup x=some .free:=hk
    rw[k]at this;cases this
noncomputable def ipI (f:Int->Int->Int):TIp:=λx y H Q=>∃i j,x=.int i/\y=.int j/\Q (.int (f i j)) H
theorem ip_sub:PIp X .Sub (ipI λi j=>i-j):=by
 intro pins s σ H x y v u Q I r1 r2 h
 obtain⟨i,j,e1,e2,q⟩:=h
 subst e1;subst e2
 obtain⟨t,rfl⟩:=r1
 obtain⟨t',rfl⟩:=r2
 exact isub_int ⟨.int _,H,I.tok _,⟨_,rfl⟩,q⟩
end
section
variable {X:Cx}{pos:Pos}
noncomputable def ZkN (c:TT) (tb:TS):TS:=λD σ H=>∃W:Nat->St->Hp->Prop,(∃m,W m σ H)/\∀m σ H,W m σ H ->
 c σ H λb H1=>if b=true then ∃N:St->Hp->Prop,(∀σ' H',N σ' H'->∃m',m'<m/\W m' σ' H')/\tb {D with nx:=N,ct:=N,bk:=D.nx} σ H1 else D.nx σ H1
theorem Zhg {c:Expr}{body:List Stmt}{tc:TT}{tb:TS} (hp:PassesOwn (model X.prog X.w) X.A X.env X.xe) (hc:PT X c tc) (hb:PSs X body tb):PS X (.While c body [] pos) (ZkN tc tb):=by
 intro pins s σ H D I h
 obtain⟨W,⟨m0,w0⟩,turn⟩:=h
 refine wpAny_While (codeAny_whileLoop (λn s'=>∃σ' H',Inv X pins σ' H' s'/\W n σ' H') ?_ m0 ⟨σ,H,I,w0⟩)
 rintro n s1 ⟨σ1,H1,I1,w1⟩
 refine wpAny_passesOwn hp (thn (hc pins s1 σ1 H1 _ I1 (turn n σ1 H1 w1)) λb s2 ⟨H2,I2,q2⟩=>?_)
 cases b with
 |true =>
  obtain⟨N,hN,q2⟩:=q2
  rw[Yd rfl]
  refine wpAny_passesOwn hp (thn (hb pins s2 σ1 H2 _ I2 q2) λf s3 q3=>?_)
  cases f with
  |next =>
   obtain⟨σ3,H3,I3,n3⟩:=q3
   obtain⟨m',hm,w3⟩:=hN σ3 H3 n3
   exact⟨m',hm,σ3,H3,I3,w3⟩
  |cont =>
   obtain⟨σ3,H3,I3,n3⟩:=q3
   obtain⟨m',hm,w3⟩:=hN σ3 H3 n3
   exact⟨m',hm,σ3,H3,I3,w3⟩
  |brk=>exact q3
  |ret v=>exact q3
 |false =>
  rw[Yb YL]
  exact wpAny_execs_nil ⟨σ1,H2,I2,q2⟩
end
structure It where
 go:Nat->Hp->Prop
 yld:Nat->Hp->V->Hp->Prop
 stop:Nat->Hp->Prop
noncomputable def FpOk (X:Cx) (pins:List (Addr×Obj)) (H:Hp) (b:Addr):Prop :=
 H b=none/\b≠X.env.locals/\b∉X.fs/\(b∈X.ex\/X.s₀.heap.objs.size<=b)/\(∀x c,X.env.cells.lookup x=some c->c≠b)/\∀p∈X.pn++pins,p.1≠b
theorem Inv.fpOk {X:Cx}{pins:List (Addr×Obj)}{σ:St}{H H':Hp}{s:Shared}{b:Addr} (I:Inv X pins σ H s) (hb:s.heap.objs.size<=b) (hn:H' b=none):FpOk X pins H' b:=by
 refine⟨hn,Nat.ne_of_gt (YD I.lt hb),I.ZjT hb,.inr (Yn I.sz hb),λx c e z=>?_,λp hp z=>?_⟩
 .obtain⟨v,q⟩:=I.cell x c e
  exact absurd (YD q.lt (by rw[z];exact hb)) (YB _)
 .exact absurd (YD (Yj (I.pin p hp).1) (by rw[z];exact hb)) (YB _)
structure Turn (P:Program) (w:World) (K:PySem.W.Frag) (tg:Expr) (J:It) (fp:List Addr) (it:Addr) (tn:Nat->Heap->Prop):Prop where
 mem:it∈fp
 obj:∀i h,tn i h->∀b∈fp,∃o,h.get? b=some o/\∀v,o.data≠.cell v
 keep:∀i h h',tn i h->(∀b∈fp,∀o,h.get? b=some o->h'.get? b=some o)->tn i h'
 item:∀(X:Cx),X.prog=P->X.w=w->X.K=K->X.calm=true->∀(i:Nat) (pins:List (Addr×Obj)) (s:Shared) (σ:St) (H:Hp) (E:Value->Shared->Prop),Inv X pins σ H s->(∀b∈fp,FpOk X pins H b)->tn i s.heap->J.go i H ->
  wpAny (model P w) X.A (pyNext (.ref it)) (λr s1=>∃u,r=some u /\
   wpAny (model P w) X.A (letOwnedTupleGo tg (.ref it) u) (λ_ s2=>∃x H',Inv X pins σ H' s2/\RelV x u/\J.yld i H x H'/\tn (i+1) s2.heap/\∀b∈fp,H' b=none) E s1) E s
 done:∀(X:Cx),X.prog=P->X.w=w->X.K=K->X.calm=true->∀(i:Nat) (pins:List (Addr×Obj)) (s:Shared) (σ:St) (H:Hp) (E:Value->Shared->Prop),Inv X pins σ H s->(∀b∈fp,FpOk X pins H b)->tn i s.heap->J.stop i H ->
  wpAny (model P w) X.A (pyNext (.ref it)) (λr s1=>r=none/\Inv X pins σ H s1) E s
 self:∀(A:Around) (i:Nat) (s:Shared) (Q:Value->Shared->Prop) (E:Value->Shared->Prop),tn i s.heap->Q (.ref it) s->wpAny (model P w) A (pyIter (.ref it)) Q E s
noncomputable abbrev TI:=St->Hp->(It->Hp->Prop)->Prop
noncomputable def PIE (X:Cx) (pins:List (Addr×Obj)) (σ:St) (tg:Expr) (R:It->Hp->Prop) (itv:Value) (s2:Shared):Prop :=
 ∃(it:Addr) (fp:List Addr) (tn:Nat->Heap->Prop) (J:It) (H':Hp),itv=.ref it/\Inv X pins σ H' s2/\Turn X.prog X.w X.K tg J fp it tn/\tn 0 s2.heap/\(∀b∈fp,FpOk X pins H' b)/\R J H'
noncomputable def PI (X:Cx) (tg iter:Expr) (wi:TI):Prop :=
 ∀(pins:List (Addr×Obj)) (s:Shared) (σ:St) (H:Hp) (R:It->Hp->Prop),Inv X pins σ H s->wi σ H R ->
  wpAny (model X.prog X.w) X.A (eval iter X.env) (λv s1=>wpAny (model X.prog X.w) X.A (pyIter v) (PIE X pins σ tg R) X.xe s1) X.xe s
theorem ZnN {M : Model} {A : Around} {E : Value → Shared → Prop} {s : Shared} {tg : Expr} {it : Addr} {u : Value} {o : Obj} {n : String} {vs : Array Value} {Q : Unit → Shared → Prop} (ho : s.heap.get? it = some o) (hc : o.cls = .type n) (hd : o.data = .fields vs)
    (hn : ["enumerate", "zip", "dict_itemiterator", "dict_reverseitemiterator", "odict_iterator", "itertools.zip_longest", "itertools.pairwise"].contains n = false) (hQ : Q () s) : wpAny M A (letOwnedTupleGo tg (.ref it) u) Q E s := by
  unfold letOwnedTupleGo
  cases tg <;> first
    | exact Yc hQ
    | (cases u <;> first
        | exact Yc hQ
        | (refine Ya (wpAny_load ho ?_)
           rw [hc, hd]
           show wpAny M A (if (["enumerate", "zip", "dict_itemiterator", "dict_reverseitemiterator", "odict_iterator", "itertools.zip_longest", "itertools.pairwise"].contains n && vs[0]? == some (rawInt _)) = true then _ else _) Q E s
           rw [Yb (by intro h; rw [hn, Bool.false_and] at h; cases h)]
           exact Yc hQ))
noncomputable def Itl (K:PySem.W.Frag) (a:Addr):It :=
 ⟨λi H=>∃xs x,SqL K H a xs/\xs[i]?=some x,λi H x H'=>H'=H/\∀xs,SqL K H a xs->xs[i]?=some x,λi H=>∃xs,SqL K H a xs/\xs.length<=i⟩
noncomputable def Itt (K:PySem.W.Frag) (a:Addr):It :=
 ⟨λi H=>∃xs x,SqT K H a xs/\xs[i]?=some x,λi H x H'=>H'=H/\∀xs,SqT K H a xs->xs[i]?=some x,λi H=>∃xs,SqT K H a xs/\xs.length<=i⟩
noncomputable def Itr (lo:Int) (n:Nat):It:=⟨λi _=>i<n,λi H x H'=>H'=H/\x=.int (lo+i),λi _=>n<=i⟩
theorem Zmr {P:Program}{w:World}{K:PySem.W.Frag}{tg:Expr} (a it:Addr):Turn P w K tg (Itl K a) [it] it (λi h=>h.IsListIter it a i) where
 mem:=by simp
 obj:=λi h st b hb=>by
  have e:b=it:=by simpa using hb
  subst e
  obtain⟨o,e,c,d⟩:=st
  exact⟨o,e,λv z=>by rw[d]at z;cases z⟩
 keep:=λi h h' st k=>st.at λo e=>k it (by simp) o e
 item:=by
  intro X hP hw hK hc i pins s σ H E I hf st hg
  subst hP hw hK
  obtain⟨xs,x,hq,hx⟩:=hg
  obtain⟨its,rv,p,hz⟩:=I.list hq
  obtain⟨u,hu,ru⟩:=rv.get hx
  obtain⟨f0,f1,f2,f3,f4,f5⟩:=hf it (by simp)
  refine wpAny_pyNext_list_item st p.isList (x:=u) (by simpa using hu) λh' st' sb=>?_
  have I1:Inv X pins σ H {s with heap:=h'}:=I.turned (t':=s.toks) (λb o hb e=>(sb.2 b hb).trans e) f0 f1 f3 f4 f5
  obtain⟨o,e,c,d⟩:=id st'
  exact⟨u,rfl,ZnN (s:={s with heap:=h'}) e c d nofun ⟨x,H,I1,ru,⟨rfl,λys hy=>by rw[I.ZdO hy hq];exact hx⟩,st',λb hb=>(hf b hb).1⟩⟩
 done:=by
  intro X hP hw hK hc i pins s σ H E I hf st hg
  subst hP hw hK
  obtain⟨xs,hq,hx⟩:=hg
  obtain⟨its,rv,p,hz⟩:=I.list hq
  obtain⟨f0,f1,f2,f3,f4,f5⟩:=hf it (by simp)
  have hl:=rv.length
  exact wpAny_pyNext_list_end (I.ok.hd hc) st p.isList (by simp;omega) λh' eb=>⟨rfl,I.turned (t':=s.toks) (λb o hb e=>eb b o hb e) f0 f1 f3 f4 f5⟩
 self:=λ_ _ _ _ _ st h=>wpAny_pyIter_listiter st h
theorem ZkO {P:Program}{w:World}{K:PySem.W.Frag}{tg:Expr} (a it:Addr):Turn P w K tg (Itt K a) [it] it (λi h=>h.IsTupleIter it a i) where
 mem:=by simp
 obj:=λi h st b hb=>by
  have e:b=it:=by simpa using hb
  subst e
  obtain⟨o,e,c,d⟩:=st
  exact⟨o,e,λv z=>by rw[d]at z;cases z⟩
 keep:=λi h h' st k=>st.at λo e=>k it (by simp) o e
 item:=by
  intro X hP hw hK hc i pins s σ H E I hf st hg
  subst hP hw hK
  obtain⟨xs,x,hq,hx⟩:=hg
  obtain⟨its,rv,p,hz⟩:=I.tuple hq
  obtain⟨u,hu,ru⟩:=rv.get hx
  obtain⟨f0,f1,f2,f3,f4,f5⟩:=hf it (by simp)
  refine wpAny_pyNext_tuple_item st (show s.heap.IsTuple a its.toArray from p) (x:=u) (by simpa using hu) λh' st' sb=>?_
  have I1:Inv X pins σ H {s with heap:=h'}:=I.turned (t':=s.toks) (λb o hb e=>(sb.2 b hb).trans e) f0 f1 f3 f4 f5
  obtain⟨o,e,c,d⟩:=id st'
  exact⟨u,rfl,ZnN (s:={s with heap:=h'}) e c d nofun ⟨x,H,I1,ru,⟨rfl,λys hy=>by rw[I.ZfZ hy hq];exact hx⟩,st',λb hb=>(hf b hb).1⟩⟩
 done:=by
  intro X hP hw hK hc i pins s σ H E I hf st hg
  subst hP hw hK
  obtain⟨xs,hq,hx⟩:=hg
  obtain⟨its,rv,p,hz⟩:=I.tuple hq
  obtain⟨f0,f1,f2,f3,f4,f5⟩:=hf it (by simp)
  have hl:=rv.length
  exact wpAny_pyNext_tuple_end (I.ok.hd hc) st (show s.heap.IsTuple a its.toArray from p) (by simp;omega) λh' eb=>⟨rfl,I.turned (t':=s.toks) (λb o hb e=>eb b o hb e) f0 f1 f3 f4 f5⟩
 self:=λ_ _ _ _ _ st h=>wpAny_pyIter_tupleiter st h
theorem ZkP {P:Program}{w:World}{K:PySem.W.Frag}{tg:Expr} (it:Addr) (lo:Int) (n:Nat):Turn P w K tg (Itr lo n) [it] it (λi h=>IsRangeIter h it (lo+(i:Nat)*1) ((n:Int)-(i:Nat)) 1) where
 mem:=by simp
 obj:=λi h st b hb=>by
  have e:b=it:=by simpa using hb
  subst e
  exact⟨_,st,λv z=>by
   have z':Data.fields _=Data.cell v:=z
   cases z'⟩
 keep:=λi h h' st k=>k it (by simp) _ st
 item:=by
  intro X hP hw hK hc i pins s σ H E I hf st hg
  subst hP hw hK
  obtain⟨f0,f1,f2,f3,f4,f5⟩:=hf it (by simp)
  have W:=Walks.range (prog:=X.prog) (w:=X.w) (I.ok.hd hc) it lo 1 n
  refine W.item i s _ _ hg st λv h' tk hv st' kk=>?_
  obtain⟨t,rfl⟩:=hv
  have I1:Inv X pins σ H {s with heap:=h',toks:=tk}:=I.turned (λb o hb e=>kk b o (by simpa using hb) e) f0 f1 f3 f4 f5
  refine⟨_,rfl,ZnN (s:={s with heap:=h',toks:=tk}) (n:="range_iterator") st' rfl rfl nofun ⟨.int (lo+i),H,I1,⟨t,?_⟩,⟨rfl,rfl⟩,st',λb hb=>(hf b hb).1⟩⟩
  rw[Int.mul_one]
 done:=by
  intro X hP hw hK hc i pins s σ H E I hf st hg
  subst hP hw hK
  obtain⟨f0,f1,f2,f3,f4,f5⟩:=hf it (by simp)
  exact wpAny_pyNext_range_end (I.ok.hd hc) st (by have:n<=i:=hg;omega) λh' eb=>⟨rfl,I.turned (t':=s.toks) (λb o hb e=>eb b o hb e) f0 f1 f3 f4 f5⟩
 self:=λ_ _ _ _ _ st h=>wpAny_pyIter_rangeiter st h
section
variable {X:Cx}{tg:Expr}
noncomputable def iList (K:PySem.W.Frag) (tl:TE):TI:=fun σ H R=>tl σ H λx H1=>∃a,x=.ref a/\(∃xs,SqL K H1 a xs)/\R (Itl K a) H1
noncomputable def iTup (K:PySem.W.Frag) (tl:TE):TI:=fun σ H R=>tl σ H λx H1=>∃a,x=.ref a/\(∃xs,SqT K H1 a xs)/\R (Itt K a) H1
theorem Zao {l:Expr}{tl:TE} (hl:PE X l tl):PI X tg l (iList X.K tl):=by
 intro pins s σ H R I h
 refine thn (hl pins s σ H _ I h) λv s1 ⟨x,H1,I1,r1,q1⟩=>?_
 obtain⟨a,e,⟨xs,hq⟩,q⟩:=q1
 subst e
 cases r1
 obtain⟨its,rv,p,hz⟩:=I1.list hq
 refine wpAny_pyIter_list p.isList ?_
 refine⟨s1.heap.objs.size,[s1.heap.objs.size],_,_,H1,rfl,I1.kept (t':=s1.toks) λb o e=>Yk _ e,Zmr a _,⟨_,Yv _ rfl,rfl,rfl⟩,λb hb=>?_,q⟩
 have e:b=s1.heap.objs.size:=by simpa using hb
 subst e
 exact I1.fpOk (Ye _) (I1.hok.fresh (Ye _))
theorem ZiZ {l:Expr}{tl:TE} (hl:PE X l tl):PI X tg l (iTup X.K tl):=by
 intro pins s σ H R I h
 refine thn (hl pins s σ H _ I h) λv s1 ⟨x,H1,I1,r1,q1⟩=>?_
 obtain⟨a,e,⟨xs,hq⟩,q⟩:=q1
 subst e
 cases r1
 obtain⟨its,rv,p,hz⟩:=I1.tuple hq
 refine wpAny_pyIter_tuple (show s1.heap.IsTuple a its.toArray from p) ?_
 refine⟨s1.heap.objs.size,[s1.heap.objs.size],_,_,H1,rfl,I1.kept (t':=s1.toks) λb o e=>Yk _ e,ZkO a _,⟨_,Yv _ rfl,rfl,rfl⟩,λb hb=>?_,q⟩
 have e:b=s1.heap.objs.size:=by simpa using hb
 subst e
 exact I1.fpOk (Ye _) (I1.hok.fresh (Ye _))
theorem ZjU {pins:List (Addr×Obj)}{σ:St}{H:Hp}{s:Shared}{R:It->Hp->Prop}{E:Value->Shared->Prop}{lo hi:Int}{t u v:Tok}{tk:Nat} (I:Inv X pins σ H s) (h1:-(2 ^ 62)<=lo) (h2:lo<2 ^ 62) (h3:-(2 ^ 62)<=hi) (h4:hi<2 ^ 62)
  (q:R (Itr lo (hi-lo).toNat) H):wpAny (model X.prog X.w) X.A (pyIter (.ref s.heap.objs.size)) (PIE X pins σ tg R) E {s with heap:=s.heap.push {cls:=.type "range",data:=.fields #[.int lo t,.int hi u,.int 1 v]},toks:=tk}:=by
 refine wpAny_pyIter_range (IsRange.new ..) (small_one h1 h2 h3 h4) ?_
 have I1:Inv X pins σ H {s with heap:=s.heap.push {cls:=.type "range",data:=.fields #[.int lo t,.int hi u,.int 1 v]},toks:=tk}:=I.kept λb o e=>Yk _ e
 refine⟨(s.heap.push {cls:=.type "range",data:=.fields #[.int lo t,.int hi u,.int 1 v]}).objs.size,[(s.heap.push {cls:=.type "range",data:=.fields #[.int lo t,.int hi u,.int 1 v]}).objs.size],_,_,H,rfl,
  I1.kept (t':=tk) λb o e=>Yk _ e,ZkP _ lo (hi-lo).toNat,?_,λb hb=>?_,q⟩
 .have e1:lo+((0:Nat):Int)*1=lo:=by simp
  have e2:(((hi-lo).toNat:Nat):Int)-((0:Nat):Int)=Builtin.Range.rangeSize lo hi 1:=by rw[rangeSize_one];split<;>omega
  show IsRangeIter _ _ (lo+((0:Nat):Int)*1) ((((hi-lo).toNat:Nat):Int)-((0:Nat):Int)) 1
  rw[e1,e2]
  exact Yv _ rfl
 .have e:b=(s.heap.push {cls:=.type "range",data:=.fields #[.int lo t,.int hi u,.int 1 v]}).objs.size:=by simpa using hb
  subst e
  exact I1.fpOk (Ye _) (I1.hok.fresh (Ye _))
noncomputable def iRng1 (ta:TA):TI:=fun σ H R=>ta σ H λvs H1=>∃j:Int,vs=[.int j]/\-(2 ^ 62)<=j/\j<2 ^ 62/\R (Itr 0 j.toNat) H1
noncomputable def iRng2 (ta:TA):TI:=fun σ H R=>ta σ H λvs H1=>∃i j:Int,vs=[.int i,.int j]/\(-(2 ^ 62)<=i/\i<2 ^ 62/\-(2 ^ 62)<=j/\j<2 ^ 62)/\R (Itr i (j-i).toNat) H1
theorem ZJ {a:Expr}{ta:TA}{p pos:Pos} (hg:Gl X "range") (hm:X.mg "range"=none) (ha:PA X [a] ta) (hs:starEach [a] X.env=[(false,eval a X.env)]:=by rfl):PI X tg (.Call (.Name "range" p) [a] [] pos) (iRng1 ta):=by
 intro pins s σ H R I h
 refine Call_ (ZaF I hg hm boot_range (PyProof.Rows.callWith_type1 (thn (ha pos pins s σ H _ I h) λus s1 ⟨vs,H1,I1,r1,q1⟩=>?_) hs rfl))
 obtain⟨j,e,q1,q2,q⟩:=q1
 subst e
 cases r1 with
 |cons r rr =>
  cases rr
  obtain⟨t,rfl⟩:=r
  exact call_range_1 (ZjU I1 ⋯ ⋯ q1 q2 (by simpa using q))
theorem Zf1 {a b:Expr}{ta:TA}{p pos:Pos} (hg:Gl X "range") (hm:X.mg "range"=none) (ha:PA X [a,b] ta) (hs:starEach [a,b] X.env=[(false,eval a X.env),(false,eval b X.env)]:=by rfl) (hs2:starEach [b] X.env=[(false,eval b X.env)]:=by rfl) :
  PI X tg (.Call (.Name "range" p) [a,b] [] pos) (iRng2 ta):=by
 intro pins s σ H R I h
 refine Call_ (ZaF I hg hm boot_range (PyProof.Rows.callWith_type1 (thn (ha pos pins s σ H _ I h) λus s1 ⟨vs,H1,I1,r1,q1⟩=>?_) (by rw[hs,hs2]) (by rw[hs2];rfl)))
 obtain⟨i,j,e,⟨q1,q2,q3,q4⟩,q⟩:=q1
 subst e
 cases r1 with
 |cons r rr =>
  cases rr with
  |cons r' rr =>
   cases rr
   obtain⟨t,rfl⟩:=r
   obtain⟨t',rfl⟩:=r'
   exact call_range_2 (ZjU I1 q1 q2 q3 q4 q)
noncomputable def tFor (wi:TI) (g:TG) (tb:TS):TS:=λD σ H=>wi σ H λJ H1=>∃W:Nat->Nat->St->Hp->Prop,(∃m,W 0 m σ H1)/\∀i m σ H,W i m σ H ->
 (J.stop i H/\D.nx σ H)\/(J.go i H/\∃N:St->Hp->Prop,(∀σ' H',N σ' H'->∃m',m'<m/\W (i+1) m' σ' H')/\∀x H',J.yld i H x H'->g x σ H' fun σ2 H2=>tb {D with nx:=N,ct:=N,bk:=D.nx} σ2 H2)
noncomputable def ZdQ (fp:List Addr) (h:Heap):List (Addr×Obj):=fp.filterMap λb=>(h.get? b).map λo=>(b,o)
theorem ZcN {fp:List Addr}{h:Heap}{b:Addr}{o:Obj} (hb:b∈fp) (e:h.get? b=some o):(b,o)∈ZdQ fp h:=List.mem_filterMap.mpr ⟨b,hb,by rw[e];rfl⟩
theorem Ziv {fp:List Addr}{h:Heap}{p:Addr×Obj} (hp:p∈ZdQ fp h):p.1∈fp/\h.get? p.1=some p.2:=by
 obtain⟨b,hb,e⟩:=List.mem_filterMap.mp hp
 cases q:h.get? b with
 |none=>rw[q]at e;cases e
 |some o =>
  rw[q]at e
  have e':(b,o)=p:=YF e
  subst e'
  exact⟨hb,q⟩
theorem Inv.pinned {pins:List (Addr×Obj)}{σ:St}{H:Hp}{s:Shared}{fp:List Addr} (I:Inv X pins σ H s) (hf:∀b∈fp,FpOk X pins H b) (ho:∀b∈fp,∃o,s.heap.get? b=some o/\∀v,o.data≠.cell v):Inv X (pins++ZdQ fp s.heap) σ H s :=
 I.ZH λp hp=>(Yw.mp hp).elim (λz=>I.pin p (Ym _ z)) λz=>by
  obtain⟨hb,e⟩:=Ziv z
  obtain⟨f0,f1,f2,_⟩:=hf p.1 hb
  obtain⟨o,e',d⟩:=ho p.1 hb
  rw[e]at e';cases e'
  exact⟨e,f0,f1,f2,d⟩
theorem Inv.ZdR {pins pl:List (Addr×Obj)}{σ:St}{H:Hp}{s:Shared} (I:Inv X (pins++pl) σ H s):Inv X pins σ H s:=I.ZH λp hp=>I.pin p (Ym _ (YS _ hp))
theorem Zbj {iter:Expr}{body:List Stmt}{wi:TI}{g:TG}{tb:TS}{pos:Pos} (hp:PassesOwn (model X.prog X.w) X.A X.env X.xe) (hc:X.calm=true) (hi:PI X tg iter wi) (hg:PG X tg g) (hb:PSs X body tb)
  (hs:∀x,foldedSetIterable iter X.env x=pure x:=by ac_nf):PS X (.For tg iter body [] pos) (tFor wi g tb):=by
 intro pins s σ H D I h
 refine wpAny_For (thn (hi pins s σ H _ I h) λv s1 h1=>thn h1 λitv s2 h2=>?_) hs
 obtain⟨it,fp,tn,J,H2,e,I2,T,st2,f2,W,⟨m0,w0⟩,turn⟩:=h2
 subst e
 -- what stays true of the iterator's objects through the loop
 have stat:∀{H':Hp},(∀b∈fp,H' b=none)->∀b∈fp,FpOk X pins H' b:=λhn b hb=>⟨hn b hb,(f2 b hb).2⟩
 refine codeAny_forLoop_any (λn s'=>∃i σ' H',Inv X pins σ' H' s'/\tn i s'.heap/\(∀b∈fp,H' b=none)/\W i n σ' H') ?_ m0 ⟨0,σ,H2,I2,st2,λb hb=>(f2 b hb).1,w0⟩
 rintro n s3 ⟨i,σ3,H3,I3,st3,fr3,w3⟩
 rcases turn i n σ3 H3 w3 with⟨stop,qn⟩|⟨go,N,hN,step⟩
 .refine wpAny_passesOwn hp (thn (T.done X rfl rfl rfl hc i pins s3 σ3 H3 X.xe I3 (stat fr3) st3 stop) λr s4 ⟨hr,I4⟩=>?_)
  subst hr
  exact wpAny_execs_nil ⟨σ3,H3,I4,qn⟩
 .refine wpAny_passesOwn hp (thn (T.item X rfl rfl rfl hc i pins s3 σ3 H3 X.xe I3 (stat fr3) st3 go) λr s4 ⟨u,hr,h4⟩=>?_)
  subst hr
  refine wpAny_passesOwn hp (thn h4 λ_ s5 ⟨x,H5,I5,r5,y5,st5,fr5⟩=>?_)
  have I5':=I5.pinned (stat fr5) (T.obj _ _ st5)
  refine wpAny_passesOwn hp (thn (hg _ s5 σ3 H5 x u _ I5' r5 (step x H5 y5)) λ_ s6 ⟨σ6,H6,I6,q6⟩=>?_)
  refine wpAny_passesOwn hp (thn (hb _ s6 σ6 H6 _ I6 q6) λf s7 q7=>?_)
  have again:∀{σ7:St}{H7:Hp},Inv X (pins++ZdQ fp s5.heap) σ7 H7 s7->N σ7 H7->∃m,m<n/\∃i σ' H',Inv X pins σ' H' s7/\tn i s7.heap/\(∀b∈fp,H' b=none)/\W i m σ' H':=λ{σ7 H7} I7 n7=>by
   obtain⟨m',hm,w7⟩:=hN σ7 H7 n7
   refine⟨m',hm,i+1,σ7,H7,I7.ZdR,T.keep _ _ _ st5 λb hb o e=>(I7.pin (b,o) (Ym _ (Ym _ (ZcN hb e)))).1,λb hb=>?_,w7⟩
   obtain⟨o,e,d⟩:=T.obj _ _ st5 b hb
   exact(I7.pin (b,o) (Ym _ (Ym _ (ZcN hb e)))).2.1
  cases f with
  |next=>obtain⟨σ7,H7,I7,n7⟩:=q7;exact again I7 n7
  |cont=>obtain⟨σ7,H7,I7,n7⟩:=q7;exact again I7 n7
  |brk=>obtain⟨σ7,H7,I7,q7⟩:=q7;exact⟨σ7,H7,I7.ZdR,q7⟩
  |ret v=>obtain⟨x7,σ7,H7,I7,r7,q7⟩:=q7;exact⟨x7,σ7,H7,I7.ZdR,r7,q7⟩
end
theorem Zhh {K:PySem.W.Frag}{a:Addr}{xs:List V}{g:TG}{tb:TS}{D:Ends}{σ:St}{H:Hp} (Pv:Nat->St->Hp->Prop) (h0:Pv 0 σ H) (hl:∀i σ H,i<=xs.length->Pv i σ H->SqL K H a xs)
  (hs:∀i x σ H,xs[i]?=some x->Pv i σ H->g x σ H fun σ2 H2=>tb {D with nx:=Pv (i+1),ct:=Pv (i+1),bk:=D.nx} σ2 H2) (hd:∀σ H,Pv xs.length σ H->D.nx σ H) :
  ∃W:Nat->Nat->St->Hp->Prop,(∃m,W 0 m σ H)/\∀i m σ H,W i m σ H ->
   ((Itl K a).stop i H/\D.nx σ H)\/((Itl K a).go i H/\∃N:St->Hp->Prop,(∀σ' H',N σ' H'->∃m',m'<m/\W (i+1) m' σ' H')/\∀x H',(Itl K a).yld i H x H'->g x σ H' fun σ2 H2=>tb {D with nx:=N,ct:=N,bk:=D.nx} σ2 H2):=by
 refine⟨λi m σ H=>m=xs.length-i/\i<=xs.length/\Pv i σ H,⟨xs.length,by simp,Yo _,h0⟩,?_⟩
 rintro i m σ H ⟨rfl,hi,p⟩
 have q:=hl i σ H hi p
 by_cases hlt:i<xs.length
 .refine .inr ⟨⟨xs,xs[i],q,by simp[hlt]⟩,Pv (i+1),fun σ' H' p'=>⟨xs.length-(i+1),⋯,rfl,hlt,p'⟩,λx H' y=>?_⟩
  obtain⟨e,y⟩:=y
  subst e
  exact hs i x σ _ (y xs q) p
 .have e:i=xs.length:= ⋯
  subst e
  exact .inl ⟨⟨xs,q,Ye _⟩,hd σ H p⟩
theorem ZeA {lo:Int}{n:Nat}{g:TG}{tb:TS}{D:Ends}{σ:St}{H:Hp} (Pv:Nat->St->Hp->Prop) (h0:Pv 0 σ H)
  (hs:∀i σ H,i<n->Pv i σ H->g (.int (lo+i)) σ H fun σ2 H2=>tb {D with nx:=Pv (i+1),ct:=Pv (i+1),bk:=D.nx} σ2 H2) (hd:∀σ H,Pv n σ H->D.nx σ H) :
  ∃W:Nat->Nat->St->Hp->Prop,(∃m,W 0 m σ H)/\∀i m σ H,W i m σ H ->
   ((Itr lo n).stop i H/\D.nx σ H)\/((Itr lo n).go i H/\∃N:St->Hp->Prop,(∀σ' H',N σ' H'->∃m',m'<m/\W (i+1) m' σ' H')/\∀x H',(Itr lo n).yld i H x H'->g x σ H' fun σ2 H2=>tb {D with nx:=N,ct:=N,bk:=D.nx} σ2 H2):=by
 refine⟨λi m σ H=>m=n-i/\i<=n/\Pv i σ H,⟨n,by simp,Yo _,h0⟩,?_⟩
 rintro i m σ H ⟨rfl,hi,p⟩
 by_cases hlt:i<n
 .refine .inr ⟨hlt,Pv (i+1),fun σ' H' p'=>⟨n-(i+1),⋯,rfl,hlt,p'⟩,λx H' y=>?_⟩
  obtain⟨e,y⟩:=y
  subst e y
  exact hs i σ _ hlt p
 .have e:i=n:= ⋯
  subst e
  exact .inl ⟨Ye _,hd σ H p⟩
noncomputable abbrev R2:=V->V->Hp->VK->Prop
noncomputable def OpR (X:Cx) (f:Value->Value->Sem Value) (r:R2):Prop :=
 ∀(pins:List (Addr×Obj)) (s:Shared) (σ:St) (H:Hp) (x y:V) (v u:Value) (Q:VK),Inv X pins σ H s->RelV x v->RelV y u->r x y H Q ->
  wpAny (model X.prog X.w) X.A (f v u) (EP X pins σ Q) X.xe s
noncomputable def UnR (X:Cx) (f:Value->Sem Value) (r:V->Hp->VK->Prop):Prop :=
 ∀(pins:List (Addr×Obj)) (s:Shared) (σ:St) (H:Hp) (x:V) (v:Value) (Q:VK),Inv X pins σ H s->RelV x v->r x H Q ->
  wpAny (model X.prog X.w) X.A (f v) (EP X pins σ Q) X.xe s
noncomputable def Zax (X:Cx) (f:Value) (r:List V->Hp->VK->Prop):Prop :=
 ∀(pins:List (Addr×Obj)) (s:Shared) (σ:St) (H:Hp) (xs:List V) (us:List Value) (Q:VK),Inv X pins σ H s->Vals xs us->r xs H Q ->
  wpAny (model X.prog X.w) X.A (call f us) (EP X pins σ Q) X.xe s
noncomputable def tOp (r:R2) (ta tb:TE):TE:=fun σ H Q=>ta σ H λx H1=>tb σ H1 λy H2=>r x y H2 Q
noncomputable def tUn (r:V->Hp->VK->Prop) (ta:TE):TE:=fun σ H Q=>ta σ H λx H1=>r x H1 Q
noncomputable def rI (C:Int->Int->Prop) (g:Int->Int->V):R2:=λx y H Q=>∃i j,x=.int i/\y=.int j/\C i j/\Q (g i j) H
noncomputable def rI0 (g:Int->Int->V):R2:=λx y H Q=>∃i j,x=.int i/\y=.int j/\Q (g i j) H
noncomputable def rU (g:Int->V):V->Hp->VK->Prop:=λx H Q=>∃i,x=.int i/\Q (g i) H
section
variable {X:Cx}{a b c:Expr}{ta tb tc:TE}{pos:Pos}
theorem binT (ha:PE X a ta) (hb:PE X b tb) {pins:List (Addr×Obj)}{s:Shared}{σ:St}{H:Hp}{R:V->V->Hp->Prop} (I:Inv X pins σ H s)
  (h:ta σ H λx H1=>tb σ H1 λy H2=>R x y H2) {Q:Value->Shared->Prop}{f:Value->Value->Sem Value}
  (hf:∀v u s2 x y H2,Inv X pins σ H2 s2->RelV x v->RelV y u->R x y H2->wpAny (model X.prog X.w) X.A (f v u) Q X.xe s2) :
  wpAny (model X.prog X.w) X.A (eval a X.env) (λv s₁=>wpAny (model X.prog X.w) X.A (eval b X.env) (λu s₂=>wpAny (model X.prog X.w) X.A (f v u) Q X.xe s₂) X.xe s₁) X.xe s:=by
 refine thn (ha pins s σ H _ I h) λv s1 ⟨x,H1,I1,r1,q1⟩=>?_
 refine thn (hb pins s1 σ H1 _ I1 q1) λu s2 ⟨y,H2,I2,r2,q2⟩=>?_
 exact hf v u s2 x y H2 I2 r1 r2 q2
theorem Zv {op:Operator}{r:R2} (ho:OpR X (binaryOp op) r) (ha:PE X a ta) (hb:PE X b tb):PE X (.BinOp a op b pos) (tOp r ta tb):=by
 intro pins s σ H Q I h
 exact wpAny_BinOp (binT ha hb I h λv u s2 x y H2 I2 rx ry q=>ho pins s2 σ H2 x y v u Q I2 rx ry q)
theorem Zb2 {op:UnaryOp}{r:V->Hp->VK->Prop} (ho:UnR X (unaryOp op) r) (ha:PE X a ta):PE X (.UnaryOp op a pos) (tUn r ta):=by
 intro pins s σ H Q I h
 exact UnaryOp_ (thn (ha pins s σ H _ I h) λv s1 ⟨x,H1,I1,r1,q1⟩=>ho pins s1 σ H1 x v Q I1 r1 q1)
theorem opI {f:Value->Value->Sem Value}{C:Int->Int->Prop}{g:Int->Int->Int}
  (rule:∀(i j:Int) (t u:Tok) (s:Shared) (Q:Value->Shared->Prop) (E:Value->Shared->Prop),C i j->Q (.int (g i j) s.toks) {s with toks:=s.toks+1}->wpAny (model X.prog X.w) X.A (f (.int i t) (.int j u)) Q E s) :
  OpR X f (rI C λi j=>.int (g i j)):=by
 intro pins s σ H x y v u Q I rx ry h
 obtain⟨i,j,rfl,rfl,hc,q⟩:=h
 obtain⟨t,rfl⟩:=rx
 obtain⟨t',rfl⟩:=ry
 exact rule i j t t' s _ _ hc ⟨.int (g i j),H,I.tok _,⟨_,rfl⟩,q⟩
theorem opI0 {f:Value->Value->Sem Value}{g:Int->Int->Int}
  (rule:∀(i j:Int) (t u:Tok) (s:Shared) (Q:Value->Shared->Prop) (E:Value->Shared->Prop),Q (.int (g i j) s.toks) {s with toks:=s.toks+1}->wpAny (model X.prog X.w) X.A (f (.int i t) (.int j u)) Q E s) :
  OpR X f (rI0 λi j=>.int (g i j)):=by
 intro pins s σ H x y v u Q I rx ry h
 obtain⟨i,j,rfl,rfl,q⟩:=h
 obtain⟨t,rfl⟩:=rx
 obtain⟨t',rfl⟩:=ry
 exact rule i j t t' s _ _ ⟨.int (g i j),H,I.tok _,⟨_,rfl⟩,q⟩
theorem opB0 {f:Value->Value->Sem Value}{g:Int->Int->Bool}
  (rule:∀(i j:Int) (t u:Tok) (s:Shared) (Q:Value->Shared->Prop) (E:Value->Shared->Prop),Q (.bool (g i j)) s->wpAny (model X.prog X.w) X.A (f (.int i t) (.int j u)) Q E s) :
  OpR X f (rI0 λi j=>.bl (g i j)):=by
 intro pins s σ H x y v u Q I rx ry h
 obtain⟨i,j,rfl,rfl,q⟩:=h
 obtain⟨t,rfl⟩:=rx
 obtain⟨t',rfl⟩:=ry
 exact rule i j t t' s _ _ ⟨.bl (g i j),H,I,rfl,q⟩
noncomputable def Zi0 (i j:Int):Prop:=0<=j/\j<=1000000/\i.natAbs<2 ^ 64
theorem Zav:OpR X (binaryOp .Add) (rI0 λi j=>.int (i+j)):=opI0 λ_ _ _ _ _ _ _ q=>add_int q
theorem ZdS:OpR X (binaryOp .Sub) (rI0 λi j=>.int (i-j)):=opI0 λ_ _ _ _ _ _ _ q=>sub_int q
theorem ZdT:OpR X (binaryOp .Mod) (rI (λ_ j=>0<j) λi j=>.int (i % j)):=opI λi j _ _ _ _ _ hc q=>by
 have h1:(0:Int)<j:=hc
 exact mod_int' ⋯ (by rw[Int.fmod_eq_emod_of_nonneg i ⋯];exact q)
theorem ZcO:OpR X (binaryOp .Pow) (rI Zi0 λi j=>.int (i ^ j.toNat)):=opI λ_ _ _ _ _ _ _ hc q=>pow_int_small hc.1 hc.2.1 hc.2.2 q
theorem unI {f:Value->Sem Value}{g:Int->Int}
  (rule:∀(i:Int) (t:Tok) (s:Shared) (Q:Value->Shared->Prop) (E:Value->Shared->Prop),Q (.int (g i) s.toks) {s with toks:=s.toks+1}->wpAny (model X.prog X.w) X.A (f (.int i t)) Q E s) :
  UnR X f (rU λi=>.int (g i)):=by
 intro pins s σ H x v Q I rx h
 obtain⟨i,rfl,q⟩:=h
 obtain⟨t,rfl⟩:=rx
 exact rule i t s _ _ ⟨.int (g i),H,I.tok _,⟨_,rfl⟩,q⟩
theorem ZaG:UnR X (unaryOp .USub) (rU λi=>.int (-i)):=unI λ_ _ _ _ _ q=>neg_int q
end
noncomputable def ZjV:V->V->Bool
 |.non,.non=>true|.non,.int _=>true|.int _,.non=>true|.non,.bl _=>true|.bl _,.non=>true|.non,.str _=>true|.str _,.non=>true
 |.int _,.int _=>true|.bl _,.bl _=>true|.str _,.str _=>true|.byt _,.byt _=>true
 |.int _,.str _=>true|.str _,.int _=>true|.bl _,.str _=>true|.str _,.bl _=>true
 |_,_=>false
noncomputable def rEq:R2:=λx y H Q=>ZjV x y=true/\Q (.bl (decide (x=y))) H
noncomputable def rNe:R2:=λx y H Q=>ZjV x y=true/\Q (.bl (!decide (x=y))) H
theorem ZlE {i j:Int}:decide (V.int i=V.int j)=(i==j):=by
 rw[Bool.eq_iff_iff]
 simp
theorem ZnO {i j:Bool}:decide (V.bl i=V.bl j)=(i==j):=by
 rw[Bool.eq_iff_iff]
 simp
theorem ZlF {i j:Str}:decide (V.str i=V.str j)=(i==j):=by
 rw[Bool.eq_iff_iff]
 simp
theorem ZlG {i j:Array UInt8}:decide (V.byt i=V.byt j)=(i.toList==j.toList):=by
 rw[Bool.eq_iff_iff]
 cases i
 cases j
 simp
section
variable {X:Cx}{a b c:Expr}{ta tb tc:TE}{pos:Pos}
theorem ZG {pins:List (Addr×Obj)}{σ:St}{H:Hp}{s:Shared}{Q:VK}{k k':Bool} (I:Inv X pins σ H s) (q:Q (.bl k) H) (e:k=k'):EP X pins σ Q (.bool k') s:=by
 subst e
 exact⟨.bl k,H,I,rfl,q⟩
theorem ZdU:OpR X (compareOp .Eq) rEq:=by
 intro pins s σ H x y v u Q I rx ry h
 obtain⟨hs,q⟩:=h
 cases x with
 |non =>
  cases rx
  cases y with
  |non=>cases ry;exact PySem.EqNone.eq_none_none (ZG I q (by simp))
  |bl j=>cases ry;exact PySem.EqNone.eq_none_bool (ZG I q (by simp))
  |int j=>obtain⟨t',rfl⟩:=ry;exact PySem.EqNone.eq_none_int (ZG I q (by simp))
  |str j=>obtain⟨t',rfl⟩:=ry;exact PySem.EqNone.eq_none_str (ZG I q (by simp))
  |_=>exact absurd (show false=true from hs) YL
 |bl i =>
  cases rx
  cases y with
  |non=>cases ry;exact PySem.EqNone.eq_bool_none (ZG I q (by simp))
  |bl j=>cases ry;exact eq_bool (ZG I q ZnO)
  |str j=>obtain⟨t',rfl⟩:=ry;exact PySem.EqMixed.eq_bool_str (ZG I q (by simp))
  |_=>exact absurd (show false=true from hs) YL
 |int i =>
  obtain⟨t,rfl⟩:=rx
  cases y with
  |non=>cases ry;exact PySem.EqNone.eq_int_none (ZG I q (by simp))
  |int j=>obtain⟨t',rfl⟩:=ry;exact eq_int (ZG I q ZlE)
  |str j=>obtain⟨t',rfl⟩:=ry;exact PySem.EqMixed.eq_int_str (ZG I q (by simp))
  |_=>exact absurd (show false=true from hs) YL
 |str i =>
  obtain⟨t,rfl⟩:=rx
  cases y with
  |non=>cases ry;exact PySem.EqNone.eq_str_none (ZG I q (by simp))
  |bl j=>cases ry;exact PySem.EqMixed.eq_str_bool (ZG I q (by simp))
  |int j=>obtain⟨t',rfl⟩:=ry;exact PySem.EqMixed.eq_str_int (ZG I q (by simp))
  |str j=>obtain⟨t',rfl⟩:=ry;exact eq_str (ZG I q ZlF)
  |_=>exact absurd (show false=true from hs) YL
 |byt i =>
  obtain⟨t,rfl⟩:=rx
  cases y with
  |byt j=>obtain⟨t',rfl⟩:=ry;exact PySem.W.eq_bytes (ZG I q ZlG)
  |_=>exact absurd (show false=true from hs) YL
 |_=>cases y<;>exact absurd (show false=true from hs) YL
theorem op_ne:OpR X (compareOp .NotEq) rNe:=by
 intro pins s σ H x y v u Q I rx ry h
 obtain⟨hs,q⟩:=h
 cases x with
 |non =>
  cases rx
  cases y with
  |non=>cases ry;exact PySem.EqNone.ne_none_none (ZG I q (by simp))
  |bl j=>cases ry;exact PySem.EqNone.ne_none_bool (ZG I q (by simp))
  |int j=>obtain⟨t',rfl⟩:=ry;exact PySem.EqNone.ne_none_int (ZG I q (by simp))
  |str j=>obtain⟨t',rfl⟩:=ry;exact PySem.EqNone.ne_none_str (ZG I q (by simp))
  |_=>exact absurd (show false=true from hs) YL
 |bl i =>
  cases rx
  cases y with
  |non=>cases ry;exact PySem.EqNone.ne_bool_none (ZG I q (by simp))
  |bl j=>cases ry;exact ne_bool (ZG I q (congrArg not ZnO))
  |str j=>obtain⟨t',rfl⟩:=ry;exact PySem.EqMixed.ne_bool_str (ZG I q (by simp))
  |_=>exact absurd (show false=true from hs) YL
 |int i =>
  obtain⟨t,rfl⟩:=rx
  cases y with
  |non=>cases ry;exact PySem.EqNone.ne_int_none (ZG I q (by simp))
  |int j=>obtain⟨t',rfl⟩:=ry;exact ne_int (ZG I q (congrArg not ZlE))
  |str j=>obtain⟨t',rfl⟩:=ry;exact PySem.EqMixed.ne_int_str (ZG I q (by simp))
  |_=>exact absurd (show false=true from hs) YL
 |str i =>
  obtain⟨t,rfl⟩:=rx
  cases y with
  |non=>cases ry;exact PySem.EqNone.ne_str_none (ZG I q (by simp))
  |bl j=>cases ry;exact PySem.EqMixed.ne_str_bool (ZG I q (by simp))
  |int j=>obtain⟨t',rfl⟩:=ry;exact PySem.EqMixed.ne_str_int (ZG I q (by simp))
  |str j=>obtain⟨t',rfl⟩:=ry;exact ne_str (ZG I q (congrArg not ZlF))
  |_=>exact absurd (show false=true from hs) YL
 |byt i =>
  obtain⟨t,rfl⟩:=rx
  cases y with
  |byt j=>obtain⟨t',rfl⟩:=ry;exact PySem.W.ne_bytes (ZG I q (congrArg not ZlG))
  |_=>exact absurd (show false=true from hs) YL
 |_=>cases y<;>exact absurd (show false=true from hs) YL
theorem ZcB:OpR X (compareOp .Lt) (rI0 λi j=>.bl (decide (i<j))):=opB0 λ_ _ _ _ _ _ _ q=>lt_int q
theorem Zgs:OpR X (compareOp .LtE) (rI0 λi j=>.bl (decide (i<=j))):=opB0 λ_ _ _ _ _ _ _ q=>le_int q
theorem ZcC:OpR X (compareOp .Gt) (rI0 λi j=>.bl (decide (j<i))):=opB0 λ_ _ _ _ _ _ _ q=>gt_int q
theorem Ziw:OpR X (compareOp .GtE) (rI0 λi j=>.bl (decide (j<=i))):=opB0 λ_ _ _ _ _ _ _ q=>ge_int q
theorem ZkQ:OpR X (compareOp .Is) (λx y H Q=>y=.non/\Q (.bl (decide (x=.non))) H):=by
 intro pins s σ H x y v u Q I rx ry h
 obtain⟨rfl,q⟩:=h
 cases ry
 refine is_none_gen (ZG I q ?_)
 cases x<;>first
  |(cases rx;rfl)
  |(obtain⟨t,rfl⟩:=rx;rfl)
theorem Zay:OpR X (compareOp .IsNot) (λx y H Q=>y=.non/\Q (.bl (!decide (x=.non))) H):=by
 intro pins s σ H x y v u Q I rx ry h
 obtain⟨rfl,q⟩:=h
 cases ry
 refine isnot_none_gen (ZG I q ?_)
 cases x<;>first
  |(cases rx;rfl)
  |(obtain⟨t,rfl⟩:=rx;rfl)
theorem Zl (b:Expr) {op:CmpOp} (h:op≠.In:=by decide) (h2:op≠.NotIn:=by decide):behindInMarks op b=false:=by
 have e1:(op==CmpOp.In)=false:=by cases op<;>first|rfl|exact absurd rfl h
 have e2:(op==CmpOp.NotIn)=false:=by cases op<;>first|rfl|exact absurd rfl h2
 cases b<;>simp[behindInMarks,e1,e2]
theorem ZeB {op:CmpOp}{r:R2} (ho:OpR X (compareOp op) r) (ha:PE X a ta) (hb:PE X b tb) (hm:behindInMarks op b=false):PE X (.Compare a [op] [b] pos) (tOp r ta tb):=by
 intro pins s σ H Q I h
 exact wpAny_Compare1 (binT ha hb I h λv u s2 x y H2 I2 rx ry q=>ho pins s2 σ H2 x y v u Q I2 rx ry q) hm
noncomputable def tTest (t:TE):TT:=fun σ H Q=>t σ H λx H'=>∃k,x=.bl k/\Q k H'
theorem Zj {op:CmpOp}{r:R2} (ho:OpR X (compareOp op) r) (ha:PE X a ta) (hb:PE X b tb) (hm:behindInMarks op b=false):PT X (.Compare a [op] [b] pos) (tTest (tOp r ta tb)):=by
 intro pins s σ H Q I h
 refine wpAny_isTrue_Compare1 (thn (ha pins s σ H _ I h) λv s1 ⟨x,H1,I1,r1,q1⟩=>thn (hb pins s1 σ H1 _ I1 q1) λu s2 ⟨y,H2,I2,r2,q2⟩ =>
  thn (ho pins s2 σ H2 x y v u _ I2 r1 r2 q2) λc s3 ⟨z,H3,I3,r3,k,e,q3⟩=>?_) hm
 subst e
 cases r3
 exact wpAny_truthy_bool ⟨H3,I3,q3⟩
noncomputable def tChain (r r':R2) (ta tb tc:TE):TE:=fun σ H Q=>ta σ H λx H1=>tb σ H1 λy H2=>r x y H2 λz H3=>∃k,z=.bl k /\
 (if k=true then tc σ H3 λw' H4=>r' y w' H4 Q else Q (.bl false) H3)
theorem ZnP {op op':CmpOp}{r r':R2} (ho:OpR X (compareOp op) r) (ho':OpR X (compareOp op') r') (ha:PE X a ta) (hb:PE X b tb) (hc:PE X c tc)
  (hm:lastMarks [op,op'] [b,c]=false:=by with_unfolding_all rfl):PT X (.Compare a [op,op'] [b,c] pos) (tTest (tChain r r' ta tb tc)):=by
 intro pins s σ H Q I h
 refine isTrue_chain (thn (ha pins s σ H _ I h) λv s1 ⟨x,H1,I1,r1,q1⟩=>test_link (thn (hb pins s1 σ H1 _ I1 q1) λu s2 ⟨y,H2,I2,r2,q2⟩ =>
  thn (ho pins s2 σ H2 x y v u _ I2 r1 r2 q2) λd s3 ⟨z,H3,I3,r3,k,e,q3⟩=>?_)) hm
 subst e
 cases r3
 refine wpAny_truthy_bool ?_
 cases k with
 |false =>
  obtain⟨k',e',q'⟩:=q3
  cases e'
  exact ite_ff ⟨H3,I3,q'⟩
 |true =>
  refine ite_tt (test_last (thn (hc pins s3 σ H3 _ I3 q3) λw' s4 ⟨z',H4,I4,r4,q4⟩=>thn (ho' pins s4 σ H4 y z' u w' _ I4 r2 r4 q4) λd' s5 ⟨z2,H5,I5,r5,k2,e2,q5⟩=>?_))
  subst e2
  cases r5
  exact wpAny_truthy_bool ⟨H5,I5,q5⟩
theorem Zi1:(sizeLine:Nat)<2 ^ 63:=by rw[sizeLine_eq];decide
theorem vals1 {x:V}{us:List Value} (r:Vals [x] us):∃u,us=[u]/\RelV x u:=by
 cases r with
 |cons r1 r2=>cases r2;exact⟨_,rfl,r1⟩
theorem vals2 {x y:V}{us:List Value} (r:Vals [x,y] us):∃u w',us=[u,w']/\RelV x u/\RelV y w':=by
 cases r with
 |cons r1 r2 =>
  cases r2 with
  |cons r3 r4=>cases r4;exact⟨_,_,rfl,r1,r3⟩
theorem Zms (hc:X.calm=true):Zax X (.builtin "max") (λxs H Q=>∃i j,xs=[.int i,.int j]/\Q (.int (if j>i then j else i)) H):=by
 intro pins s σ H xs us Q I r h
 obtain⟨i,j,rfl,q⟩:=h
 obtain⟨u,w',rfl,⟨t,rfl⟩,⟨t',rfl⟩⟩:=vals2 r
 refine max_two_ints (I.ok.hd hc) λh' tk k=>⟨_,H,I.kept k,?_,q⟩
 by_cases hj:j>i
 .rw[Yd hj,Yd hj];exact⟨_,rfl⟩
 .rw[Yb hj,Yb hj];exact⟨_,rfl⟩
theorem Zmt (hc:X.calm=true):Zax X (.builtin "min") (λxs H Q=>∃i j,xs=[.int i,.int j]/\Q (.int (if j<i then j else i)) H):=by
 intro pins s σ H xs us Q I r h
 obtain⟨i,j,rfl,q⟩:=h
 obtain⟨u,w',rfl,⟨t,rfl⟩,⟨t',rfl⟩⟩:=vals2 r
 refine min_two_ints (I.ok.hd hc) λh' tk k=>⟨_,H,I.kept k,?_,q⟩
 by_cases hj:j<i
 .rw[Yd hj,Yd hj];exact⟨_,rfl⟩
 .rw[Yb hj,Yb hj];exact⟨_,rfl⟩
end
structure ObjM (h:Heap) (x dx C:Addr) (mA:Str->Option Value):Prop where
 obj:h.get? x=some (PySem.W.instObj C dx)
 ns:h.Ns1 dx mA
 ne:dx≠x
theorem Zmu {h:Heap}{dx:Addr}{mA:Str->Option Value} (n:h.Ns1 dx mA):∃od,h.get? dx=some od/\∀name,PySem.W.lookIn name od=some (mA name):=by
 obtain⟨o,es,ep,ho,hd,hk,_,hm⟩:=n
 refine⟨o,ho,λname=>?_⟩
 have e:=hm name
 unfold nsFind findBy at e
 rw[<-Array.find?_toList]at e
 unfold PySem.W.lookIn
 rw[hd]
 dsimp only
 split
 .rename_i y q
  rw[q]at e
  exact congrArg some e
 .rename_i q
  rw[q]at e
  have a:es.toList.any (·.refKey)=false:=by
   rw[List.any_eq_false]
   intro y hy
   obtain⟨z,t,hkey⟩:=hk y (Array.mem_toList_iff.mp hy)
   simp[DictEntry.refKey,hkey]
  have a':¬ es.toList.any (·.refKey)=true:=by rw[a];exact YL
  rw[Yb a']
  exact congrArg some e
theorem ObjM.look {h:Heap}{x dx C:Addr}{mA:Str->Option Value} (I:ObjM h x dx C mA):∃od,PySem.W.InstAt h x (PySem.W.instObj C dx) C (some od)/\∀name,PySem.W.lookIn name od=some (mA name) :=
 let ⟨od,ho,hl⟩:=Zmu I.ns
 ⟨od,⟨I.obj,rfl,rfl,ho⟩,hl⟩
noncomputable def putF (f:Str) (v:V):List (Str×V)->List (Str×V)
 |[]=>[(f,v)]
 |(g,x)::r=>if g=f then (g,v)::r else (g,x)::putF f v r
theorem Zhd.some_of {v:V}{o:Option Value} (r:Zhd (some v) o):∃u,o=some u/\RelV v u:=by
 cases o with
 |none=>exact(show False from r).elim
 |some u=>exact⟨u,rfl,r⟩
section
variable {P:Program}{w:World}{H H':Hp}{h h':Heap}{a C dx:Addr}{fs fs':List (Str×V)}
theorem ZlH (hok:HOk P w H h) (e:H a=some (.ins C dx fs)):∃mA,ObjM h a dx C mA/\(∀f,Zhd (fs.lookup f) (mA f))/\PySem.Within mA (fs.map (·.1))/\fs.length<=1000/\H dx=some (.own a):=by
 obtain⟨d,z,ne,ob,mA,n,r,q⟩:=(show ZO P w H h a (.ins C dx fs)from hok a _ e)
 exact⟨mA,⟨ob,n,ne⟩,r,q,z,d⟩
end
structure Cls (K:PySem.W.Frag) (C:Addr):Prop where
 pg:PySem.W.plainGet K C Str.empty=true
 hd:PySem.W.hasDictIn K C=true
 po:PySem.W.plainOver K C=true
 sa:PySem.W.findIn K (.ref C) "__setattr__"=some (some (.builtin "object.__setattr__"))
theorem Cls.get {K:PySem.W.Frag}{C:Addr} (c:Cls K C) (f:Str):PySem.W.plainGet K C f=true:=c.pg
section
variable {X:Cx}{pins:List (Addr×Obj)}{σ:St}{H:Hp}{s:Shared}{A:Around}{E:Value->Shared->Prop}{Q:Value->Shared->Prop}{c:Value}{b:Bool}
inductive TyOf (K:PySem.W.Frag) (H:Hp):V->Value->Prop where
 |non:TyOf K H .non (.type "NoneType")
 |bl (x:Bool):TyOf K H (.bl x) (.type "bool")
 |int (i:Int):TyOf K H (.int i) (.type "int")
 |str (x:Str):TyOf K H (.str x) (.type "str")
 |flt (x:UInt64):TyOf K H (.flt x) (.type "float")
 |lst {a:Addr}{xs:List V} (e:H a=some (.lst xs)):TyOf K H (.ref a) (.type "list")
 |frz {a:Addr}{o:Obj}{xs:List V} (e:H a=some (.frz o (.lst xs))):TyOf K H (.ref a) (.type "list")
 |tup {a:Addr}{xs:List V} (e:H a=some (.tup xs)):TyOf K H (.ref a) (.type "tuple")
 |dK {a:Addr}{kvs:List (Key×V)} (e:H a=some (.dK kvs)):TyOf K H (.ref a) (.type "dict")
 |dT {a:Addr}{kvs:List (List Key×V)} (e:H a=some (.dT kvs)):TyOf K H (.ref a) (.type "dict")
 |ins {a C dx:Addr}{fs:List (Str×V)} (e:H a=some (.ins C dx fs)) (cl:Cls K C) (ha:PySem.W.findIn K (.ref C) "__class__"=some (some (.builtin "object.__class__")))
   (hn:PySem.W.specialIn K (.builtin "object.__class__") "__get__"=some (some (.builtin "getset_descriptor.__get__"))) (htk:PySem.W.takesIn K (.builtin "object.__class__")=some true)
   (hm:PySem.W.mroIn K C (.type "object")=some true):TyOf K H (.ref a) (.ref C)
theorem Zmv {x:V}{u t:Value} (I:Inv X pins σ H s) (rx:RelV x u) (ty:TyOf X.K H x t) (e:PySem.W.kitOne X.K t c=some b) (h:∀tk,Q (.bool b) {s with toks:=tk}) :
  wpAny (model X.prog X.w) A (call (.builtin "isinstance") [u,c]) Q E s:=by
 cases ty with
 |non=>cases(show u=Value.none from rx);exact PySem.W.kia_one PySem.W.kitx_none I.kIn True.intro e (λz=>nomatch z) h
 |bl y=>cases(show u=Value.bool y from rx);exact PySem.W.kia_one PySem.W.kitx_bool I.kIn True.intro e (λz=>nomatch z) h
 |int i=>obtain⟨t,q⟩:=(show ∃t,u=Value.int i t from rx);cases q;exact PySem.W.kia_one PySem.W.kitx_int I.kIn True.intro e (λz=>nomatch z) h
 |str y=>obtain⟨t,q⟩:=(show ∃t,u=Value.str y t from rx);cases q;exact PySem.W.kia_one PySem.W.kitx_str I.kIn True.intro e (λz=>nomatch z) h
 |flt y=>obtain⟨t,q⟩:=(show ∃t,u=Value.float y t from rx);cases q;exact PySem.W.kia_one PySem.W.kitx_float I.kIn True.intro e (λz=>nomatch z) h
 |@lst a xs ea =>
  cases(show u=Value.ref a from rx)
  obtain⟨_,_,n,_,h1⟩:=(show ZO X.prog X.w H s.heap a (.lst xs)from I.hok a _ ea)
  exact PySem.W.kia_one PySem.W.kitx_list I.kIn ⟨_,h1,rfl⟩ e (λz=>nomatch z) h
 |@frz a ob xs ea =>
  cases(show u=Value.ref a from rx)
  obtain⟨_,_,_,n,_,h1⟩:=(show ZO X.prog X.w H s.heap a (.frz ob (.lst xs))from I.hok a _ ea)
  exact PySem.W.kia_one PySem.W.kitx_list I.kIn ⟨_,h1,rfl⟩ e (λz=>nomatch z) h
 |@tup a xs ea =>
  cases(show u=Value.ref a from rx)
  obtain⟨_,_,_,p⟩:=(show ZO X.prog X.w H s.heap a (.tup xs)from I.hok a _ ea)
  obtain⟨o,h1,h2,_⟩:=p
  exact PySem.W.kia_one PySem.W.kitx_tuple I.kIn ⟨o,h1,h2⟩ e (λz=>nomatch z) h
 |@dK a kvs ea =>
  cases(show u=Value.ref a from rx)
  obtain⟨_,_,vs,_,p⟩:=(show ZO X.prog X.w H s.heap a (.dK kvs)from I.hok a _ ea)
  obtain⟨o,es,ep,h1,h2,_⟩:=p
  exact PySem.W.kia_one PySem.W.kitx_dict I.kIn ⟨o,h1,h2.1⟩ e (λz=>nomatch z) h
 |@dT a kvs ea =>
  cases(show u=Value.ref a from rx)
  obtain⟨_,_,xs,_,o,es,ep,h1,h2,_⟩:=(show ZO X.prog X.w H s.heap a (.dT kvs)from I.hok a _ ea)
  exact PySem.W.kia_one PySem.W.kitx_dict I.kIn ⟨o,h1,h2.1⟩ e (λz=>nomatch z) h
 |@ins a C dx fs ea cl ha hn htk hm =>
  cases(show u=Value.ref a from rx)
  obtain⟨mA,O,_⟩:=ZlH I.hok ea
  obtain⟨od,J,_⟩:=O.look
  exact PySem.W.kia_one (PySem.W.kitx_own (cl.get _) cl.hd ha hn htk hm) I.kIn J e (λz=>nomatch z) h
end
structure Room (k:Nat) (A:Around):Prop where
 hd:A.handled=none
 dp:A.depth+3*k+5<recursionLimit
 un:A.units+16*k+200<cLine
theorem Room.mono {j k:Nat}{A:Around} (r:Room k A) (h:j<=k):Room j A:=⟨r.hd,by have:=r.dp;omega,by have:=r.un;omega⟩
theorem Room.deeper {k:Nat}{A:Around} (r:Room (k+1) A) (env:Env):Room k (A.deeper env) :=
 ⟨r.hd,by have:=r.dp;show A.depth+1+3*k+5 < _;omega,by have:=r.un;show A.units+3+16*k+200 < _;omega⟩
theorem Room.in1 {k:Nat}{A:Around} (r:Room (k+1) A):Room k A.in1 :=
 ⟨r.hd,by have:=r.dp;show A.depth+3*k+5 < _;omega,by have:=r.un;show A.units+1+16*k+200 < _;omega⟩
theorem Room.depth {k:Nat}{A:Around} (r:Room k A):A.depth<recursionLimit:=by have:=r.dp;omega
theorem Room.units {k:Nat}{A:Around} (r:Room k A):A.units+64<cLine:=by have:=r.un;omega
noncomputable def tNil:TA:=λ_ H Q=>Q [] H
noncomputable def tCons (ta:TE) (tr:TA):TA:=fun σ H Q=>ta σ H λx H1=>tr σ H1 λxs H2=>Q (x::xs) H2
section
variable {X:Cx}{e:Expr}{es:List Expr}{te:TE}{t:TA}{pos:Pos}
theorem Zb:PA X [] tNil:=λ_ _ _ _ H Q I h=>Calls.spliced_nil ⟨[],H,I,.nil,h⟩
theorem Za (ha:PE X e te) (hr:PA X es t) (hs:starEach (e::es) X.env=(false,eval e X.env)::starEach es X.env:=by rfl):PA X (e::es) (tCons te t):=by
 intro pos pins s σ H Q I h
 rw[hs]
 show wpAny _ _ (spliced ((false,eval e X.env)::backTo pos (starEach es X.env))) _ _ s
 refine Calls.spliced_cons (thn (ha pins s σ H _ I h) λu s1 ⟨x,H1,I1,r1,q1⟩=>?_)
 exact thn (hr pos pins s1 σ H1 _ I1 q1) λus s2 ⟨xs,H2,I2,r2,q2⟩=>⟨x::xs,H2,I2,.cons r1 r2,q2⟩
noncomputable def tTup (t:TA):TE:=fun σ H Q=>t σ H λxs H1=>xs.length<=sizeLine/\∀p,H1 p=none->Q (.ref p) (upd H1 p (.tup xs))
noncomputable def tLst (t:TA):TE:=fun σ H Q=>t σ H λxs H1=>xs.length<=sizeLine/\∀p,H1 p=none->Q (.ref p) (upd H1 p (.lst xs))
theorem Zaw {x1} (h:PA X es t):PE X (.Tuple es x1 pos) (tTup t):=by
 intro pins s σ H Q I hq
 refine wpAny_Tuple_spliced (thn (h pos pins s σ H _ I hq) λus s1 ⟨xs,H1,I1,r,z,q⟩=>⟨by rw[<-r.length];exact z,?_⟩)
 have hf:H1 s1.heap.objs.size=none:=I1.hok.fresh (Ye _)
 refine⟨.ref s1.heap.objs.size,upd H1 s1.heap.objs.size (.tup xs),I1.laid (t':=s1.toks) (λb u e=>Yk _ e) (Ye _) ?_,rfl,q _ hf⟩
 exact⟨z,us,r,⟨_,Yv _ rfl,rfl,_,rfl⟩⟩
theorem ZQ (h:PA X es t):PE X (.List es pos) (tLst t):=by
 intro pins s σ H Q I hq
 refine wpAny_List_spliced (thn (h pos pins s σ H _ I hq) λus s1 ⟨xs,H1,I1,r,z,q⟩=>⟨by rw[<-r.length];exact z,?_⟩)
 have hf:H1 s1.heap.objs.size=none:=I1.hok.fresh (Ye _)
 refine⟨.ref s1.heap.objs.size,upd H1 s1.heap.objs.size (.lst xs),I1.laid (t':=s1.toks) (λb u e=>Yk _ e) (Ye _) ?_,rfl,q _ hf⟩
 exact⟨z,us,0,r,Yv _ rfl⟩
end
noncomputable abbrev Sp:=List V->Hp->VK->XK->Prop
noncomputable abbrev CXT:=List Env->Hp->Shared->XK->Value->Shared->Prop
structure Env0 (P:Program) (w:World) (K:PySem.W.Frag) (mg:Str->Option Value) (base:Heap) (A:Around) (outer:List Env) (s:Shared) (H:Hp):Prop where
 frames:A.frames=some outer
 mod:Mod K mg base
 bs:∀b o,base.get? b=some o->s.heap.get? b=some o/\H b=none
 bsz:base.objs.size<=s.heap.objs.size
 funs:s.heap.FunFrames base outer
 frf:∀b∈frs outer,H b=none
 hok:HOk P w H s.heap
 bare:AllBare s.gens
noncomputable def CE (outer:List Env) (P:Program) (w:World) (H:Hp) (s:Shared) (Q:VK) (u:Value) (s':Shared):Prop :=
 ∃v H',s'.os=s.os/\AllBare s'.gens/\Un (frs outer) [] H H' s.heap s'.heap/\HOk P w H' s'.heap/\RelV v u/\Q v H'
noncomputable def CR (CX:CXT) (outer:List Env) (P:Program) (w:World) (H:Hp) (s:Shared) (Q:VK) (E:XK) (r:Result) (s':Shared):Prop :=
 match r with
 |.ok (.ret u)=>CE outer P w H s Q u s'
 |.ok _=>False
 |.error e=>CX outer H s E e s'
structure FnOk (P:Program) (w:World) (K:PySem.W.Frag) (mg:Str->Option Value) (base:Heap) (CX:CXT) (k:Nat) (f:Addr) (fd:FuncData) (ps:List Str) (sp:Sp):Prop where
 len:∀vs H Q E,sp vs H Q E->vs.length=ps.length
 run:∀(A:Around) (outer:List Env) (s:Shared) (H:Hp) (args:Args) (us:List Value) (vs:List V) (Q:VK) (E:XK),Room k A->Env0 P w K mg base A outer s H->BindsTo s fd args (ps.zip us)->Vals vs us->sp vs H Q E ->
  codeAny (model P w) A (.call (.ref f) args) (CR CX outer P w H s Q E) s
section
variable {X:Cx}{pins:List (Addr×Obj)}{σ:St}{H:Hp}{s s':Shared}
theorem Inv.env0 (I:Inv X pins σ H s):Env0 X.prog X.w X.K X.mg X.base X.A X.stack s H :=
 ⟨I.ok.frames,I.ok.mod,I.bs,Yn I.ok.bsz I.sz,I.stack,I.Zg2,I.hok,I.bare⟩
theorem Inv.after {Q:VK}{u:Value} (I:Inv X pins σ H s) (h:CE X.stack X.prog X.w H s Q u s'):EP X pins σ Q u s':=by
 obtain⟨v,H',os,bare,un,hok,r,q⟩:=h
 obtain⟨hh,g,d,t,os'⟩:=s'
 obtain rfl:os'=s.os:=os
 exact⟨v,H',I.call (h':=hh) (g':=g) (d':=d) (t':=t) (ch:=[]) un hok bare (λb z=>absurd z (by simp)),r,q⟩
end
noncomputable def tCall (sp:Sp) (dvs:List V) (E:XK) (t:TA):TE:=fun σ H Q=>t σ H λvs H1=>sp (vs++dvs) H1 Q E
noncomputable def Binds (K:PySem.W.Frag) (fd:FuncData) (ps:List Str) (ds:List Value):Prop :=
 ∀(s:Shared) (us:List Value),K.In s.heap->(us++ds).length=ps.length->BindsTo s fd ⟨us,[]⟩ (ps.zip (us++ds))
theorem Binds.all {K:PySem.W.Frag}{fd:FuncData}{ps:List Str} (h:∀us:List Value,us.length=ps.length->bindArgs fd ⟨us,[]⟩=pure (ps.zip us)):Binds K fd ps []:=λs us _ hl=>by
 rw[List.append_nil]at hl⊢
 exact .of_eq (h us hl)
noncomputable def Passes (CX:CXT) (X:Cx) (E:XK):Prop:=∀(pins:List (Addr×Obj)) (σ:St) (H:Hp) (s:Shared) (e:Value) (s':Shared),Inv X pins σ H s->CX X.stack H s E e s'->X.xe e s'
section
variable {X:Cx}{CX:CXT}{k:Nat}{f C:Addr}{fd:FuncData}{ps:List Str}{sp:Sp}{dvs:List V}{ds:List Value}{E:XK}{x m:Str}{p pos apos:Pos}{e o:Expr}{es:List Expr}{ta:TE}{t:TA}
theorem run_fn {pins:List (Addr×Obj)}{σ:St}{H:Hp}{s:Shared}{Q:VK}{us:List Value}{vs:List V} (F:FnOk X.prog X.w X.K X.mg X.base CX k f fd ps sp) (hr:Room k X.A) (hb:Binds X.K fd ps ds) (hd:Vals dvs ds) (hx:Passes CX X E)
  (I:Inv X pins σ H s) (r:Vals vs us) (h:sp (vs++dvs) H Q E):wpAny (model X.prog X.w) X.A (call (.ref f) us) (EP X pins σ Q) X.xe s:=by
 have r2:Vals (vs++dvs) (us++ds):=r.append hd
 have hl:(us++ds).length=ps.length:=by rw[<-r2.length];exact F.len _ _ _ _ h
 refine wpAny_call (codeAny_mono (F.run X.A X.stack s H ⟨us,[]⟩ (us++ds) (vs++dvs) Q E hr I.env0 (hb s us I.kIn hl) r2 h) λr s' hq=>?_)
 cases r with
 |error e=>exact hx pins σ H s e s' I hq
 |ok fl =>
  cases fl with
  |ret u=>exact I.after hq
  |next=>exact False.elim hq
  |brk=>exact False.elim hq
  |cont=>exact False.elim hq
theorem ZlI (F:FnOk X.prog X.w X.K X.mg X.base CX k f fd ps sp) (hr:Room k X.A) (hg:Gl X x) (hm:X.mg x=some (.ref f)) (hk:PySem.W.keepIn X.K (.ref f)=true) (hb:Binds X.K fd ps ds) (hd:Vals dvs ds) (hx:Passes CX X E)
  (ha:PA X (e::es) t) (hdb:(x==("__debug__":Str))=false:=by decide) (he:starEach (e::es) X.env=(false,eval e X.env)::starEach es X.env:=by rfl) (hpl:(backTo pos (starEach es X.env)).any (·.1)=false:=by rfl) :
  PE X (.Call (.Name x p) (e::es) [] pos) (tCall sp dvs E t):=by
 intro pins s σ H Q I h
 refine wpAny_Call_Name_kw (Zff I hg hm ?_ hdb)
 refine PySem.W.callWith_K (h₀:=X.base) I.ok.mod.kin hk (thn (ha pos pins s σ H _ I h) λus s1 ⟨vs,H1,I1,r,q⟩=>⟨I1.kIn,?_⟩) he hpl
 exact run_fn F hr hb hd hx I1 r q
end
noncomputable def PK (X:Cx) (kws:List Keyword) (t:TA):Prop :=
 ∀(pos:Pos) (pins:List (Addr×Obj)) (s:Shared) (σ:St) (H:Hp) (Q:List V->Hp->Prop),Inv X pins σ H s->t σ H Q->wpAny (model X.prog X.w) X.A (evalAll ((backToKw pos (keywordEach kws X.env)).map (·.2))) (AP X pins σ Q) X.xe s
section
variable {X:Cx}{CX:CXT}{k:Nat}{f C:Addr}{fd:FuncData}{ps ks:List Str}{sp:Sp}{E:XK}{x m:Str}{p pos apos kpos:Pos}{e o:Expr}{es:List Expr}{kws:List Keyword}{te ta:TE}{t tk:TA}{nm:Option Str}
theorem Zi2:PK X [] tNil:=λ_ _ _ _ H Q I h=>wpAny_evalAll_nil ⟨[],H,I,.nil,h⟩
theorem ZcP (ha:PE X e te) (hr:PK X kws t):PK X (⟨nm,e,kpos⟩::kws) (tCons te t):=by
 intro pos pins s σ H Q I h
 show wpAny _ _ (evalAll ((do let v <-eval e X.env;standAt pos;pure v)::(backToKw pos (keywordEach kws X.env)).map (·.2))) _ _ s
 refine wpAny_evalAll_cons (Ya (thn (ha pins s σ H _ I h) λu s1 ⟨x,H1,I1,r1,q1⟩=>Ya (wpAny_standAt (Yc ?_))))
 exact thn (hr pos pins s1 σ H1 _ I1 q1) λus s2 ⟨xs,H2,I2,r2,q2⟩=>⟨x::xs,H2,I2,.cons r1 r2,q2⟩
variable {g:List Value->List Value->List Value}{gV:List V->List V->List V}
end
structure FnScope (N P:List Str) (sc:Scope):Prop where
 kind:sc.kind=.function
 co:sc.isCoroutine=false
 gen:sc.isGenerator=false
 nd:N.Nodup
 pre:N.take P.length=P
 par:∀x∈P,sc.names.lookup x=some .local\/sc.names.lookup x=some .cell
 nofree:∀y∈sc.names,y.2≠.free
theorem Zix {kindOf:Str->Option NameKind}{x:Str}:∀{binds:List (Str×Value)}{m:Str->Option Value},(∀v,(x,v)∉binds)->bindL kindOf binds m x=m x
 |[],_,_=>rfl
 |(n,v)::r,m,h=>by
  unfold bindL
  rw[Zix λw hw=>h w (Yz _ hw)]
  split
  .have:x≠n:=by rintro rfl;exact h v Yy
   simp[this]
  .rfl
theorem Ziy {kindOf:Str->Option NameKind}{x:Str}:∀{binds:List (Str×Value)}{m:Str->Option Value},(∀v,(x,v)∉binds)->bindC kindOf binds m x=m x
 |[],_,_=>rfl
 |(n,v)::r,m,h=>by
  unfold bindC
  rw[Ziy λw hw=>h w (Yz _ hw)]
  split
  .rfl
  .have:x≠n:=by rintro rfl;exact h v Yy
   simp[this]
theorem Ziz {kindOf:Str->Option NameKind}{x:Str}{v:Value}:∀{P:List Str}{vs:List Value}{i:Nat}{m:Str->Option Value},P.Nodup->P[i]?=some x->vs[i]?=some v->kindOf x=some .local ->
  bindL kindOf (P.zip vs) m x=some v
 |[],_,_,_,_,h,_,_=>by simp at h
 |_::_,[],_,_,_,_,h,_=>by simp at h
 |p::P,w::vs,0,m,nd,h1,h2,hk=>by
  simp at h1 h2;subst h1;subst h2
  show bindL kindOf ((p,w)::P.zip vs) m p=_
  unfold bindL
  rw[Zix λv hv=>(List.nodup_cons.mp nd).1 (List.of_mem_zip hv).1,Yd hk]
  simp
 |p::P,w::vs,i+1,m,nd,h1,h2,hk=>by
  show bindL kindOf ((p,w)::P.zip vs) m x=_
  unfold bindL
  exact Ziz (i:=i) (List.nodup_cons.mp nd).2 (by simpa using h1) (by simpa using h2) hk
theorem ZiA {kindOf:Str->Option NameKind}{x:Str}{v:Value}:∀{P:List Str}{vs:List Value}{i:Nat}{m:Str->Option Value},P.Nodup->P[i]?=some x->vs[i]?=some v->kindOf x≠some .local ->
  bindC kindOf (P.zip vs) m x=some v
 |[],_,_,_,_,h,_,_=>by simp at h
 |_::_,[],_,_,_,_,h,_=>by simp at h
 |p::P,w::vs,0,m,nd,h1,h2,hk=>by
  simp at h1 h2;subst h1;subst h2
  show bindC kindOf ((p,w)::P.zip vs) m p=_
  unfold bindC
  rw[Ziy λv hv=>(List.nodup_cons.mp nd).1 (List.of_mem_zip hv).1,Yb hk]
  simp
 |p::P,w::vs,i+1,m,nd,h1,h2,hk=>by
  show bindC kindOf ((p,w)::P.zip vs) m x=_
  unfold bindC
  exact ZiA (i:=i) (List.nodup_cons.mp nd).2 (by simpa using h1) (by simpa using h2) hk
noncomputable def start (N:List Str) (vs:List V):St:=vs.map some++List.replicate (N.length-vs.length) none
noncomputable def ZeX (CX:CXT) (P:Program) (w:World) (K:PySem.W.Frag) (mg:Str->Option Value) (base:Heap) (N:List Str) (qual:Str) (scope:Scope) (f:Addr) (cd:Value) (A:Around) (outer:List Env) (s:Shared) (H:Hp) (E:XK):Cx where
 prog:=P
 w:=w
 K:=K
 mg:=mg
 base:=base
 A:=A.deeper (envOfC qual scope s.heap.objs.size f cd)
 N:=N
 s₀:=s
 H₀:=H
 env:=envOfC qual scope s.heap.objs.size f cd
 outer:=outer
 stack:=envOfC qual scope s.heap.objs.size f cd::outer
 ex:=[]
 calm:=true
 fn:=λ_=>true
 pn:=[]
 xe:=λe s'=>wpAny (model P w) (A.deeper (envOfC qual scope s.heap.objs.size f cd)) (leaving (envOfC qual scope s.heap.objs.size f cd) e) (λ_ s''=>CX outer H s E e s'') (λe' s''=>CX outer H s E e' s'') s'
theorem ZjW {sc:Scope}{n:Nat}{x:Str} (h:sc.names.lookup x=some .cell):∃c,(cellsFrom n sc.names []).lookup x=some c:=by
 have q:=PySem.W.cellsFrom_some sc.names n [] (.inl h)
 exact Option.isSome_iff_exists.mp q
theorem Zmw {CX:CXT}{P:Program}{w:World}{K:PySem.W.Frag}{mg:Str->Option Value}{base:Heap}{N ps:List Str}{qual:Str}{scope:Scope}{f:Addr}{cd:Value}{A:Around}{outer:List Env}{s s1:Shared}{H:Hp}{E:XK}{us:List Value}{vs:List V}
  (S:FnScope N ps scope) (hd:A.handled=none) (e0:Env0 P w K mg base A outer s H) (hl:vs.length=ps.length) (r:Vals vs us)
  (x:InCallC s s.heap.objs.size (bindL (envOfC qual scope s.heap.objs.size f cd).kindOf (ps.zip us) λ_=>none) (cellsFrom (s.heap.objs.size+1) scope.names []) (bindC (envOfC qual scope s.heap.objs.size f cd).kindOf (ps.zip us) λ_=>none) s1) :
  Inv (ZeX CX P w K mg base N qual scope f cd A outer s H E) [] (start N vs) H s1:=by
 have hpl:ps.length<=N.length:=by have:=congrArg List.length S.pre;rw[Y4]at this;omega
 obtain⟨h1,tk,rfl,hk⟩:=x.done
 have noA:∀b:Addr,b∉(ZeX CX P w K mg base N qual scope f cd A outer s H E).ex:=λb z=>absurd (show b∈([]:List Addr)from z) (by simp)
 refine⟨⟨e0.mod,S.kind,rfl,rfl,Ye _,λy z c h1 h2=>?_,λy hy=>?_,λy c _ h=>?_,λ_=>hd,Around.frames_deeper e0.frames,.inr ⟨rfl,rfl⟩,λb z=>absurd z (noA b),e0.bs,e0.bsz,λb _ _=>noA b,λb z=>absurd z (noA b),e0.funs,e0.frf⟩,
  rfl,e0.bare,Un.kept hk,⟨_,x.toInCall.ns,λi y v h1 h2 h3=>?_⟩,λy c h=>⟨_,x.cell y c h⟩,e0.hok.fresh (Ye _),λy c h=>?_,λp hp=>absurd (show p∈([]:List (Addr×Obj))from hp) (by simp),e0.hok.kept hk,?_⟩
 .exact name_of_addr x.apart (PySem.mem_of_lookup h1) (PySem.mem_of_lookup h2)
 .have hy:scope.names.lookup y=some .cell\/scope.names.lookup y=some .free:=hy
  rcases hy with hy|hy
  .exact ZjW hy
  .exact absurd rfl (S.nofree _ (PySem.mem_of_lookup hy))
 .exact Y3 (x.above y c (PySem.mem_of_lookup h))
 .have hi:i<vs.length:=by
   unfold start at h2
   by_cases hi:i<vs.length
   .exact hi
   .rw[YV (by simpa using hi)]at h2
    rw[List.getElem?_replicate]at h2
    split at h2<;>cases h2
  have ha:vs[i]?=some v:=by
   unfold start at h2
   rw[Y5 (by simpa using hi),YG]at h2
   cases e:vs[i]? with
   |none=>rw[e]at h2;cases h2
   |some a=>rw[e]at h2;cases h2;rfl
  obtain⟨u,hu,rv⟩:=r.get ha
  have hp:ps[i]?=some y:=by
   rw[<-S.pre,List.getElem?_take_of_lt ⋯];exact h1
  have ndP:ps.Nodup:=by rw[<-S.pre];exact S.nd.sublist (List.take_sublist _ _)
  refine⟨u,rv,?_⟩
  rcases S.par y (List.mem_of_getElem? hp)with k|k
  .exact .inl ⟨k,Ziz ndP hp hu k⟩
  .obtain⟨c,e⟩:=ZjW (n:=s.heap.objs.size+1) k
   refine .inr ⟨.inl k,c,e,?_⟩
   have q:=x.cell y c e
   rw[ZiA ndP hp hu (by show scope.names.lookup y≠_;rw[k];decide)]at q
   exact q
 .exact e0.hok.fresh (Y3 (x.above y c (PySem.mem_of_lookup h)))
 .unfold start
  show _=N.length
  rw[YQ,Yh,List.length_replicate]
  omega
theorem ZnQ {CX:CXT}{P:Program}{w:World}{K:PySem.W.Frag}{mg:Str->Option Value}{base:Heap}{k:Nat}{f:Addr}{name qual:Str}{params:Arguments}{body:List Stmt}{scope:Scope}{dV kV doc pm cdv ct oc:Value}{an od:Option Addr}
  {osl:Array (Option Value)}{N ps:List Str}{sp:Sp} (lk:K.lookup f=some ⟨oc,od,.func (PySem.W.fnOf name qual params body scope dV kV doc pm an cdv ct),osl⟩) (hcd:PySem.W.codeIn K cdv qual=true) (S:FnScope N ps scope)
  (len:∀vs H Q E,sp vs H Q E->vs.length=ps.length)
  (hbody:∀(A:Around) (outer:List Env) (s:Shared) (H:Hp) (vs:List V) (Q:VK) (E:XK),Room k (A.deeper (envOfC qual scope s.heap.objs.size f cdv))->sp vs H Q E ->
   ∃t,PSs (ZeX CX P w K mg base N qual scope f cdv A outer s H E) body t/\t {nx:=λ_ H'=>Q .non H',rt:=Q} (start N vs) H) :
  FnOk P w K mg base CX (k+1) f (PySem.W.fnOf name qual params body scope dV kV doc pm an cdv ct) ps sp:=by
 refine⟨len,λA outer s H args us vs Q E hr e0 hb r hsp=>?_⟩
 have hl:=len _ _ _ _ hsp
 have KX:K.In s.heap:=e0.mod.kin.keeps λb o e=>(e0.bs b o e).1
 have lim:s.heap.NoLimit:=e0.mod.nolimit.keeps λb o e=>(e0.bs b o e).1
 have hkind:∀y∈ps.zip us,scope.names.lookup y.1=some .local\/(scope.names.lookup y.1=some .cell/\((cellsFrom (s.heap.objs.size+1) scope.names []).lookup y.1).isSome=true):=λ⟨n,v⟩ hy=>by
  rcases S.par n (List.of_mem_zip hy).1 with q|q
  .exact .inl q
  .exact .inr ⟨q,PySem.W.cellsFrom_some _ _ _ (.inl q)⟩
 refine codeAny_call_function hr.depth (KX _ _ lk) rfl S.co S.gen rfl (PySem.W.codeRec_of KX hcd) (hb _ _ _ _ ?_)
 refine wpAny_newFunctionEnv_cells S.kind hkind λenv he s1 x=>?_
 subst he
 refine⟨lim.keeps x.toInCall.keep,codeAny_func ?_⟩
 obtain⟨t,ht,hq⟩:=hbody A outer s H vs Q E (hr.deeper _) hsp
 have I:Inv (ZeX CX P w K mg base N qual scope f cdv A outer s H E) [] (start N vs) H s1:=Zmw S hr.hd e0 hl r x
 refine YM (ht [] s1 (start N vs) H _ I hq) (λfl s' hs=>?_) λe s' hs=>hs
 have fin:∀{σ':St}{H':Hp}{v:V}{u:Value},Inv (ZeX CX P w K mg base N qual scope f cdv A outer s H E) [] σ' H' s'->RelV v u->Q v H'->CE outer P w H s Q u s' :=
  λ{σ' H' v u} J rv q=>⟨v,H',J.os,J.bare,J.base,J.hok,rv,q⟩
 cases fl with
 |ret u =>
  obtain⟨v,σ',H',J,rv,q⟩:=hs
  exact fin J rv q
 |next =>
  obtain⟨σ',H',J,q⟩:=hs
  exact fin (v:=V.non) (u:=Value.none) J rfl q
 |brk =>
  obtain⟨_,_,_,q⟩:=hs
  exact False.elim q
 |cont =>
  obtain⟨_,_,_,q⟩:=hs
  exact False.elim q
section
variable {X:Cx}{x:Str}{p pos:Pos}{e:Expr}{es:List Expr}{t:TA}{id T:String}{r:List V->Hp->VK->Prop}
noncomputable def tCB (r:List V->Hp->VK->Prop) (t:TA):TE:=fun σ H Q=>t σ H λvs H1=>r vs H1 Q
theorem Zk (hc:Zax X (.builtin id) r) (hg:Gl X x) (hm:X.mg x=none) (hv:bootBuiltins x=some (.builtin id)) (ha:PA X (e::es) t) (hn:x≠"__name__":=by decide) (hdb:(x==("__debug__":Str))=false:=by decide)
  (he:starEach (e::es) X.env=(false,eval e X.env)::starEach es X.env:=by rfl) (hpl:(backTo pos (starEach es X.env)).any (·.1)=false:=by rfl):PE X (.Call (.Name x p) (e::es) [] pos) (tCB r t):=by
 intro pins s σ H Q I h
 refine wpAny_Call_Name_kw (ZaF I hg hm hv ?_ hn hdb)
 exact PyProof.Rows.callWith_builtin1 (thn (ha pos pins s σ H _ I h) λus s1 ⟨vs,H1,I1,r1,q1⟩=>hc pins s1 σ H1 vs us Q I1 r1 q1) he hpl
theorem ZaD (hc:Zax X (.type T) r) (hg:Gl X x) (hm:X.mg x=none) (hv:bootBuiltins x=some (.type T)) (ha:PA X (e::es) t) (hn:x≠"__name__":=by decide) (hdb:(x==("__debug__":Str))=false:=by decide)
  (he:starEach (e::es) X.env=(false,eval e X.env)::starEach es X.env:=by rfl) (hpl:(backTo pos (starEach es X.env)).any (·.1)=false:=by rfl):PE X (.Call (.Name x p) (e::es) [] pos) (tCB r t):=by
 intro pins s σ H Q I h
 refine wpAny_Call_Name_kw (ZaF I hg hm hv ?_ hn hdb)
 exact PyProof.Rows.callWith_type1 (thn (ha pos pins s σ H _ I h) λus s1 ⟨vs,H1,I1,r1,q1⟩=>hc pins s1 σ H1 vs us Q I1 r1 q1) he hpl
end
end Lake
namespace HT
open PySem PyProof.Rows
section
open PySem.SeqAt
open PySem.AutoSeq1 (wpAny_loadPart')
open PySem.MeetsSeq PySem.MeetsSeq2 PySem.MeetsSeq3
end
section
variable {prog:Program}{w:World}{A:Around}{E:Value->Shared->Prop}{s:Shared}
noncomputable def sIx (n d:Nat):Option Int->Nat
 |none=>d
 |some v=>if v<0 then (v+(n:Int)).toNat else min v.toNat n
theorem ZlJ (n d k:Nat):sIx n d (some (k:Int))=min k n:=by
 show(if (k:Int)<0 then ((k:Int)+(n:Int)).toNat else min (k:Int).toNat n)=min k n
 rw[Yb ⋯,Jf]
theorem sIx_le (n d:Nat) (hd:d<=n) (o:Option Int):sIx n d o<=n:=by
 cases o with
 |none=>exact hd
 |some v =>
  show(if v<0 then (v+(n:Int)).toNat else min v.toNat n)<=n
  by_cases hv:v<0
  .rw[Yd hv];omega
  .rw[Yb hv];exact Nat.min_le_right _ _
theorem ZlK (v:Int) (n d:Nat):(if v<0 then max (v+(n:Int)) 0 else min v (n:Int))=((sIx n d (some v):Nat):Int):=by
 show(if v<0 then max (v+(n:Int)) 0 else min v (n:Int))=(((if v<0 then (v+(n:Int)).toNat else min v.toNat n):Nat):Int)
 by_cases hv:v<0
 .simp only[Yd hv];omega
 .simp only[Yb hv];omega
theorem ZkR (lo hi:Option Int) (n:Nat):Builtin.Slice.sliceAdjust lo hi 1 (n:Int)=(((sIx n 0 lo:Nat):Int),((sIx n n hi:Nat):Int)):=by
 have h1:¬ ((1:Int)<0):= ⋯
 unfold Builtin.Slice.sliceAdjust
 simp only[h1,if_false]
 refine Prod.ext ?_ ?_
 .cases lo with
  |none=>rfl
  |some v=>exact ZlK v n 0
 .cases hi with
  |none=>rfl
  |some v=>exact ZlK v n n
theorem ZkS (i j:Nat):Builtin.Slice.slicePlaces (i:Int) (j:Int) 1=j-i:=by
 unfold Builtin.Slice.slicePlaces
 have h1:(1:Int)>0:= ⋯
 simp only[h1,if_true,Int.ediv_one]
 split<;>omega
theorem Zhi {v:Value}{o:Option Int}{Q:Option Int->Shared->Prop} (p:IsPart v o) (h:Q o s):wpAny (model prog w) A (Builtin.Slice.slicePartIndex v) Q E s:=by
 cases p with
 |none=>exact slicePart_none h
 |int i t=>exact slicePart_int h
theorem ZcD {sl:Addr}{vl vu:Value}{lo hi:Option Int}{n:Nat}{Q:Int×Int×Nat->Shared->Prop} (hs:s.heap.IsSliceOf sl vl vu .none) (pl:IsPart vl lo) (pu:IsPart vu hi)
  (h:Q (((sIx n 0 lo:Nat):Int),1,sIx n n hi-sIx n 0 lo) s):wpAny (model prog w) A (Builtin.Slice.sliceApplied (.ref sl) (pure (n:Int))) Q E s:=by
 obtain⟨os,hos,hcs,hds⟩:=id hs
 unfold Builtin.Slice.sliceApplied Builtin.Slice.sliceFields
 refine Ya (Ya (wpAny_field hos hds (x:=vl) rfl (Ya (wpAny_field hos hds (x:=vu) rfl (Ya (wpAny_field hos hds (x:=.none) rfl (Yc ?_)))))))
 refine Ya (slicePart_none ?_)
 show wpAny _ _ (if ((1:Int)==0)=true then _ else _) _ _ s
 rw[Yb nofun]
 refine Ya (Zhi pl (Ya (Zhi pu (Ya (Yc ?_)))))
 show wpAny _ _ (match Builtin.Slice.sliceAdjust lo hi 1 (n:Int)with|(lo,hi)=>pure (lo,(1:Int),Builtin.Slice.slicePlaces lo hi 1)) _ _ s
 rw[ZkR lo hi n]
 show wpAny _ _ (pure (((sIx n 0 lo:Nat):Int),(1:Int),Builtin.Slice.slicePlaces ((sIx n 0 lo:Nat):Int) ((sIx n n hi:Nat):Int) 1)) _ _ s
 rw[ZkS]
 exact Yc h
theorem ZnR (xs:Array Value) (i k:Nat):((List.range k).filterMap λ(m:Nat)=>xs[((i:Int)+(m:Int)*1).toNat]?).toArray=((xs.toList.drop i).take k).toArray:=by
 have e:(λ(m:Nat)=>xs[((i:Int)+(m:Int)*1).toNat]?)=λm=>xs[i+m]?:=by
  funext m
  have:((i:Int)+(m:Int)*1).toNat=i+m:= ⋯
  rw[this]
 rw[e]
 have:=pick_run xs i k
 rw[List.filterMap_map]at this
 have e2:((λx=>xs[x]?) ∘ λx=>i+x)=λm=>xs[i+m]?:=rfl
 rw[e2]at this
 rw[this]
theorem Zfg {t sl:Addr}{items:Array Value}{vl vu:Value}{lo hi:Option Int}{Q:Value->Shared->Prop} (ht:IsTup s.heap t items) (hs:s.heap.IsSliceOf sl vl vu .none) (pl:IsPart vl lo) (pu:IsPart vu hi)
  (hw:¬ (sIx items.size 0 lo=0/\sIx items.size items.size hi=items.size))
  (h:Q (.ref s.heap.objs.size) {s with heap:=s.heap.push {cls:=.type "tuple",data:=.seq ((items.toList.drop (sIx items.size 0 lo)).take (sIx items.size items.size hi-sIx items.size 0 lo)).toArray}})
  (hsz:items.size<=sizeLine):wpAny (model prog w) A (getItem (.ref t) (.ref sl)) Q E s:=by
 have htake:sizeOk (.seq ((items.toList.drop (sIx items.size 0 lo)).take (sIx items.size items.size hi-sIx items.size 0 lo)).toArray):=by
  show((items.toList.drop (sIx items.size 0 lo)).take (sIx items.size items.size hi-sIx items.size 0 lo)).toArray.size<=sizeLine
  rw[Yp,Y4,Jg,Ys]
  omega
 have hj:sIx items.size items.size hi<=items.size:=sIx_le _ _ (Ye _) hi
 obtain⟨os,hos,hcs,hds⟩:=id hs
 have hTs:s.TypeIs (.ref sl) "slice":=⟨os,hos,hcs⟩
 unfold getItem
 try with_reducible refine YE ?_
 first|refine Ya (Yc ?_)|skip
 refine Ya (wpAny_sequenceKey ht.typeIs nofun ?_)
 refine Ya (wpAny_callSpecial?_slot (name:=Str.ofString "__getitem__") ht.typeIs PyProof.Rows.slot_tuple_getitem
  (wpAny_call_entry PyProof.Rows.slot_tuple_getitem ht.typeIs entry_tuple_getitem ?_ (args_tuple_getitem _ _)))
 show wpAny _ _ (Builtin.Tuple.tupleItemsOf (.ref t) >>= _) _ _ s
 refine Ya (tupleItemsOf_ ht ?_)
 refine Ya (wpAny_typeOf hTs ?_)
 rw[Yd nofun]
 refine Ya (ZcD hs pl pu ?_)
 have hno:¬ ((((sIx items.size 0 lo:Nat):Int)==0&&(1:Int)==1&&(sIx items.size items.size hi-sIx items.size 0 lo)==items.size)=true):=by
  intro q
  rw[Bool.and_eq_true,Bool.and_eq_true]at q
  have q1:((sIx items.size 0 lo:Nat):Int)=0:=eq_of_beq q.1.1
  have q2:sIx items.size items.size hi-sIx items.size 0 lo=items.size:=eq_of_beq q.2
  exact hw ⟨⋯,⋯⟩
 show wpAny _ _ (if (((sIx items.size 0 lo:Nat):Int)==0&&(1:Int)==1&&(sIx items.size items.size hi-sIx items.size 0 lo)==items.size)=true then _ else _) _ _ s
 rw[Yb hno,ZnR]
 first
  |exact Ya (m:=Builtin.Tuple.tupleExact _) (wpAny_newObj_type (Yc ⟨_,rfl,Yc h⟩) htake)
  |exact Ya (m:=Builtin.Tuple.tupleExact _) (wpAny_newObj_type (Ya (Yc (Yc ⟨_,rfl,Yc h⟩))) htake)
  |exact Ya (Ya (m:=Builtin.Tuple.tupleExact _) (wpAny_newObj_type (Yc (Yc ⟨_,rfl,Yc h⟩)) htake))
  |exact Ya (Ya (m:=Builtin.Tuple.tupleExact _) (wpAny_newObj_type (Yc ⟨_,rfl,Yc h⟩) htake))
end
end HT
namespace Lake
open PySem PySem.Spec PyProof.Rows
noncomputable abbrev TO:=St->Hp->(Option Int->Hp->Prop)->Prop
noncomputable def PO (X:Cx) (e:Option Expr) (t:TO):Prop :=
 ∀(pins:List (Addr×Obj)) (s:Shared) (σ:St) (H:Hp) (Q:Option Int->Hp->Prop),Inv X pins σ H s->t σ H Q ->
  wpAny (model X.prog X.w) X.A (evalPart e X.env) (λu s'=>∃o H',Inv X pins σ H' s'/\IsPart u o/\Q o H') X.xe s
noncomputable def tNoPart:TO:=λ_ H Q=>Q none H
noncomputable def tPart (t:TE):TO:=fun σ H Q=>t σ H λx H1=>∃i,x=.int i/\Q (some i) H1
theorem intsAre_of {ns:List Int}:∀{us:List Value},Vals (ns.map V.int) us->IntsAre us ns:=by
 induction ns with
 |nil=>intro us r;rw[List.map_nil]at r;cases r;exact .nil
 |cons n ns ih =>
  intro us r
  rw[YJ]at r
  cases r with
  |cons r1 r2 =>
   obtain⟨t,e⟩:=r1
   subst e
   exact .cons n t (ih r2)
section
variable {X:Cx}{e:Expr}{te:TE}{lo hi:Option Expr}{tl th:TO}{pos p2:Pos}
theorem Zi3:PO X none tNoPart:=by
 intro pins s σ H Q I h
 rw[evalPart_none]
 exact Yc ⟨none,H,I,.none,h⟩
theorem Zfh (h:PE X e te):PO X (some e) (tPart te):=by
 intro pins s σ H Q I hw
 rw[evalPart_some]
 refine thn (h pins s σ H _ I hw) λu s1 ⟨x,H1,I1,r1,q1⟩=>?_
 obtain⟨i,rfl,q⟩:=q1
 obtain⟨t,rfl⟩:=r1
 exact⟨some i,H1,I1,.int i t,q⟩
noncomputable def SlR (X:Cx) (r:V->Option Int->Option Int->Hp->VK->Prop):Prop :=
 ∀(pins:List (Addr×Obj)) (s:Shared) (σ:St) (H:Hp) (x:V) (v vl vu:Value) (lo hi:Option Int) (sl:Addr) (Q:VK),Inv X pins σ H s->RelV x v->s.heap.IsSliceOf sl vl vu .none->IsPart vl lo->IsPart vu hi->r x lo hi H Q ->
  ∃T id,typeLookup (.type T) "__getitem__"=pure (some (.builtin id))/\s.TypeIs v T/\wpAny (model X.prog X.w) X.A (getItem v (.ref sl)) (EP X pins σ Q) X.xe s
noncomputable def tSl (r:V->Option Int->Option Int->Hp->VK->Prop) (te:TE) (tl th:TO):TE:=fun σ H Q=>te σ H λx H1=>tl σ H1 λl H2=>th σ H2 λu H3=>r x l u H3 Q
theorem Zfi {r:V->Option Int->Option Int->Hp->VK->Prop} (hr:SlR X r) (he:PE X e te) (hl:PO X lo tl) (hu:PO X hi th):PE X (.Subscript e (.Slice lo hi none p2) pos) (tSl r te tl th):=by
 intro pins s σ H Q I h
 refine Subscript_ (thn (he pins s σ H _ I h) λv s1 ⟨x,H1,I1,r1,q1⟩=>?_)
 refine wpAny_Slice (thn (hl pins s1 σ H1 _ I1 q1) λvl s2 ⟨l,H2,I2,pl,q2⟩=>thn (hu pins s2 σ H2 _ I2 q2) λvu s3 ⟨u,H3,I3,pu,q3⟩=>?_)
 rw[evalPart_none]
 refine Yc ?_
 have I4:Inv X pins σ H3 {s3 with heap:=s3.heap.push {cls:=.type "slice",data:=.fields #[vl,vu,.none]}}:=I3.kept (t':=s3.toks) λb ob q=>Yk _ q
 obtain⟨T,id,hT,ht,hg⟩:=hr pins {s3 with heap:=s3.heap.push {cls:=.type "slice",data:=.fields #[vl,vu,.none]}} σ H3 x v vl vu l u s3.heap.objs.size Q I4 r1 (Heap.IsSliceOf.new ..) pl pu q3
 show wpAny (model X.prog X.w) X.A (subscriptTail e (.Slice lo hi none p2) v (.ref s3.heap.objs.size)) (EP X pins σ Q) X.xe {s3 with heap:=s3.heap.push {cls:=.type "slice",data:=.fields #[vl,vu,.none]}}
 exact tail_any (ops:=[.ref s3.heap.objs.size,v]) ht hT hg (by with_unfolding_all rfl)
noncomputable def ZbL (xs:List V) (lo hi:Option Int):List V:=(xs.drop (HT.sIx xs.length 0 lo)).take (HT.sIx xs.length xs.length hi-HT.sIx xs.length 0 lo)
theorem Zgt (xs:List V) (lo hi:Option Int):(ZbL xs lo hi).length<=xs.length:=by
 unfold ZbL
 rw[Y4,Jg]
 omega
noncomputable def rSlT (K:PySem.W.Frag):V->Option Int->Option Int->Hp->VK->Prop:=λx lo hi H Q=>∃a xs,x=.ref a/\SqT K H a xs /\
 ¬ (HT.sIx xs.length 0 lo=0/\HT.sIx xs.length xs.length hi=xs.length)/\∀p,H p=none->Q (.ref p) (upd H p (.tup (ZbL xs lo hi)))
theorem sl_tup:SlR X (rSlT X.K):=by
 intro pins s σ H x v vl vu lo hi sl Q I rx hs pl pu h
 obtain⟨a,xs,rfl,hx,hw,q⟩:=h
 cases rx
 obtain⟨its,r,ht,hz⟩:=I.tuple hx
 have hlen:its.toArray.size=xs.length:=by rw[Yp];exact r.length.symm
 refine⟨"tuple",_,PyProof.Rows.slot_tuple_getitem.lookup,ht.typeIs,?_⟩
 refine HT.Zfg ht hs pl pu (by rw[hlen];exact hw) ?_ (by rw[hlen];exact hz)
 rw[hlen]
 refine⟨.ref s.heap.objs.size,_,I.laid (t':=s.toks) (o:=.tup (ZbL xs lo hi)) (λb ob q=>Yk _ q) (Ye _) ?_,rfl,q _ (I.hok.fresh (Ye _))⟩
 exact⟨Yn (Zgt xs lo hi) hz,_,(r.drop (HT.sIx xs.length 0 lo)).take (HT.sIx xs.length xs.length hi-HT.sIx xs.length 0 lo),IsTup.new _ _⟩
end
noncomputable def ixN (n:Nat) (i:Int):Option Nat:=if 0<=i then (if i<n then some i.toNat else none)else if -(n:Int)<=i then some (i+n).toNat else none
noncomputable def atI {α:Type} (xs:List α) (i:Int):Option α:=(ixN xs.length i).bind λj=>xs[j]?
theorem ZlL {n:Nat}{i:Int}{j:Nat} (h:ixN n i=some j):seqIndex? i n=some j/\j<n/\-(n:Int)<=i/\i<n:=by
 unfold ixN at h
 by_cases h0:0<=i
 .rw[Yd h0]at h
  by_cases h1:i<n
  .rw[Yd h1]at h
   have e:i.toNat=j:=YF h
   exact⟨by rw[seqIndex_of h0 h1,e],⋯,⋯,h1⟩
  .rw[Yb h1]at h;cases h
 .rw[Yb h0]at h
  by_cases h1:-(n:Int)<=i
  .rw[Yd h1]at h
   have e:(i+n).toNat=j:=YF h
   exact⟨by rw[seqIndex_neg ⋯ h1,e],⋯,h1,⋯⟩
  .rw[Yb h1]at h;cases h
theorem Zi4 {α:Type}{xs:List α}{i:Int}{v:α} (h:atI xs i=some v):∃j,seqIndex? i xs.length=some j/\xs[j]?=some v/\j<xs.length/\-(xs.length:Int)<=i/\i<xs.length:=by
 unfold atI at h
 cases e:ixN xs.length i with
 |none=>rw[e]at h;cases h
 |some j =>
  rw[e]at h
  obtain⟨h1,h2,h3,h4⟩:=ZlL e
  exact⟨j,h1,h,h2,h3,h4⟩
theorem Zb3 {α:Type}{xs:List α}{j:Nat}{v:α} (h:xs[j]?=some v):atI xs (j:Int)=some v:=by
 have hj:j<xs.length:=(Yr.mp h).1
 have e:ixN xs.length (j:Int)=some j:=by
  unfold ixN
  rw[Yd ⋯,Yd ⋯];simp
 unfold atI;rw[e];exact h
theorem ZnS {α:Type} (xs:List α) (v:α):atI (xs++[v]) (-1)=some v:=by
 have hl:(xs++[v]).length=xs.length+1:=by simp
 have e:ixN (xs++[v]).length (-1)=some xs.length:=by
  unfold ixN
  rw[hl,Yb nofun,Yd ⋯]
  congr 1
  omega
 unfold atI
 rw[e]
 show(xs++[v])[xs.length]?=some v
 simp
noncomputable def Zq4 (b:Expr):Prop:=∀o i,subscripted b false o i=operate [o,i] (getItem o i)
noncomputable def IxR (X:Cx) (r:R2):Prop :=
 ∀(value slice:Expr) (pins:List (Addr×Obj)) (s:Shared) (σ:St) (H:Hp) (x y:V) (v u:Value) (Q:VK),Inv X pins σ H s->RelV x v->RelV y u->r x y H Q ->
  subscripted slice false v u=operate [v,u] (getItem v u)->wpAny (model X.prog X.w) X.A (subscriptTail value slice v u) (EP X pins σ Q) X.xe s
noncomputable def MtR (X:Cx) (id:String) (r:V->List V->Hp->VK->Prop):Prop :=
 ∀(pins:List (Addr×Obj)) (s:Shared) (σ:St) (H:Hp) (x:V) (xs:List V) (v:Value) (us:List Value) (Q:VK),Inv X pins σ H s->RelV x v->Vals xs us->r x xs H Q ->
  wpAny (model X.prog X.w) X.A (call (.builtin id) (v::us)) (EP X pins σ Q) X.xe s
section
variable {X:Cx}{a b:Expr}{ta tb:TE}{pos:Pos}
theorem IxR.or {r r':R2} (h:IxR X r) (h':IxR X r'):IxR X (λx y H Q=>r x y H Q\/r' x y H Q):=by
 intro value slice pins s σ H x y v u Q I rx ry q hs
 rcases q with q|q
 .exact h value slice pins s σ H x y v u Q I rx ry q hs
 .exact h' value slice pins s σ H x y v u Q I rx ry q hs
theorem Zm {r:R2} (hr:IxR X r) (ha:PE X a ta) (hb:PE X b tb) (hs:Zq4 b):PE X (.Subscript a b pos) (tOp r ta tb):=by
 intro pins s σ H Q I h
 exact Subscript_ (binT ha hb I h λv u s2 x y H2 I2 rx ry q=>hr a b pins s2 σ H2 x y v u Q I2 rx ry q (hs _ _))
noncomputable def rIxL (K:PySem.W.Frag):R2:=λx y H Q=>∃p xs i v,x=.ref p/\y=.int i/\SqL K H p xs/\atI xs i=some v/\Q v H
noncomputable def rIxT (K:PySem.W.Frag):R2:=λx y H Q=>∃p xs i v,x=.ref p/\y=.int i/\SqT K H p xs/\atI xs i=some v/\Q v H
theorem Zr:IxR X (rIxL X.K):=by
 intro value slice pins s σ H x y v u Q I rx ry h hs
 obtain⟨p,xs,i,z,rfl,rfl,hq,he,q⟩:=h
 cases rx
 obtain⟨t,rfl⟩:=ry
 obtain⟨its,r,pl,hz⟩:=I.list hq
 obtain⟨j,h1,h2,h3,h4,h5⟩:=Zi4 he
 obtain⟨w,ew,rw'⟩:=r.get h2
 have hl:=r.length
 have hn:=Zi1
 have fin:EP X pins σ Q w s:=⟨z,H,I,rw',q⟩
 by_cases h0:0<=i
 .have hj:i.toNat=j:=by
   rw[seqIndex_of h0 h5]at h1
   exact YF h1
  exact item_listR pl.isList h0 ⋯ (by rw[hj];simpa using ew) fin hs
 .have hj:(i+(its.toArray.size:Int)).toNat=j:=by
   rw[seqIndex_neg ⋯ h4]at h1
   rw[Yp,<-hl]
   exact YF h1
  exact subscriptTail_builtinR (x:=w) pl.isList.typeIs slot_list_getitem.lookup
   (wpAny_getItem_list_neg (Q:=λr s'=>r=w/\EP X pins σ Q r s') pl.isList ⋯ (by rw[Yp]<;>omega) ⋯ (by rw[hj];simpa using ew) ⟨rfl,fin⟩) hs
theorem ZI:IxR X (rIxT X.K):=by
 intro value slice pins s σ H x y v u Q I rx ry h hs
 obtain⟨p,xs,i,z,rfl,rfl,hq,he,q⟩:=h
 cases rx
 obtain⟨t,rfl⟩:=ry
 obtain⟨its,r,pl,hz⟩:=I.tuple hq
 obtain⟨j,h1,h2,h3,h4,h5⟩:=Zi4 he
 obtain⟨w,ew,rw'⟩:=r.get h2
 have hl:=r.length
 have hn:=Zi1
 have fin:EP X pins σ Q w s:=⟨z,H,I,rw',q⟩
 exact subscriptTail_builtinR (x:=w) pl.typeIs slot_tuple_getitem.lookup
  (getItem_tuple (j:=j) (Q:=λr s'=>r=w/\EP X pins σ Q r s') pl ⋯ ⋯ (by rw[Yp,<-hl];exact h1) (by simpa using ew) ⟨rfl,fin⟩) hs
theorem ZkT (its:List Value) (n j:Nat) (u:Value):Obj.mapSeq (·.setIfInBounds j u) {cls:=.type "list",data:=.seq its.toArray n}={cls:=.type "list",data:=.seq (its.set j u).toArray n}:=by
 simp[Obj.mapSeq]
theorem Inv.lst {pins:List (Addr×Obj)}{σ:St}{H:Hp}{s:Shared}{p:Addr}{xs:List V} (I:Inv X pins σ H s) (h:H p=some (.lst xs)) :
  ∃(its:List Value) (n:Nat),Vals xs its/\s.heap.get? p=some {cls:=.type "list",data:=.seq its.toArray n}/\xs.length<=sizeLine:=by
 obtain⟨z,its,n,r,e⟩:=I.hok p _ h
 exact⟨its,n,r,e,z⟩
theorem Inv.lstUpd {pins:List (Addr×Obj)}{σ:St}{H:Hp}{s:Shared}{p:Addr}{xs ys:List V}{its its':List Value}{n n':Nat}{f:Obj->Obj} (I:Inv X pins σ H s) (h:H p=some (.lst xs))
  (ho:s.heap.get? p=some {cls:=.type "list",data:=.seq its.toArray n}) (hf:f {cls:=.type "list",data:=.seq its.toArray n}={cls:=.type "list",data:=.seq its'.toArray n'}) (r:Vals ys its') (hz:ys.length<=sizeLine) (t:Nat) :
  Inv X pins σ (upd H p (.lst ys)) {s with heap:=s.heap.update p f,toks:=t}:=by
 have e:(s.heap.update p f).get? p=some {cls:=.type "list",data:=.seq its'.toArray n'}:=by
  rw[Heap.get?_update_self f ho (by rw[hf]<;>rfl),hf]
 refine I.write (x:=p) (e:=p) (by rw[h];trivial) (.inl rfl) (λb u hb q=>(Heap.get?_update_other _ _ (Ne.symm hb)).trans q) ⟨_,e⟩ ?_
 exact⟨hz,its',n',r,e⟩
noncomputable def rSetL:V->V->V->Hp->(Hp->Prop)->Prop:=λo i v H Q=>∃p xs k j,o=.ref p/\i=.int k/\H p=some (.lst xs)/\ixN xs.length k=some j/\Q (upd H p (.lst (xs.set j v)))
theorem set_list:PSet X rSetL:=by
 intro pins s σ H o i v ov iv u Q I ro ri rv h
 obtain⟨p,xs,k,j,rfl,rfl,hp,hj,q⟩:=h
 cases ro
 obtain⟨t,rfl⟩:=ri
 obtain⟨its,n,r,ho,hz⟩:=I.lst hp
 obtain⟨h1,h2,h3,h4⟩:=ZlL hj
 have hl:=r.length
 have hn:=Zi1
 have I':Inv X pins σ (upd H p (.lst (xs.set j v))) {s with heap:=s.heap.update p (Obj.mapSeq (·.setIfInBounds j u))} :=
  I.lstUpd hp ho (ZkT its n j u) (r.set rv j) (by rw[List.length_set];exact hz) s.toks
 by_cases h0:0<=k
 .have hk:k.toNat=j:=by
   rw[seqIndex_of h0 h4]at h1
   exact YF h1
  exact PySem.W.ki_setAt ho h0 ⋯ (by rw[Yp,<-hl];exact h4) (by rw[hk];exact⟨_,I',q⟩)
 .have hk:(k+(its.toArray.size:Int)).toNat=j:=by
   rw[seqIndex_neg ⋯ h3]at h1
   rw[Yp,<-hl]
   exact YF h1
  exact PySem.W.ki_setBack ho ⋯ (by rw[Yp,<-hl];exact h3) ⋯ (by rw[hk];exact⟨_,I',q⟩)
theorem Zi5 (lo hi:Option Int) (n:Nat):(sliceBounds lo hi none n).1=((HT.sIx n 0 lo:Nat):Int)/\(sliceBounds lo hi none n).2.1=((HT.sIx n n hi:Nat):Int)/\(sliceBounds lo hi none n).2.2=1:=by
 refine⟨?_,?_,rfl⟩
 .cases lo with
  |none=>simp[sliceBounds,HT.sIx]
  |some i =>
   simp only[sliceBounds,HT.sIx,Option.getD_none,show(1:Int)>0 by decide,if_true]
   by_cases h:i<0
   .simp only[h,if_true]<;>omega
   .simp only[h,if_false]<;>omega
 .cases hi with
  |none=>simp[sliceBounds,HT.sIx]
  |some i =>
   simp only[sliceBounds,HT.sIx,Option.getD_none,show(1:Int)>0 by decide,if_true]
   by_cases h:i<0
   .simp only[h,if_true]<;>omega
   .simp only[h,if_false]<;>omega
theorem Zh7 (its:List Value) (lo hi:Option Int):slicePick its.toArray lo hi none=((its.drop (HT.sIx its.length 0 lo)).take (HT.sIx its.length its.length hi-HT.sIx its.length 0 lo)).toArray:=by
 obtain⟨h1,h2,h3⟩:=Zi5 lo hi its.toArray.size
 unfold slicePick
 rw[h1,h2,h3]
 simp only[sliceRange_one,pick_run,Yp]<;>rfl
noncomputable def rSlL (K:PySem.W.Frag):V->Option Int->Option Int->Hp->VK->Prop:=λx lo hi H Q=>∃a xs,x=.ref a/\SqL K H a xs/\∀p,H p=none->Q (.ref p) (upd H p (.lst (ZbL xs lo hi)))
theorem Zg4:SlR X (rSlL X.K):=by
 intro pins s σ H x v vl vu lo hi sl Q I rx hs pl pu h
 obtain⟨a,xs,rfl,hx,q⟩:=h
 cases rx
 obtain⟨its,r,ht,hz⟩:=I.list hx
 have hlen:=r.length
 refine⟨"list",_,slot_list_getitem.lookup,ht.isList.typeIs,?_⟩
 refine wpAny_getItem_list_slice ht.isList hs pl pu .none (by simp) ?_ (by rw[Yp]<;>omega)
 rw[Zh7,<-hlen]
 refine⟨.ref s.heap.objs.size,_,I.laid (t':=s.toks) (o:=.lst (ZbL xs lo hi)) (λb ob q=>Yk _ q) (Ye _) ?_,rfl,q _ (I.hok.fresh (Ye _))⟩
 exact⟨Yn (Zgt xs lo hi) hz,_,0,(r.drop (HT.sIx xs.length 0 lo)).take (HT.sIx xs.length xs.length hi-HT.sIx xs.length 0 lo),Yv _ rfl⟩
noncomputable def flatV:V->Bool
 |.non=>true
 |.bl _=>true
 |.int _=>true
 |.str _=>true
 |_=>false
noncomputable def eqV:V->V->Bool
 |.non,.non=>true
 |.bl a,.bl b=>a==b
 |.bl a,.int b=>(if a then 1 else 0)==b
 |.int a,.bl b=>a==(if b then 1 else 0)
 |.int a,.int b=>a==b
 |.str a,.str b=>a==b
 |_,_=>false
theorem ZnT {A:Around}{s:Shared}{y x:V}{u v:Value} (ry:RelV y u) (rx:RelV x v) (fy:flatV y=true) (fx:flatV x=true):SeqAt.EqAt A s u v (eqV y x):=by
 cases y with
 |non =>
  cases ry
  cases x with
  |non=>cases rx;exact SeqAt.EqAt.same _
  |bl b=>cases rx;exact SeqAt.EqAt.none_bool b
  |int b=>obtain⟨t,rfl⟩:=rx;exact SeqAt.EqAt.none_int b t
  |str b=>obtain⟨t,rfl⟩:=rx;exact SeqAt.EqAt.none_str b t
  |_=>exact absurd (show false=true from fx) YL
 |bl a =>
  cases ry
  cases x with
  |non=>cases rx;exact SeqAt.EqAt.bool_none a
  |bl b=>cases rx;exact SeqAt.EqAt.bool_bool a b
  |int b=>obtain⟨t,rfl⟩:=rx;exact SeqAt.EqAt.bool_int a b t
  |str b=>obtain⟨t,rfl⟩:=rx;exact SeqAt.EqAt.bool_str a b t
  |_=>exact absurd (show false=true from fx) YL
 |int a =>
  obtain⟨t',rfl⟩:=ry
  cases x with
  |non=>cases rx;exact SeqAt.EqAt.int_none a t'
  |bl b=>cases rx;exact SeqAt.EqAt.int_bool a t' b
  |int b=>obtain⟨t,rfl⟩:=rx;exact SeqAt.EqAt.int_int a t' b t
  |str b=>obtain⟨t,rfl⟩:=rx;exact SeqAt.EqAt.int_str a t' b t
  |_=>exact absurd (show false=true from fx) YL
 |str a =>
  obtain⟨t',rfl⟩:=ry
  cases x with
  |non=>cases rx;exact SeqAt.EqAt.str_none a t'
  |bl b=>cases rx;exact SeqAt.EqAt.str_bool a t' b
  |int b=>obtain⟨t,rfl⟩:=rx;exact SeqAt.EqAt.str_int a t' b t
  |str b=>obtain⟨t,rfl⟩:=rx;exact SeqAt.EqAt.str_str a t' b t
  |_=>exact absurd (show false=true from fx) YL
 |_=>exact absurd (show false=true from fy) YL
noncomputable def eqU (x:V) (u:Value):Bool:=match u with
 |.none=>eqV .non x
 |.bool b=>eqV (.bl b) x
 |.int i _=>eqV (.int i) x
 |.str z _=>eqV (.str z) x
 |_=>false
theorem ZnU {x y:V}{u:Value} (r:RelV y u) (f:flatV y=true):eqU x u=eqV y x:=by
 cases y with
 |non=>cases r;rfl
 |bl b=>cases r;rfl
 |int i=>obtain⟨t,rfl⟩:=r;rfl
 |str z=>obtain⟨t,rfl⟩:=r;rfl
 |_=>exact absurd (show false=true from f) YL
theorem Zi6 {x:V}:∀{xs:List V}{us:List Value},Vals xs us->xs.all flatV=true->us.any (eqU x)=xs.any λy=>eqV y x
 |_,_,.nil,_=>rfl
 |y::xs,u::us,.cons r t,f=>by
  rw[List.all_cons,Bool.and_eq_true]at f
  rw[List.any_cons,List.any_cons,ZnU r f.1,Zi6 t f.2]
theorem Zhj {A:Around}{s:Shared}{x:V}{v:Value} (rx:RelV x v) (fx:flatV x=true):∀{xs:List V}{us:List Value},Vals xs us->xs.all flatV=true->∀u∈us,SeqAt.EqAt A s u v (eqU x u)
 |_,_,.nil,_=>λu hu=>by cases hu
 |y::xs,u::us,.cons r t,f=>λu' hu=>by
  rw[List.all_cons,Bool.and_eq_true]at f
  rcases Yi.mp hu with rfl|hu
  .rw[ZnU r f.1];exact ZnT r rx f.1 fx
  .exact Zhj rx fx t f.2 u' hu
noncomputable def inV (x:V) (xs:List V):Bool:=xs.any λy=>eqV y x
noncomputable def rIn (K:PySem.W.Frag) (neg:Bool):R2:=λx y H Q=>∃p xs,y=.ref p/\(SqL K H p xs\/SqT K H p xs)/\flatV x=true/\xs.all flatV=true/\Q (.bl (if neg then !inV x xs else inV x xs)) H
theorem Zmx:OpR X (compareOp .In) (rIn X.K false):=by
 intro pins s σ H x y v u Q I rx ry h
 obtain⟨p,xs,rfl,hq,fx,fs,q⟩:=h
 cases ry
 rcases hq with hq|hq
 .obtain⟨its,r,pl,hz⟩:=I.list hq
  refine SeqAt.in_listAt (eqU x) pl.isList (λw hw=>Zhj rx fx r fs w (by simpa using hw)) ⟨.bl _,H,I,rfl,?_⟩
  rw[show its.toArray.any (eqU x)=its.any (eqU x) by simp,Zi6 r fs]
  exact q
 .obtain⟨its,r,pl,hz⟩:=I.tuple hq
  refine SeqAt.in_tupleAt (eqU x) pl (λw hw=>Zhj rx fx r fs w (by simpa using hw)) ⟨.bl _,H,I,rfl,?_⟩
  rw[show its.toArray.any (eqU x)=its.any (eqU x) by simp,Zi6 r fs]
  exact q
theorem Zi7:Zax X (.builtin "len") (λxs H Q=>∃p ys,xs=[.ref p]/\(SqL X.K H p ys\/SqT X.K H p ys)/\Q (.int ys.length) H):=by
 intro pins s σ H xs us Q I r h
 obtain⟨p,ys,rfl,hq,q⟩:=h
 obtain⟨u,rfl,rx⟩:=vals1 r
 cases rx
 have hn:=Zi1
 rcases hq with hq|hq
 .obtain⟨its,r',pl,hz⟩:=I.list hq
  have hlen:=r'.length
  exact Calls.call_len_list pl.isList (by simp only[Yp]<;>omega) ⟨.int ys.length,H,I.tok _,⟨s.toks+1,by rw[Yp,hlen]⟩,q⟩
 .obtain⟨its,r',pl,hz⟩:=I.tuple hq
  have hlen:=r'.length
  exact len_tuple pl (by simp only[Yp]<;>omega) ⟨.int ys.length,H,I.tok _,⟨s.toks+1,by rw[Yp,hlen]⟩,q⟩
theorem Zi8:Zax X (.type "list") (λxs H Q=>∃p ys,xs=[.ref p]/\(SqL X.K H p ys\/SqT X.K H p ys)/\∀l,H l=none->Q (.ref l) (upd H l (.lst ys))):=by
 intro pins s σ H xs us Q I r h
 obtain⟨p,ys,rfl,hq,q⟩:=h
 obtain⟨u,rfl,rx⟩:=vals1 r
 cases rx
 have fin:∀(its:List Value),Vals ys its->ys.length<=sizeLine->∀(h':Heap) (c':Nat),(∀b o',s.heap.get? b=some o'->h'.get? b=some o') ->
   h'.get? s.heap.objs.size=some {cls:=.type "list",dict:=none,data:=.seq its.toArray c',slots:=#[]}->EP X pins σ Q (.ref s.heap.objs.size) {s with heap:=h'}:=λits r' hz h' c' kp e =>
  ⟨.ref s.heap.objs.size,_,I.laid (t':=s.toks) kp (Ye _) (show ZO X.prog X.w _ h' _ (.lst ys)from⟨hz,its,c',r',e⟩),rfl,q _ (I.hok.fresh (Ye _))⟩
 rcases hq with hq|hq
 .obtain⟨its,r',pl,hz⟩:=I.list hq
  have hlen:=r'.length
  obtain⟨o,ho,hc,n,hd⟩:=pl.isList
  exact call_list_seq p (.inl rfl) ho hc hd (λh' c' kp e=>fin its r' hz h' c' kp e) (by simp only[Yp]<;>omega)
 .obtain⟨its,r',pl,hz⟩:=I.tuple hq
  have hlen:=r'.length
  obtain⟨o,ho,hc,n,hd⟩:=pl
  exact call_list_seq p (.inr rfl) ho hc hd (λh' c' kp e=>fin its r' hz h' c' kp e) (by simp only[Yp]<;>omega)
theorem Zh8:Zax X (.type "tuple") (λxs H Q=>∃p ys,xs=[.ref p]/\((SqL X.K H p ys/\∀l,H l=none->Q (.ref l) (upd H l (.tup ys)))\/(SqT X.K H p ys/\Q (.ref p) H))):=by
 intro pins s σ H xs us Q I r h
 obtain⟨p,ys,rfl,h⟩:=h
 obtain⟨u,rfl,rx⟩:=vals1 r
 cases rx
 rcases h with⟨hq,q⟩|⟨hq,q⟩
 .obtain⟨its,r',pl,hz⟩:=I.list hq
  have hlen:=r'.length
  refine call_tuple_list pl.isList (λh' kp=>?_) (by simp only[Yp]<;>omega)
  have I1:Inv X pins σ H {s with heap:=h'}:=I.kept (t':=s.toks) kp
  have I2:Inv X pins σ (upd H h'.objs.size (.tup ys)) {s with heap:=h'.push {cls:=.type "tuple",data:=.seq its.toArray}} :=
   I1.laid (t':=s.toks) (λb o e=>Yk _ e) (Ye _) (show ZO X.prog X.w _ _ _ (.tup ys)from⟨hz,its,r',IsTup.new _ _⟩)
  exact⟨.ref h'.objs.size,_,I2,rfl,q _ (I1.hok.fresh (Ye _))⟩
 .obtain⟨its,r',pl,hz⟩:=I.tuple hq
  exact call_tuple_same pl ⟨.ref p,H,I,rfl,q⟩
noncomputable def tyV (K:PySem.W.Frag) (T:String) (x:V) (H:Hp):Prop:=match x with
 |.str _=>T="str"
 |.int _=>T="int"
 |.ref p=>(T="list"/\∃xs,SqL K H p xs)\/(T="tuple"/\∃o,K.lookup p=some o/\o.cls=.type "tuple"/\o.dict=none) \/
   (T="dict"/\((∃kvs,H p=some (.dK kvs))\/∃kvs,H p=some (.dT kvs)))\/(T="set"/\∃S n,H p=some (.set S n))
 |_=>False
theorem tyV_is {pins:List (Addr×Obj)}{σ:St}{H:Hp}{s:Shared}{T:String}{x:V}{v:Value} (I:Inv X pins σ H s) (r:RelV x v) (ty:tyV X.K T x H) :
  s.TypeIs v T/\∀a,v=.ref a->∃ob,s.heap.get? a=some ob/\ob.dict=none:=by
 cases x with
 |str z =>
  obtain⟨t,rfl⟩:=r
  cases(show T="str" from ty)
  exact⟨typeIs_str s z t,λ_ e=>nomatch e⟩
 |int i =>
  obtain⟨t,rfl⟩:=r
  cases(show T="int" from ty)
  exact⟨typeIs_int s i t,λ_ e=>nomatch e⟩
 |ref p =>
  cases r
  rcases ty with⟨rfl,xs,hq⟩|⟨rfl,o,hk,hc,hd⟩|⟨rfl,hk⟩|⟨rfl,S,n,hk⟩
  .obtain⟨its,_,pl,_⟩:=I.list hq
   refine⟨pl.isList.typeIs,λa e=>?_⟩
   cases e
   obtain⟨o,n,e,c,hd,_⟩:=pl
   exact⟨o,e,hd⟩
  .refine⟨⟨o,I.kIn p o hk,hc⟩,λa e=>?_⟩
   cases e
   exact⟨o,I.kIn _ o hk,hd⟩
  .have z:∃o,s.heap.get? p=some o/\o.ExactDict:=by
    rcases hk with⟨kvs,hk⟩|⟨kvs,hk⟩
    .obtain⟨_,_,_,_,o,_,_,e,ex,_⟩:=I.hok p _ hk
     exact⟨o,e,ex⟩
    .obtain⟨_,_,_,_,o,_,_,e,ex,_⟩:=I.hok p _ hk
     exact⟨o,e,ex⟩
   obtain⟨o,e,ex⟩:=z
   refine⟨⟨o,e,ex.1⟩,λa e2=>?_⟩
   cases e2
   exact⟨o,e,ex.2.1⟩
  .obtain⟨o,_,_,_,e,ex,_⟩:=I.hok p _ hk
   refine⟨⟨o,e,ex.1⟩,λa e2=>?_⟩
   cases e2
   exact⟨o,e,ex.2.1⟩
 |_=>exact False.elim ty
noncomputable def tBM (K:PySem.W.Frag) (T:String) (r:V->List V->Hp->VK->Prop) (to:TE) (t:TA):TE:=fun σ H Q=>to σ H λx H1=>tyV K T x H1/\t σ H1 λxs H2=>r x xs H2 Q
variable {o e:Expr}{es:List Expr}{to:TE}{t:TA}{name:Str}{apos cpos:Pos}{T id:String}{r:V->List V->Hp->VK->Prop}
theorem Zb4 (pa:PlainAttrs T) (slot:Slot T name id) (hty:typeOf (.builtin id)=pure (.type "method_descriptor")) (hm:MtR X id r) (ho:PE X o to) (ha:PA X (e::es) t)
  (hbase:attributeBase o name X.env (eval o X.env)=eval o X.env:=by rfl)
  (hfew:((backTo cpos (starEach (e::es) X.env)).all (λx=>!x.1)&&(backToKw cpos (keywordEach [] X.env)).all (λx=>x.1.isSome)
   && decide ((e::es).length+([]:List Keyword).length+(if ([]:List Keyword).isEmpty then 0 else 1)<30))=true:=by rfl)
  (hline:(apos.endLine==cpos.line)=true:=by rfl) (hs:starEach (e::es) X.env=(false,eval e X.env)::starEach es X.env:=by rfl) (hplain:(backTo cpos (starEach es X.env)).any (·.1)=false:=by rfl) :
  PE X (.Call (.Attribute o name apos) (e::es) [] cpos) (tBM X.K T r to t):=by
 intro pins s σ H Q I h
 refine wpAny_Call_method_late hbase hfew hline rfl (thn (ho pins s σ H _ I h) λv s1 ⟨x,H1,I1,r1,ty,q1⟩=>?_)
 obtain⟨h1,h2⟩:=tyV_is I1 r1 ty
 refine⟨T,id,pa,slot,hty,h1,h2,?_⟩
 have hA:=ha cpos pins s1 σ H1 _ I1 q1
 rw[hs]at hA⊢
 refine Calls.callWith_builtin (by show(false||(backTo cpos (starEach es X.env)).any (·.1))=false;rw[hplain]<;>rfl) (Calls.evalArgs_plain ?_)
 exact thn hA λus s2 ⟨vs,H2,I2,r2,q2⟩=>hm pins s2 σ H2 x vs v us Q I2 r1 r2 q2
end
noncomputable def MtM (X:Cx) (id:String) (r:V->List V->Hp->VK->Prop):Prop :=
 ∀(pins:List (Addr×Obj)) (s:Shared) (σ:St) (H:Hp) (x:V) (xs:List V) (v:Value) (us:List Value) (Q:VK),Inv X pins σ H s->RelV x v->Vals xs us->r x xs H Q ->
  wpAny (model X.prog X.w) X.A (call (.builtin id) (v::us)) (EP X pins σ Q) X.xe s
theorem Vals.one:∀{x:V}{us:List Value},Vals [x] us->∃u,us=[u]/\RelV x u
 |_,_,.cons r .nil=>⟨_,rfl,r⟩
theorem Vals.two:∀{x y:V}{us:List Value},Vals [x,y] us->∃u v,us=[u,v]/\RelV x u/\RelV y v
 |_,_,_,.cons r (.cons q .nil)=>⟨_,_,rfl,r,q⟩
theorem Vals.rep {xs:List V}{us:List Value} (h:Vals xs us):∀k:Nat,Vals (List.replicate k xs).flatten (List.replicate k us).flatten
 |0=>.nil
 |k+1=>by
  rw[List.replicate_succ,List.replicate_succ,List.flatten_cons,List.flatten_cons]
  exact Vals.append h (Vals.rep h k)
theorem foldl_rep (its:List Value):∀(k:Nat) (acc:List Value),
  List.foldl (λx1 x2=>x1++x2) acc.toArray (List.replicate k its.toArray)=(acc++(List.replicate k its).flatten).toArray
 |0,acc=>by simp
 |k+1,acc=>by
  have e:acc.toArray++its.toArray=(acc++its).toArray:=by simp
  have e2:(acc++its)++(List.replicate k its).flatten=acc++(List.replicate (k+1) its).flatten:=by
   rw[List.replicate_succ,List.flatten_cons,Ja]
  rw[<-e2,<-foldl_rep its k (acc++its),<-e,List.replicate_succ,List.foldl_cons]
section
variable {X:Cx}{pins:List (Addr×Obj)}{σ:St}{H:Hp}{s:Shared}{l b:Addr}{xs ys zs:List V}
theorem Inv.lset {its its':List Value}{n:Nat}{f:Array Value->Array Value}{t':Nat} (I:Inv X pins σ H s) (hH:H l=some (.lst xs))
  (e:s.heap.get? l=some {cls:=.type "list",data:=.seq its.toArray n}) (hf:f its.toArray=its'.toArray) (hv:Vals ys its') (hz:ys.length<=sizeLine) :
  Inv X pins σ (upd H l (.lst ys)) {s with heap:=s.heap.update l (Obj.mapSeq f),toks:=t'}:=by
 have q:=PySem.IsL.update e f
 rw[hf]at q
 refine I.write (x:=l) (e:=l) (by rw[hH];exact trivial) (.inl rfl) (λb' u hb hu=>(Heap.get?_update_other s.heap (Obj.mapSeq f) (Ne.symm hb)).trans hu) ⟨_,q⟩ ?_
 exact⟨hz,its',_,hv,q⟩
theorem Inv.lnew {its:List Value}{t':Nat} (I:Inv X pins σ H s) (hv:Vals ys its) (hz:ys.length<=sizeLine) :
  Inv X pins σ (upd H s.heap.objs.size (.lst ys)) {s with heap:=s.heap.push {cls:=.type "list",data:=.seq its.toArray},toks:=t'} :=
 I.laid (λ_ _ q=>Yk _ q) (Ye _) ⟨hz,its,0,hv,Yv _ rfl⟩
theorem Inv.fresh (I:Inv X pins σ H s):H s.heap.objs.size=none:=I.hok.fresh (Ye _)
theorem Inv.Zi9 (I:Inv X pins σ H s) (hH:H l=some (.lst xs)):xs.length<=sizeLine/\∃(its:List Value) (n:Nat),Vals xs its/\xs.length=its.length/\s.heap.get? l=some {cls:=.type "list",data:=.seq its.toArray n}:=by
 obtain⟨z,its,n,r,e⟩:=I.hok l _ hH
 exact⟨z,its,n,r,r.length,e⟩
theorem ZjX {n:Nat} (h:n<=sizeLine):Builtin.List.listTooLong n=false:=by
 unfold Builtin.List.listTooLong
 exact Yt ⋯
end
section
variable {X:Cx}
noncomputable def rAppend:V->List V->Hp->VK->Prop:=λx vs H Q=>∃l xs y,x=.ref l/\vs=[y]/\H l=some (.lst xs)/\xs.length<sizeLine/\Q .non (upd H l (.lst (xs++[y])))
theorem Zap:MtM X "list.append" rAppend:=by
 intro pins s σ H x vs v us Q I rx rv h
 obtain⟨l,xs,y,rfl,rfl,hH,hz,q⟩:=h
 cases rx
 obtain⟨u,rfl,ru⟩:=rv.one
 obtain⟨z,its,n,r,hl,e⟩:=I.Zi9 hH
 refine call_meets F.slot_list_append ⟨_,e,rfl⟩ F.entry_list_append (F.args_list_append_2 _ _) (PySem.list_append l its.toArray n u (by rw[Yp];omega)) ⟨e,?_⟩
 refine⟨.non,_,I.lset (its':=its++[u]) hH e (by simp) (r.append (.cons ru .nil)) ?_,rfl,q⟩
 rw[YQ,List.length_singleton]
 omega
noncomputable def rExtend:V->List V->Hp->VK->Prop:=λx vs H Q=>∃l b xs zs,x=.ref l/\vs=[.ref b]/\H l=some (.lst xs)/\H b=some (.lst zs)/\xs.length+zs.length<=sizeLine/\Q .non (upd H l (.lst (xs++zs)))
theorem Zmy:MtM X "list.extend" rExtend:=by
 intro pins s σ H x vs v us Q I rx rv h
 obtain⟨l,b,xs,zs,rfl,rfl,hH,hB,hz,q⟩:=h
 cases rx
 obtain⟨u,rfl,ru⟩:=rv.one
 cases ru
 obtain⟨z,its,n,r,hl,e⟩:=I.Zi9 hH
 obtain⟨z2,its2,n2,r2,hl2,e2⟩:=I.Zi9 hB
 have hsz:its.toArray.size+its2.toArray.size<=sizeLine:=by rw[Yp,Yp];omega
 have hlong:¬ (!its.toArray.isEmpty&&Builtin.List.listTooLong (its.toArray.size+its2.toArray.size))=true:=by
  rw[ZjX hsz,Bool.and_false]
  exact YL
 refine call_meets F.slot_list_extend ⟨_,e,rfl⟩ F.entry_list_extend (F.args_list_extend_2 _ _)
  (AutoSeq1.list_extend_list_list_0 l its.toArray n b its2.toArray n2 hlong (by rw[Yp];omega) ⋯) ⟨e,e2,?_⟩
 refine⟨.non,_,I.lset (its':=its++its2) hH e (by simp) (r.append r2) ?_,rfl,q⟩
 rw[YQ]
 omega
noncomputable def rCat:R2:=λx y H Q=>∃l b xs zs,x=.ref l/\y=.ref b/\H l=some (.lst xs)/\H b=some (.lst zs)/\xs.length+zs.length<=sizeLine/\∀p,H p=none->Q (.ref p) (upd H p (.lst (xs++zs)))
theorem Zhk:OpR X (binaryOp .Add) rCat:=by
 intro pins s σ H x y v u Q I rx ry h
 obtain⟨l,b,xs,zs,rfl,rfl,hH,hB,hz,q⟩:=h
 cases rx
 cases ry
 obtain⟨z,its,n,r,hl,e⟩:=I.Zi9 hH
 obtain⟨z2,its2,n2,r2,hl2,e2⟩:=I.Zi9 hB
 refine PySem.P.add_list e e2 ?_ (by rw[Yp,Yp];omega)
 have ea:its.toArray++its2.toArray=(its++its2).toArray:=by simp
 rw[ea]
 exact⟨.ref _,_,I.lnew (t':=s.toks) (r.append r2) (by rw[YQ];omega),rfl,q _ I.fresh⟩
noncomputable def rRep:R2:=λx y H Q=>∃l k xs,x=.ref l/\y=.int k/\H l=some (.lst xs)/\-(2 ^ 63)<=k/\k<2 ^ 63/\xs.length*k.toNat<=sizeLine /\
 ∀p,H p=none->Q (.ref p) (upd H p (.lst (List.replicate k.toNat xs).flatten))
theorem len_rep {α:Type} (xs:List α) (k:Nat):(List.replicate k xs).flatten.length=k*xs.length:=by
 induction k with
 |zero=>simp
 |succ k ih=>rw[List.replicate_succ,List.flatten_cons,YQ,ih,Nat.succ_mul,Nat.add_comm]
theorem op_rep:OpR X (binaryOp .Mult) rRep:=by
 intro pins s σ H x y v u Q I rx ry h
 obtain⟨l,k,xs,rfl,rfl,hH,h1,h2,hz,q⟩:=h
 cases rx
 obtain⟨t,rfl⟩:=ry
 obtain⟨z,its,n,r,hl,e⟩:=I.Zi9 hH
 have hlen:its.toArray.size*k.toNat<=sizeLine:=by rw[Yp,<-hl];exact hz
 have hcap:¬ its.toArray.size*k.toNat>(2 ^ 63-1) / 8:=by
  have:(sizeLine:Nat)<=(2 ^ 63-1) / 8:=by decide
  omega
 have hfit:¬ (!Builtin.List.listFitsIndex k)=true:=by
  rw[fitsIndex_both h1 h2]
  exact YL
 have hlong:¬ Builtin.List.listTooLong (its.toArray.size*k.toNat)=true:=by
  rw[ZjX hlen]
  exact YL
 have hnew:List.foldl (λx1 x2=>x1++x2) #[] (List.replicate (if its.toArray.isEmpty=true then 0 else k.toNat) its.toArray)=(List.replicate k.toNat its).flatten.toArray:=by
  have f0:∀m:Nat,List.foldl (λx1 x2=>x1++x2) #[] (List.replicate m its.toArray)=(List.replicate m its).flatten.toArray:=λm=>by
   have:=foldl_rep its m []
   rw[List.nil_append]at this
   exact this
  rw[f0]
  cases its with
  |nil=>simp
  |cons a r'=>rw[Yb (by simp)]
 refine wpAny_binaryOp_repeat_ref (T:="list") (U:="int") nofun ⟨_,e,rfl⟩ (λs'=>typeIs_int s' k t) noFill_list_mul F.fills_int_mul F.slot_int_rmul repeat_list F.slot_int_index.lookup
  (call_meets F.slot_int_rmul (typeIs_int s k t) F.entry_int_rmul (F.args_int_rmul_2 _ _) (int___rmul___int_list k t l its.toArray n)
   ⟨e,rfl,⟨_,e,rfl⟩,call_meets F.slot_list_mul ⟨_,e,rfl⟩ F.entry_list_mul (F.args_list_mul_2 _ _) (AutoListH.list___mul___list_int_3 l its.toArray n k t hfit hcap hlong) ⟨e,?_⟩⟩)
 rw[hnew]
 exact⟨.ref _,_,I.lnew (t':=s.toks) (r.rep k.toNat) (by rw[len_rep,Nat.mul_comm];exact hz),rfl,q _ I.fresh⟩
end
end Lake
namespace Att
open PySem PySem.W PySem.Calls PyProof.Rows
theorem ZgW {P:Params}{h:Heap}:∀(ns:List Int) (vs:List Value),WellAll P h vs (ns.map WData.int)->IntsAre vs ns:=by
 intro ns
 induction ns with
 |nil =>
  intro vs w
  rw[List.map_nil]at w
  cases w
  exact .nil
 |cons n ns ih =>
  intro vs w
  rw[YJ]at w
  cases w with
  |cons a b =>
   cases a
   exact .cons _ _ (ih _ b)
theorem Zmz {l:OpenLaw}{n:Nat} (hn:l.most=some n) {P:Params}{h:Heap}{args:List WData}{vals:List Value}
  (hpre:l.row.toRowW.claim.pre args=true) (hwl:WellAll P h vals args) :
  ∃a vs ns,vals=[Value.ref a]/\args=[WData.list (ns.map WData.int)]/\h.get? a=some {cls:=.type "list",data:=.seq vs.toArray}/\IntsAre vs ns/\ns.length<=n:=by
 have hsh:WShape.hasAll [] args [.list .int]=true:=(pre_splitW hpre).1
 have hc:l.pre.holds [] {args:=args}=true:=(pre_splitW hpre).2
 obtain⟨d,r,rfl,h1,h2⟩:=hasAllW_cons hsh
 obtain rfl:=hasAllW_nil h2
 obtain⟨xs,rfl,h3⟩:=hasW_list h1
 obtain⟨ns,rfl⟩:=items_int h3
 have hlen:ns.length<=n:=by
  unfold OpenLaw.pre at hc
  have h4:(WTm.not (.lt (.lit (.int (n:Int))) (.len (.arg 0)))).holds [] {args:=[.list (ns.map .int)]}=true:=by
   have h4:=(holds_andW hc).1
   rw[hn]at h4
   exact h4
  have h5:=condW_of h4 (w_not (w_lt w_lit (w_len_list (w_arg rfl))))
  rw[Yh]at h5
  refine Nat.le_of_not_lt λq=>?_
  have q':(n:Int)<((ns.length:Nat):Int):= ⋯
  first
   |(rw[Yu q']at h5;exact absurd h5 nofun)
   |(simp at h5;omega)
 cases hwl with
 |cons w1 w2 =>
  cases w2
  cases w1 with
  |list ho hall=>exact⟨_,_,ns,rfl,rfl,ho,ZgW ns _ hall,hlen⟩
theorem ZmA (l:OpenLaw) (args:List WData):l.row.toRowW.claim.post args (.bool true) args=true :=
 postW_of (r:=l.row.toRowW) (X:=(true==true))
  (show WShape.has [] (.bool true) .bool=true by first|rfl|decide|simp[WShape.has,WShape.arms,WShape.armsAll])
  (show(WTm.eq .res (.lit (.bool true))).value [] {args:=args,res:=some (.bool true),after:=args}=some (.bool (true==true))from w_eq_bool (w_res rfl) w_lit) rfl
theorem ZjY {l:OpenLaw}{n:Nat}{q:Program}{loose:List Str}{XP:(Str->Option Value)->Heap->Prop}{YP:World->Heap->Prop}{d:DefRec}
  (hn:l.most=some n) (hdf:d.params.defaults=[])
  (call:∀(w:World) (s₀ s₁:Shared) (mg mb:Str->Option Value) (fa:Addr) (o:Obj) (pm cd doc:Value) (a:Addr) (vs:List Value) (ns:List Int),
   Ground q loose [] XP w s₀ mg mb s₁.heap->YP w s₁.heap ->
   s₁.heap.get? fa=some o->o.data=.func (docDef d.name d.params d.body d.scope pm cd doc)->s₁.heap.CodeRec cd d.name->mg d.name=some (.ref fa) ->
   s₁.heap.get? a=some {cls:=.type "list",data:=.seq vs.toArray}->IntsAre vs ns->ns.length<=n->s₁.gens=#[] ->
   codeAny (model l.prog w) callerA (.call (.ref fa) ⟨[.ref a],[]⟩) (λr s'=>r=.ok (.ret (.bool true))/\OldK s₁.heap s'.heap/\s'.os=s₁.os/\AllBare s'.gens) s₁) :
  WalkO q loose XP YP l.row.toRowW d [] (λf vs=>PySem.call f vs):=by
 intro w s₀ s₁ mg mb G Y fa o pm cd doc dV kV ho hd hcd hD hmg hg args vals as hpre hlay hrd hwl hlo
 obtain rfl:dV=.none:=Dflts.none hD hdf
 obtain rfl:kV=.none:=Dflts.noKw hD
 obtain⟨a,vs,ns,rfl,rfl,hobj,hints,hlen⟩:=Zmz hn hpre hwl
 refine enter_call (codeAny_mono (call w s₀ s₁ mg mb fa o pm cd doc a vs ns G Y ho (fd_plain hd) hcd hmg hobj hints hlen hg) λr s' hq=>?_)
 obtain⟨rfl,h2,h3,h4⟩:=hq
 exact⟨.inl ⟨.bool true,.bool true,[],rfl,λ_=>rfl,.bool true,ZmA l _,λ_=>⟨List.Pairwise.nil,λ_ hm=>(nomatch hm)⟩⟩,h2,h3,h4⟩
end Att
namespace Lake
open PySem PySem.Spec PyProof.Rows
theorem ZeC:∀{vs:List Value}{ns:List Int},IntsAre vs ns->Vals (ns.map V.int) vs
 |_,_,.nil=>.nil
 |_,_,.cons n t h=>.cons ⟨t,rfl⟩ (ZeC h)
noncomputable def defArgs (s:Stmt):Arguments:=match s with
 |.FunctionDef _ a _ _ _ _ _ _ _ _=>a
 |_=>{posonlyargs:=[],args:=[],vararg:=none,kwonlyargs:=[],kw_defaults:=[],kwarg:=none,defaults:=[]}
noncomputable def defBody (s:Stmt):List Stmt:=match s with
 |.FunctionDef _ _ b _ _ _ _ _ _ _=>b
 |_=>[]
noncomputable def defScope (s:Stmt):Scope:=match s with
 |.FunctionDef _ _ _ _ _ _ sc _ _ _=>sc
 |_=>{kind:=.function,names:=[],isGenerator:=false,isCoroutine:=false}
noncomputable abbrev E0:XK:=λ_ _ _=>False
structure Fun (K:PySem.W.Frag) (x qual:Str) (st:Stmt) (f:Addr) (fd:FuncData):Prop where
 ex:∃(oc:Value) (od:Option Addr) (kV doc pm:Value) (an:Option Addr) (cdv ct:Value) (osl:Array (Option Value)),
  fd=PySem.W.fnOf x qual (defArgs st) (defBody st) (defScope st) .none kV doc pm an cdv ct/\K.lookup f=some ⟨oc,od,.func fd,osl⟩/\PySem.W.codeIn K cdv qual=true
 kp:PySem.W.keepIn K (.ref f)=true
section
variable {P:Program}{w:World}{K:PySem.W.Frag}{mg:Str->Option Value}{base:Heap}
theorem Fun.binds {x qual:Str}{st:Stmt}{f:Addr}{fd:FuncData}{ps:List Str} (F:Fun K x qual st f fd)
  (h:∀(kV doc pm:Value) (an:Option Addr) (cdv ct:Value) (us:List Value),us.length=ps.length->bindArgs (PySem.W.fnOf x qual (defArgs st) (defBody st) (defScope st) .none kV doc pm an cdv ct) ⟨us,[]⟩=pure (ps.zip us)):Binds K fd ps []:=by
 obtain⟨oc,od,kV,doc,pm,an,cdv,ct,osl,rfl,lk,hcd⟩:=F.ex
 exact .all (h kV doc pm an cdv ct)
theorem ZE {x qual:Str}{st:Stmt}{f:Addr}{oc:Value}{od an:Option Addr}{osl:Array (Option Value)}{kV doc pm cdv ct:Value} (l:K.lookup f=some ⟨oc,od,.func (PySem.W.fnOf x qual (defArgs st) (defBody st) (defScope st) .none kV doc pm an cdv ct),osl⟩)
  (c:PySem.W.codeIn K cdv qual=true) (k:PySem.W.keepIn K (.ref f)=true):Fun K x qual st f (PySem.W.fnOf x qual (defArgs st) (defBody st) (defScope st) .none kV doc pm an cdv ct):=⟨⟨oc,od,kV,doc,pm,an,cdv,ct,osl,rfl,l,c⟩,k⟩
end
theorem ZjZ {A:Around}{k:Nat} (hr:Room k A):A.units+1<cLine:=YA (Nat.add_le_add_left (by decide:1<=64) _) hr.units
section
variable {X:Cx}
theorem pv (i:Nat) {x:Str}{pos:Pos} (hN:X.N[i]?=some x:=by rfl) (hv:Vis X.env.scope x:=by ac_rfl) (hd:(x==("__debug__":Str))=false:=by decide)
  (hcd:(x==("__classdict__":Str))=false:=by decide):PE X (.Name x pos) (tVar i):=pe_var hN hv hd hcd
end
theorem iteT {A B:Prop} (h:A):if true=true then A else B:=by
 rw[Yd rfl]
 exact h
theorem Zy {c A B:Prop} [Decidable c] (h1:c->A) (h2:¬ c->B):if c then A else B:=by
 by_cases h:c
 .rw[Yd h]
  exact h1 h
 .rw[Yb h]
  exact h2 h
noncomputable def Zd (H H':Hp):Prop:=∀b o,H b=some o->H' b=some o
theorem Zd.refl (H:Hp):Zd H H:=λ_ _ h=>h
theorem Zd.trans {H H1 H2:Hp} (a:Zd H H1) (b:Zd H1 H2):Zd H H2:=λc o h=>b c o (a c o h)
theorem Zd.free {H H':Hp} (e:Zd H H') {l:Addr} (h:H' l=Option.none):H l=Option.none:=by
 cases q:H l with
 |none=>rfl
 |some o =>
  rw[e l o q]at h
  cases h
theorem Zd.seq {K:PySem.W.Frag}{H H':Hp}{a:Addr}{xs:List V} (e:Zd H H') (h:SqL K H a xs):SqL K H' a xs:=by
 rcases h with(h|⟨o,h⟩)|h
 .exact .inl (.inl (e _ _ h))
 .exact .inl (.inr ⟨o,e _ _ h⟩)
 .exact .inr h
theorem ZcQ {env:Env}:∀(names:List (Str×NameKind)) (cs0:List (Str×Addr)),(∀y∈names,y.2=.free->∃c,env.cells.lookup y.1=some c) ->
  ∃cl,(forIn names cs0 (λ(x:Str×NameKind) r=>(do
   match x with
   |(name,kind)=>if (kind==NameKind.free)=true then do let a <-cellOf env name;pure (ForInStep.yield ((name,a)::r))else pure (ForInStep.yield r)):_->_->Sem (ForInStep (List (Str×Addr)))))=pure cl /\
   (∀p∈cl,p∈cs0\/env.cells.lookup p.1=some p.2)/\(∀p∈cs0,p∈cl)/\(∀y∈names,y.2=.free->∃c,(y.1,c)∈cl)
 |[],cs0,_=>⟨cs0,rfl,λp h=>.inl h,λp h=>h,λy h=>by cases h⟩
 |(n,k)::r,cs0,h=>by
  by_cases hk:k=.free
  .subst hk
   obtain⟨c,hc⟩:=h (n,.free) (.head _) rfl
   obtain⟨cl,e,h1,h2,h3⟩:=ZcQ r ((n,c)::cs0) λy hy=>h y (.tail _ hy)
   refine⟨cl,?_,λp hp=>?_,λp hp=>h2 p (.tail _ hp),λy hy hf=>?_⟩
   .rw[List.forIn_cons]
    have e1:cellOf env n=pure c:=by unfold cellOf;rw[hc]
    simp only[beq_self_eq_true,if_true,e1,pure_bind]
    exact e
   .rcases h1 p hp with q|q
    .rcases Yi.mp q with q|q
     .subst q;exact .inr hc
     .exact .inl q
    .exact .inr q
   .rcases Yi.mp hy with q|q
    .subst q;exact⟨c,h2 _ (.head _)⟩
    .exact h3 y q hf
  .obtain⟨cl,e,h1,h2,h3⟩:=ZcQ r cs0 λy hy=>h y (.tail _ hy)
   refine⟨cl,?_,h1,h2,λy hy hf=>?_⟩
   .rw[List.forIn_cons]
    have e1:(k==NameKind.free)=false:=by cases k<;>first|rfl|exact absurd rfl hk
    simp only[e1,Bool.false_eq_true,if_false,pure_bind]
    exact e
   .rcases Yi.mp hy with q|q
    .subst q;exact absurd hf hk
    .exact h3 y q hf
theorem ZkU {env:Env}{scope:Scope} (h:∀y∈scope.names,y.2=.free->∃c,env.cells.lookup y.1=some c) :
  ∃cl,closureFor scope env=pure cl/\(∀x c,cl.lookup x=some c->env.cells.lookup x=some c)/\(∀y∈scope.names,y.2=.free->∃c,cl.lookup y.1=some c/\env.cells.lookup y.1=some c):=by
 obtain⟨cl,e,h1,h2,h3⟩:=ZcQ (env:=env) scope.names [] h
 have up:∀x c,cl.lookup x=some c->env.cells.lookup x=some c:=λx c q=>by
  rcases h1 _ (PySem.mem_of_lookup q)with z|z
  .cases z
  .exact z
 refine⟨cl,?_,up,λy hy hf=>?_⟩
 .unfold closureFor
  simp only[bind_pure_comp]at e⊢
  rw[e]
  exact pure_bind _ _
 .obtain⟨c,hc⟩:=h3 y hy hf
  cases q:cl.lookup y.1 with
  |none=>exact absurd (List.lookup_eq_none_iff.mp q _ hc) (by simp)
  |some c'=>exact⟨c',rfl,up _ _ q⟩
noncomputable def compOk (around scope:Scope):Bool :=
 scope.kind==.function&&around.kind==.function&&scope.names.all λy=>match y.2 with
  |.local=>scope.names.lookup y.1==some .local
  |.cell=>false
  |.free=>(scope.names.lookup y.1==some .free)&&(around.names.lookup y.1==some .cell||around.names.lookup y.1==some .free)
  |_=>true
theorem Zgu {a s:Scope} (h:compOk a s=true):s.kind=.function:=by
 simp only[compOk,Bool.and_eq_true,beq_iff_eq]at h;exact h.1.1
theorem ZiB {a s:Scope} (h:compOk a s=true) {y:Str×NameKind} (hy:y∈s.names):(match y.2 with
  |.local=>s.names.lookup y.1==some .local
  |.cell=>false
  |.free=>(s.names.lookup y.1==some .free)&&(a.names.lookup y.1==some .cell||a.names.lookup y.1==some .free)
  |_=>true)=true:=by
 simp only[compOk,Bool.and_eq_true]at h
 exact List.all_eq_true.mp h.2 y hy
theorem Zgv {a s:Scope} (h:compOk a s=true):∀y∈s.names,y.2≠.cell:=λy hy e=>by
 have q:=ZiB h hy
 rw[e]at q
 cases q
theorem Zgw {a s:Scope} (h:compOk a s=true):∀y∈s.names,y.2=.free->a.names.lookup y.1=some .cell\/a.names.lookup y.1=some .free:=λy hy e=>by
 have q:=ZiB h hy
 rw[e]at q
 simp only[Bool.and_eq_true,Bool.or_eq_true,beq_iff_eq]at q
 exact q.2
theorem ZaB {env:Env}:∀{names:List (Str×NameKind)}{x:Str}{k:NameKind},(names.map λ(n,k)=>if (k==NameKind.free&&env.scope.kind==.function&&env.kindOf n==some .cell)then (n,NameKind.cell)else (n,k)).lookup x=some k ->
  ∃k',names.lookup x=some k'/\(k=k'\/(k'=.free/\k=.cell))
 |[],_,_,h=>by simp at h
 |(n,k0)::r,x,k,h=>by
  by_cases hx:x=n
  .subst hx
   refine⟨k0,by simp,?_⟩
   simp only[YJ]at h
   split at h
   .rename_i hc
    simp only[Bool.and_eq_true,beq_iff_eq]at hc
    simp only[List.lookup_cons_self,Option.some.injEq]at h
    exact .inr ⟨hc.1.1,h.symm⟩
   .simp only[List.lookup_cons_self,Option.some.injEq]at h
    exact .inl h.symm
  .have hb:(x==n)=false:=by simpa using hx
   simp only[YJ]at h
   have e2:∀k1,((n,k1)::r).lookup x=r.lookup x:=λk1=>by simp[List.lookup_cons,hb]
   split at h<;>(simp only[List.lookup_cons,hb]at h;obtain⟨k',h1,h2⟩:=ZaB h;exact⟨k',by rw[e2];exact h1,h2⟩)
noncomputable def ZnV (X:Cx) (Nc:List Str) (scope:Scope) (cl:List (Str×Addr)) (C:Addr) (s2:Shared) (H2:Hp) (fp:List Addr):Cx where
 prog:=X.prog
 w:=X.w
 K:=X.K
 mg:=X.mg
 base:=X.base
 A:=X.A
 N:=Nc
 s₀:=s2
 H₀:=H2
 env:=compEnvC scope cl C X.env
 outer:=X.stack
 stack:=X.stack
 ex:=fp
 fn:=λ_=>false
 calm:=X.calm
 pn:=[]
 xe:=λ_ _=>False
noncomputable def iniC (js:List (Option Nat)) (σ:St):St:=js.map λj=>match j with
 |none=>none
 |some i=>(σ[i]?).join
noncomputable def takesC (N Nc:List Str) (scope:Scope):List (Option Nat)->Nat->Bool
 |[],i=>i==Nc.length
 |none::r,i=>takesC N Nc scope r (i+1)
 |some j::r,i=>(match Nc[i]?,N[j]? with
  |some x,some y=>x==y&&scope.names.lookup x==some .free
  |_,_=>false)&&takesC N Nc scope r (i+1)
theorem ZcR {N Nc:List Str}{scope:Scope}:∀{js:List (Option Nat)}{i:Nat},takesC N Nc scope js i=true->i+js.length=Nc.length
 |[],i,h=>by simpa[takesC]using h
 |none::r,i,h=>by
  have:=ZcR (js:=r) (i:=i+1) (by simpa[takesC]using h)
  simp only[YI];omega
 |some j::r,i,h=>by
  simp only[takesC,Bool.and_eq_true]at h
  have:=ZcR (js:=r) (i:=i+1) h.2
  simp only[YI];omega
theorem ZeD {N Nc:List Str}{scope:Scope}:∀{js:List (Option Nat)}{i k j:Nat},takesC N Nc scope js i=true->js[k]?=some (some j)->∃x,Nc[i+k]?=some x/\N[j]?=some x/\scope.names.lookup x=some .free
 |[],i,k,j,h,e=>by simp at e
 |none::r,i,0,j,h,e=>by simp at e
 |none::r,i,k+1,j,h,e=>by
  obtain⟨x,h1,h2,h3⟩:=ZeD (js:=r) (i:=i+1) (k:=k) (j:=j) (by simpa[takesC]using h) (by simpa using e)
  exact⟨x,by rw[<-h1];congr 1;omega,h2,h3⟩
 |some j0::r,i,0,j,h,e=>by
  simp only[takesC,Bool.and_eq_true]at h
  simp only[List.getElem?_cons_zero,Option.some.injEq]at e
  subst e
  cases e1:Nc[i]? with
  |none=>rw[e1]at h;simp at h
  |some x =>
   cases e2:N[j0]? with
   |none=>rw[e1,e2]at h;simp at h
   |some y =>
    rw[e1,e2]at h
    simp only[Bool.and_eq_true,beq_iff_eq]at h
    exact⟨x,by simpa using e1,by rw[h.1.1],h.1.2⟩
 |some j0::r,i,k+1,j,h,e=>by
  simp only[takesC,Bool.and_eq_true]at h
  obtain⟨x,h1,h2,h3⟩:=ZeD (js:=r) (i:=i+1) (k:=k) (j:=j) h.2 (by simpa using e)
  exact⟨x,by rw[<-h1];congr 1;omega,h2,h3⟩
section
variable {X:Cx}
theorem lookup_mem {names:List (Str×NameKind)}{x:Str}{k:NameKind} (h:names.lookup x=some k):(x,k)∈names:=PySem.mem_of_lookup h
theorem ZdV {prog:Program}{w:World}{A:Around}{R:Result->Shared->Prop}{s:Shared}{elt target iter:Expr}{ifs:List Expr}{scope:Scope}{pos:Pos}{it acc:Value}{env:Env} (I:Nat->Shared->Prop)
  (turn:∀n s,I n s->wpAny (model prog w) A (pyNext it) (λr s₁=>match r with
   |none=>R (.ok .next) s₁
   |some v=>wpAny (model prog w) A (letOwnedTupleGo target it v) (λ_ s₁=>wpAny (model prog w) A (assign target env v) (λ_ s₂ =>
     wpAny (model prog w) A (forIn ifs true λc r=>if r=true then do let ok <-isTrue c env (eval c env);pure (ForInStep.yield ok)else pure (ForInStep.yield r)) (λok s₃ =>
      if ok=true then wpAny (model prog w) A (eval elt env) (λx s₄ =>
       wpAny (model prog w) A (call (.builtin "list.append") [acc,x]) (λ_ s₅=>∃m,m<n/\I m s₅) (λ_ _=>False) s₄) (λ_ _=>False) s₃
      else ∃m,m<n/\I m s₃) (λ_ _=>False) s₂) (λ_ _=>False) s₁) (λ_ _=>False) s₁) (λ_ _=>False) s)
  (n:Nat) (h:I n s) :
  codeAny (model prog w) A (.compLoop (.ListComp elt [⟨target,iter,ifs,0⟩] scope pos) 0 it acc env) R s:=by
 refine codeAny_loop rfl I (λn s hI=>?_) n h
 show wpAny _ A ((compTurn (.ListComp elt [⟨target,iter,ifs,0⟩] scope pos) 0 it acc env).onRaise (λx=>do noteFrame x env;theTreesLotGoes x)) _ _ s
 refine wpAny_noted ?_
 rw[compTurn_list]
 refine Ya (wpAny_standAt (Ya (YM (turn n s hI) (λr s₁ h₁=>?_) λ_ _ h'=>h'.elim)))
 cases r with
 |none=>exact Yc h₁
 |some v =>
  refine Ya (YM h₁ (λ_ s₁' h₁=>?_) λ_ _ h'=>h'.elim)
  refine Ya (YM h₁ (λ_ s₂ h₂=>Ya (YM h₂ (λok s₃ h₃=>?_) λ_ _ h'=>h'.elim)) λ_ _ h'=>h'.elim)
  cases ok with
  |false=>exact Yc ⟨rfl,h₃⟩
  |true =>
   exact Ya (Ya (YM h₃ (λx s₄ h₄=>Ya (YM h₄ (λ_ s₅ h₅=>Yc (Yc ⟨rfl,h₅⟩)) λ_ _ h'=>h'.elim)) λ_ _ h'=>h'.elim))
noncomputable def ZmB (X:Cx) (ifs:List Expr) (t:TT):Prop :=
 ∀(pins:List (Addr×Obj)) (s:Shared) (σ:St) (H:Hp) (Q:Bool->Hp->Prop),Inv X pins σ H s->t σ H Q ->
  wpAny (model X.prog X.w) X.A (forIn ifs true λc r=>if r=true then do let ok <-isTrue c X.env (eval c X.env);pure (ForInStep.yield ok)else pure (ForInStep.yield r)) (TP X pins σ Q) X.xe s
noncomputable def tYes:TT:=λ_ H Q=>Q true H
theorem ZW:ZmB X [] tYes:=λpins s σ H Q I h=>wpAny_tests_nil ⟨H,I,h⟩
theorem Zaa {c:Expr}{t:TT} (h:PT X c t):ZmB X [c] t:=λpins s σ H Q I hq=>wpAny_tests_one (h pins s σ H Q I hq)
noncomputable def ZnW (L:List Nat) (σ σ':St):Prop:=σ'.length=σ.length/\∀k,k∉L->σ'[k]?=σ[k]?
noncomputable def ZlM (g:TG) (L:List Nat):Prop:=∀v σ H (Q Q':St->Hp->Prop),(∀σ' H',ZnW L σ σ'->Q σ' H'->Q' σ' H')->g v σ H Q->g v σ H Q'
theorem Zt {i:Nat}:ZlM (gName i) [i]:=λv σ H Q Q' hq h=>hq _ _ ⟨by simp,λk hk=>by
 rw[List.getElem?_set_ne]
 intro z;subst z;exact hk (by simp)⟩ h
noncomputable def ZlN (wi:TI) (g:TG) (tt:TT) (te:TE) (js:List (Option Nat)):TE:=fun σ H Q=>wi σ H λJ H1=>∃W:Nat->Nat->List V->Hp->Prop,(∃m,W 0 m [] H1)/\∀i m acc H,W i m acc H ->
 (J.stop i H/\acc.length<=sizeLine/\∀p,H p=none->Q (.ref p) (upd H p (.lst acc))) \/
 (J.go i H/\acc.length<sizeLine/\∀x H',J.yld i H x H'->g x (iniC js σ) H' fun σ2 H2=>tt σ2 H2 λb H3=>if b=true then te σ2 H3 λv H4=>∃m',m'<m/\W (i+1) m' (acc++[v]) H4 else ∃m',m'<m/\W (i+1) m' acc H3)
theorem Zja {C:Addr}{h:Heap}:Heap.SameBut C h h:=by
 first|exact Heap.SameBut.refl|exact⟨rfl,λ_ _=>rfl⟩
end
end Lake
namespace Lake
open PySem PySem.Spec PyProof.Rows PySem.W PySem.Builtin.ObjectAttr PySem.Builtin.Getset_descriptor
noncomputable def Zj0 (x C:Addr) (h:Heap):Prop:=∃o,h.get? x=some o/\o.cls=.ref C
structure ExK (K:Frag) (C:Addr):Prop where
 dk:hasDictIn K C=true
 ga:findIn K (.ref C) "__getattribute__"=some (some (.builtin "BaseException.__getattribute__"))
 gt:findIn K (.ref C) "__getattr__"=some none
 cl:findIn K (.ref C) "__class__"=some (some (.builtin "object.__class__"))
 gg:specialIn K (.builtin "object.__class__") "__get__"=some (some (.builtin "getset_descriptor.__get__"))
 tk:takesIn K (.builtin "object.__class__")=some true
 mo:mroIn K C (.type "object")=some true
 mb:mroIn K C (.type "BaseException")=some true
section
variable {K:Frag}{x C:Addr}
theorem Zj0.type {M:Model}{h:Heap} (I:Zj0 x C h):Looks M h (typeOf (.ref x)) (.ref C):=by
 obtain⟨o,e,c⟩:=I
 exact c▸(Looks.ld e).andThen .now
theorem ZnX {M:Model}{h:Heap} (X:K.In h) (Z:ExK K C):Looks M h (find (.ref x) (.ref C) "__class__") (.bind (.builtin "getset_descriptor.__get__") (.builtin "object.__class__")):=by
 have L3:=looks_takesIn (M:=M) X Z.tk
 exact(looks_findIn (M:=M) X Z.cl).andThen ((looks_specialIn X Z.gg).andThen
  ((show Looks M h (dataDescriptor? (some (.builtin "object.__class__")) (some (.builtin "getset_descriptor.__get__"))) (some (.builtin "getset_descriptor.__get__",.builtin "object.__class__"))from L3.andThen .now).andThen (Looks.tag .now)))
theorem Zq5 {prog:Program}{w:World}{A:Around}{R:Result->Shared->Prop}{s:Shared}{tp:Value} (X:K.In s.heap) (I:Zj0 x C s.heap) (Z:ExK K C) (hR:R (.ok (.ret (.ref C))) s) :
  codeAny (model prog w) A (.call (.builtin "getset_descriptor.__get__") ⟨[.builtin "object.__class__",.ref x,tp],[]⟩) R s:=by
 obtain⟨hp,gn,dw,tk,os⟩:=s
 have L0:=I.type (M:=model prog w)
 have L1:=looks_mroIn (M:=model prog w) X Z.mo
 refine codeAny_call_builtin KF.slot_gs.plain KF.entry_gs (KF.slot_gs.check _ _ _ _ _ _ _ _ KF.type_class (KF.args_gs _ _ _) ?_)
 unfold Builtin.«getset_descriptor.__get__» descrGet;rw[dga_obj];refine Ya (Yc ?_)
 unfold descrGetter descrCheckInstance descrNameAndClass isInstance;simp only[KF.owner_class]
 repeat lk
 refine⟨Code.quiet_builtin _ (by decide +kernel),codeAny_builtin KF.entry_class ?_⟩;unfold Builtin.«object.__class__» shownTypeOf
 repeat lk
 exact hR
theorem ZmC {prog:Program}{w:World}{A:Around}{E:Value->Shared->Prop}{s:Shared}{tk:Tok}{Q:Fin->Shared->Prop} (X:K.In s.heap) (I:Zj0 x C s.heap) (Z:ExK K C) (hQ:Q (.done (.ret (.ref C))) s) :
  wpAny (model prog w) A (Builtin.«object.__getattribute__» ⟨[.ref x,.str "__class__" tk],[]⟩) Q E s:=by
 obtain⟨hp,gn,dw,t,os⟩:=s
 have L0:=I.type (M:=model prog w)
 have L2:=ZnX (M:=model prog w) (x:=x) X Z
 unfold Builtin.«object.__getattribute__»
 refine Ya (Yc (Ya (Yc (Ya (L0.at (Ya (L2.at ?_)))))))
 show wpAny _ _ (holding _ (call _ _) >>= ret) _ _ _
 exact Ya (YE (wpAny_call (Zq5 (s:=⟨hp,gn,dw,t,os⟩) X I Z (Yc hQ))))
theorem ZmD {M:Model}{A:Around}{E:Value->Shared->Prop}{s:Shared}{nameV:Value}{Q:Unit->Shared->Prop} (X:K.In s.heap) (I:Zj0 x C s.heap) (Z:ExK K C) (hq:Q () s) :
  wpAny M A (checkBuiltinCall "BaseException.__getattribute__" ⟨[.ref x,nameV],[]⟩) Q E s:=by
 obtain⟨hp,gn,dw,t,os⟩:=s
 have hk:builtinKind "BaseException.__getattribute__"=some .slot:=by decide +kernel
 have hsplit:splitId "BaseException.__getattribute__"=some ("BaseException","__getattribute__"):=by decide +kernel
 have L0:=I.type (M:=M)
 have L1:=looks_mroIn (M:=M) X Z.mb
 have ha:=F.args_bexc_ga (.ref x) nameV
 simp only[checkBuiltinCall,hk,hsplit]
 refine Ya ?_
 unfold isInstance
 refine Ya (L0.at (L1.at ?_))
 repeat (first|assumption|wp_step)
theorem ZmE {prog:Program}{w:World}{A:Around}{E:Value->Shared->Prop}{s:Shared}{Q:Option Value->Shared->Prop} (X:K.In s.heap) (I:Zj0 x C s.heap) (Z:ExK K C) (hQ:Q (some (.ref C)) {s with toks:=s.toks+1}) :
  wpAny (model prog w) A (getAttr? (.ref x) "__class__") Q E s:=by
 obtain⟨hp,gn,dw,tk,os⟩:=s
 have L0:=I.type (M:=model prog w)
 have L1:=looks_findIn (M:=model prog w) X Z.ga
 have L3:=looks_findIn (M:=model prog w) X Z.gt
 have hb:=(F.attrBase_ValueError.ga).bind (.ref x)
 unfold getAttr? getAttrBy? getAttrBy;refine Ya (wpAny_mkText (Ya (wpAny_attempt (YE (Ya (L0.at (Ya (L1.at ?_))))))))
 show wpAny _ _ (getAttrByItsOwn _ _ _ _ _ _) _ _ _
 unfold getAttrByItsOwn hookBefore
 refine Ya (L3.at ?_)
 refine Ya (wpAny_attempt (YE ?_))
 unfold callGetattribute
 show wpAny _ _ (boundAndCalled _ _ _) _ _ _
 unfold boundAndCalled
 rw[hb]
 refine Ya (Yc ?_)
 refine wpAny_call ?_
 refine codeAny_call_builtin F.attrBase_ValueError.ga.plain F.entry_bexc_ga (ZmD (s:=⟨hp,gn,dw,tk+1,os⟩) X I Z (ZmC (s:=⟨hp,gn,dw,tk+1,os⟩) X I Z ?_))
 exact handed_on rfl (Yc hQ)
theorem Zq6 (Z:ExK K C):KitX K (.ref x) (.ref C) (Zj0 x C) where
 ty:=λ_ _ _ I=>I.type
 it:=λ_ _ X _=>by
  obtain⟨cdD,hcD,_⟩:=any_some Z.dk
  unfold clsIn at hcD
  split at hcD
  .rename_i c' d' cd' sl' ho
   intro A' Q' E' s' k q
   unfold isType loadHead;exact Ya (wpAny_loadPart (k _ _ (X _ _ ho)) (Yc q))
  .cases hcD
 ne:=λh tp dd its n sl X htp=>by
  obtain⟨cdD,hcD,_⟩:=any_some Z.dk
  refine Bool.eq_false_iff.mpr λq=>?_
  have e:C=tp:=Value.ref.inj (beq_iff_eq.mp q);subst e
  unfold clsIn at hcD
  split at hcD
  .rename_i c' d' cd' sl' ho
   have z:=(X _ _ ho).symm.trans htp;cases z
  .cases hcD
 ca:=λX I k=>ZmE X I Z k
end
noncomputable def ZkV (e C:Addr):HO:=.ext (Zj0 e C)
noncomputable def tyIs (K:Frag) (H:Hp) (x:V) (c:Value) (b:Bool):Prop :=
 (∃t,TyOf K H x t/\kitOne K t c=some b)\/∃e C,x=.ref e/\H e=some (ZkV e C)/\ExK K C/\kitOne K (.ref C) c=some b
noncomputable def cOf:V->Option Value
 |.ref a=>some (.ref a)
 |.ty n=>some (.type n)
 |_=>none
section
variable {X:Cx}
noncomputable def rIsi (K:Frag):List V->Hp->VK->Prop:=λxs H Q=>∃x v c b,xs=[x,v]/\cOf v=some c/\tyIs K H x c b/\Q (.bl b) H
theorem ZnY:Zax X (.builtin "isinstance") (rIsi X.K):=by
 intro pins s σ H xs us Q I r h
 obtain⟨x,v,c,b,rfl,hc,ht,q⟩:=h
 obtain⟨u,u2,rfl,ru,ru2⟩:=r.two
 have e2:u2=c:=by
  cases v with
  |ref a=>have:=(show u2=Value.ref a from ru2);cases hc;exact this
  |ty n=>have:=(show u2=Value.type n from ru2);cases hc;exact this
  |_=>cases hc
 subst e2
 have fin:∀tk,EP X pins σ Q (.bool b) {s with toks:=tk}:=λtk=>⟨.bl b,H,I.tok tk,rfl,q⟩
 rcases ht with⟨t,ty,e⟩|⟨e,C,rfl,hH,Z,e1⟩
 .exact Zmv I ru ty e fin
 .cases(show u=Value.ref e from ru)
  obtain⟨p,_,_⟩:=(show ZO X.prog X.w H s.heap e (ZkV e C)from I.hok e _ hH)
  exact kia_one (Zq6 Z) I.kIn p e1 (λz=>nomatch z) fin
end
end Lake
namespace Lake
open PySem PySem.Spec PyProof.Rows
theorem ZO.has {P:Program}{w:World}{H:Hp}{h:Heap}{a:Addr}{o:HO} (x:ZO P w H h a o):∃u,h.get? a=some u:=by
 induction o with
 |lst xs=>obtain⟨_,_,_,_,e⟩:=x;exact⟨_,e⟩
 |tup xs=>obtain⟨_,_,_,o,e,_⟩:=x;exact⟨_,e⟩
 |dK kvs=>obtain⟨_,_,_,_,o,_,_,e,_⟩:=x;exact⟨_,e⟩
 |dT kvs=>obtain⟨_,_,_,_,o,_,_,e,_⟩:=x;exact⟨_,e⟩
 |set S n=>obtain⟨o,_,_,_,e,_⟩:=x;exact⟨_,e⟩
 |ins C dx fs=>obtain⟨_,_,_,e,_⟩:=x;exact⟨_,e⟩
 |own y=>exact x
 |xd fs=>obtain⟨_,⟨_,_,_,e,_⟩,_⟩:=x;exact⟨_,e⟩
 |rng lo hi=>obtain⟨_,_,_,e⟩:=x;exact⟨_,e⟩
 |frz ob u _=>obtain⟨e,_⟩:=x;exact⟨_,e⟩
 |tbl ps=>obtain⟨_,e,_⟩:=x;exact⟨_,e⟩
 |met f y=>exact⟨_,x⟩
 |ext φ=>obtain⟨_,e,_⟩:=x;exact e
structure Fly (P:Program) (w:World) (outer:List Env) (H:Hp) (s:Shared) (H':Hp) (B:Heap) (e:Addr) (C a0:Value) (s':Shared):Prop where
 os:s'.os=s.os
 bare:AllBare s'.gens
 fly:Heap.FlyingW B outer e C a0 s'.heap
 hok:HOk P w H' B
 keep:∀b o,s.heap.get? b=some o->H b=none->b∉frs outer->B.get? b=some o
 slot:∀b o,s.heap.get? b=some o->b∈frs outer->(∀vs,o.data≠.fields vs)->∃sl,s'.heap.get? b=some {o with slots:=sl}
 free:∀b o,s.heap.get? b=some o->H b=none->H' b=none
 there:∀b o,s.heap.get? b=some o->b∉frs outer->∃o',B.get? b=some o'
 tups:∀b xs,H b=some (.tup xs)->H' b=some (.tup xs)
 frzs:∀b o u,H b=some (.frz o u)->H' b=some (.frz o u)
 tbls:∀b ps,H b=some (.tbl ps)->∃more,H' b=some (.tbl (ps++more))
noncomputable def CXE (P:Program) (w:World):CXT:=λouter H s E ev s'=>∃e C a0 H' B,ev=.ref e/\Fly P w outer H s H' B e C a0 s'/\E C none H'
theorem Zx {P:Program}{w:World}{X:Cx}:Passes (CXE P w) X E0:=λ_ _ _ _ _ _ _ ⟨_,_,_,_,_,_,_,z⟩=>z.elim
section
variable {P:Program}{w:World}{K:PySem.W.Frag}{mg:Str->Option Value}{base:Heap}{N:List Str}{qual:Str}{scope:Scope}{f:Addr}{cd:Value}{A:Around}{outer:List Env}{s:Shared}{H:Hp}{E:XK}
theorem Zjb {pins:List (Addr×Obj)}{σ:St}{H1:Hp}{s1:Shared}{h':Heap}{e:Addr}{C:Value}{vs:List Value} (I:Inv (ZeX (CXE P w) P w K mg base N qual scope f cd A outer s H E) pins σ H1 s1)
  (hx:Heap.MadeExcOf s1.heap h' e C vs) (hE:E C none H1):(ZeX (CXE P w) P w K mg base N qual scope f cd A outer s H E).xe (.ref e) {s1 with heap:=h'}:=by
 let env:=envOfC qual scope s.heap.objs.size f cd
 let B:=PySem.W.hideAll s1.heap (frs (env::outer))
 have hin:∀en∈(env::outer),∀b,en.frame=some b->b∈frs (env::outer):=λen he b hb=>List.mem_filterMap.mpr ⟨en,he,hb⟩
 have st:s1.heap.FunFrames base (env::outer):=I.stack
 have loc:∀b,b∈frs (env::outer)->b=s.heap.objs.size\/b∈frs outer:=λb hb=>Yi.mp (I.ZfX b hb)
 have old:∀b o,s.heap.get? b=some o->b∉frs outer->b∉frs (env::outer):=λb o q nb hb=>by
  rcases loc b hb with z|z
  .exact absurd (Yj q) (by rw[z];exact YB _)
  .exact nb z
 have un:Un (frs outer) [] H H1 s.heap s1.heap:=I.base
 have hokB:HOk P w H1 B:=λa o q=>by
  have nf:∀b o,H1 b=some o->b∉frs (env::outer):=λb o z hb=>by
   have:=I.Zg2 b hb
   rw[this]at z;cases z
  refine(I.hok a o q).ZfW (λb u hb z=>?_) (λ_ z=>z) (λ_ _ z=>z) λ_ _ _ z=>z
  rcases hb with hb|hb
  .rw[hb]at z⊢;exact PySem.W.hideAll_get _ z (nf a o q)
  .exact PySem.W.hideAll_get _ z (nf b _ hb)
 refine wpAny_leaves_madeW (base:=B) (h:=s1.heap) (env:=env) (outer:=outer) (L:=s.heap.objs.size) I.ok.frames rfl (λb o q=>PySem.W.of_hideAll _ q) (PySem.W.funFrames_hide st hin) hx λh2 t x1 x2 x3 x4=>?_
 refine⟨e,C,.ref t,H1,B,rfl,⟨I.os,I.bare,x1,hokB,λb o q n nb=>?_,λb o q hb hd=>?_,λb o q n=>un.free b o q n (by simp),λb o q nb=>?_,un.tups,un.frzs,un.tbls⟩,hE⟩
 .exact PySem.W.hideAll_get _ (un.keep b o q n nb (by simp)) (old b o q nb)
 .obtain⟨sl,z⟩:=un.slot b o q (I.ok.frf b hb) hb (by simp)
  obtain⟨sl2,z2⟩:=x4 b _ (hx.keeps _ _ z) hd
  exact⟨sl2,z2⟩
 .obtain⟨o',z⟩:=un.there b o q (by simp)
  exact⟨o',PySem.W.hideAll_get _ z (old b o q nb)⟩
theorem Zjc:Passes (CXE P w) (ZeX (CXE P w) P w K mg base N qual scope f cd A outer s H E) E:=by
 intro pins σ H1 s1 ev s2 I h
 obtain⟨e,C,a0,H',B,rfl,F,hE⟩:=h
 let env:=envOfC qual scope s.heap.objs.size f cd
 have un:Un (frs outer) [] H H1 s.heap s1.heap:=I.base
 have loc:∀b,b∈frs (env::outer)->b=s.heap.objs.size\/b∈frs outer:=λb hb=>Yi.mp (I.ZfX b hb)
 have old:∀b o,s.heap.get? b=some o->b∉frs outer->b∉frs (env::outer):=λb o q nb hb=>by
  rcases loc b hb with z|z
  .exact absurd (Yj q) (by rw[z];exact YB _)
  .exact nb z
 refine wpAny_leaves_onW (env:=env) (outer:=outer) (L:=s.heap.objs.size) I.ok.frames rfl F.fly λh2 x1 x2=>?_
 refine⟨e,C,a0,H',B,rfl,⟨F.os.trans I.os,F.bare,x1,F.hok,λb o q n nb=>F.keep b o (un.keep b o q n nb (by simp)) (un.free b o q n (by simp)) (old b o q nb),λb o q hb hd=>?_,λb o q n=>?_,λb o q nb=>?_,λb xs z=>F.tups b xs (un.tups b xs z),λb o u z=>F.frzs b o u (un.frzs b o u z),λb ps z=>?_⟩,hE⟩
 .obtain⟨sl,z⟩:=un.slot b o q (I.ok.frf b hb) hb (by simp)
  obtain⟨en,he,hf⟩:=List.mem_filterMap.mp hb
  obtain⟨sl2,z2⟩:=F.slot b _ z (List.mem_filterMap.mpr ⟨en,.tail _ he,hf⟩) hd
  obtain⟨sl3,z3⟩:=x2 b _ z2 hd
  exact⟨sl3,z3⟩
 .by_cases hb:b∈frs outer
  .have h1:H1 b=none:=un.free b o q n (by simp)
   obtain⟨sl,z⟩:=un.slot b o q n hb (by simp)
   exact F.free b _ z h1
  .exact F.free b o (un.keep b o q n hb (by simp)) (un.free b o q n (by simp))
 .obtain⟨o',z⟩:=un.there b o q (by simp)
  exact F.there b o' z (old b o q nb)
 .obtain⟨m1,z1⟩:=un.tbls b ps z
  obtain⟨m2,z2⟩:=F.tbls b _ z1
  exact⟨m1++m2,by rw[<-Array.append_assoc];exact z2⟩
end
abbrev bmV:List Value:=[.type "ValueError",.type "Exception",.type "BaseException",.type "object"]
abbrev newV:String:="ValueError.__new__"
theorem ZnZ {K:PySem.W.Frag}{h:Heap}{mg:Str->Option Value}{x:Str}{C:Addr} (X:K.In h) (hm:mg x=some (.ref C)) (q:PySem.W.excIn K C bmV newV=true):OwnCls x C bmV newV mg h:=by
 refine⟨hm,?_⟩
 unfold PySem.W.excIn at q;split at q
 .rename_i dd cd sl ho
  split at q
  .rename_i C' bm k0 k1 k2 k3 n k5 hmm hs
   simp only[Bool.and_eq_true,beq_iff_eq,Bool.not_eq_true']at q;obtain⟨⟨⟨⟨⟨rfl,rfl⟩,hdel⟩,ht⟩,hok⟩,hni⟩:=q
   obtain⟨nm,bs,mro,ns,qn,hd,sn,sub,ab,col,del⟩:=cd;dsimp only at hmm hdel hok hni;subst hmm hdel
   have hsl:sl=#[k0,k1,k2,k3,some (.builtin newV),k5]:=by obtain⟨l⟩:=sl;simp only at hs;rw[hs]
   subst hsl;exact⟨bm,ns,nm,qn,bs,hd,sn,sub,ab,col,dd,k0,k1,k2,k3,k5,_,X _ _ ho,.of_isNs (PySem.W.isNs_of_in X hok),PySem.W.nsMap_none_of_in X hok hni,PySem.W.tail_of_in X ht⟩
  .cases q
 .cases q
section
variable {X:Cx}
noncomputable def tRaise (C:Addr) (E:XK) (t:TA):TS:=λ_ σ H=>t σ H λvs H1=>vs.length<=sizeLine/\E (.ref C) none H1
theorem Zfj {x:Str}{C:Addr}{np cpos pos:Pos}{e0:Expr}{es:List Expr}{t:TA}{E:XK} (hc:X.calm=true) (hg:Gl X x) (hm:X.mg x=some (.ref C)) (q:PySem.W.excIn X.K C bmV newV=true) (ha:PA X (e0::es) t)
  (hx:∀pins σ H s h' e vs,Inv X pins σ H s->Heap.MadeExcOf s.heap h' e (.ref C) vs->E (.ref C) none H->X.xe (.ref e) {s with heap:=h'})
  (he:starEach (e0::es) X.env=(false,eval e0 X.env)::starEach es X.env:=by rfl) (hpl:(backTo cpos (starEach es X.env)).any (·.1)=false:=by rfl) (hd:(x==("__debug__":Str))=false:=by decide) :
  PS X (.Raise (some (.Call (.Name x np) (e0::es) [] cpos)) none pos) (tRaise C E t):=by
 intro pins s σ H D I h
 obtain⟨tl,Nn,nm,qn,bs,hdct,sn,sub,ab,col,dd,k0,k1,k2,k3,k5,mN,hC,hN,hni,T⟩:=(ZnZ (x:=x) I.mod.kin hm q).obj
 refine wpAny_Raise_call_subT (C:=C) (nm:=nm) (q:=qn) (N:=Nn) (bs:=bs) (bm:=tl) (hdct:=hdct) (sn:=sn) (sub:=sub) (ab:=ab) (col:=col) (dd:=dd) (k0:=k0) (k1:=k1) (k2:=k2) (k3:=k3) (k5:=k5)
  PySem.F.excBase_ValueError (mN:=mN) (T.hasType PySem.F.excBase_ValueError.hasBase) (I.ok.hd hc) (by rw[he];show(false||(backTo cpos (starEach es X.env)).any (·.1))=false;rw[hpl];rfl) hni (Zff I hg hm ⟨rfl,?_⟩ hd)
 have h2:=ha cpos pins s σ H _ I h
 rw[he]at h2⊢
 exact Calls.evalArgs_plain (thn h2 λus s2 ⟨vs,H2,I2,r,z,q2⟩=>⟨rfl,by rw[<-r.length];exact z,I2.bk _ _ hC,hN.keeps I2.bk,T.keeps I2.bk,λh' e hm'=>hx pins σ H2 s2 h' e us I2 hm' q2⟩)
end
noncomputable def Cx.tries (X:Cx) (Ec:St->XK) (pl:List (Addr×Obj)):Cx:={X with pn:=X.pn++pl,xe:=λev s'=>∃σ H s,Inv X pl σ H s/\CXE X.prog X.w X.stack H s (Ec σ) ev s'}
noncomputable def Cx.ZeN (X:Cx) (A':Around):Cx:={X with A:=A',calm:=false,xe:=λ_ _=>False}
section
variable {X:Cx}
theorem Inv.tries {pins:List (Addr×Obj)}{σ:St}{H:Hp}{s:Shared} (I:Inv X pins σ H s) (Ec:St->XK):Inv (X.tries Ec pins) [] σ H s :=
 ⟨⟨I.ok.mod,I.ok.kind,I.ok.glob,I.ok.blt,I.ok.above,I.ok.inj,I.ok.has,I.ok.cab,I.ok.hd,I.ok.frames,I.ok.stk,I.ok.exf,I.ok.bs,I.ok.bsz,I.ok.noex,I.ok.exfs,I.ok.funs,I.ok.frf⟩,I.os,I.bare,I.base,I.loc,I.cell,I.free,I.freeC,
  λp hp=>I.pin p (by simpa[Cx.tries]using hp),I.hok,I.len⟩
theorem Inv.Zfk {pins pl:List (Addr×Obj)}{σ:St}{H:Hp}{s:Shared}{Ec:St->XK} (I:Inv (X.tries Ec pl) pins σ H s):Inv X pl σ H s :=
 ⟨⟨I.ok.mod,I.ok.kind,I.ok.glob,I.ok.blt,I.ok.above,I.ok.inj,I.ok.has,I.ok.cab,I.ok.hd,I.ok.frames,I.ok.stk,I.ok.exf,I.ok.bs,I.ok.bsz,I.ok.noex,I.ok.exfs,I.ok.funs,I.ok.frf⟩,I.os,I.bare,I.base,I.loc,I.cell,I.free,I.freeC,
  λp hp=>I.pin p (YS _ (by simpa[Cx.tries]using hp)),I.hok,I.len⟩
theorem Inv.ZeN {pins:List (Addr×Obj)}{σ:St}{H:Hp}{s:Shared}{A':Around} (I:Inv X pins σ H s) (hA:A'.frames=X.A.frames):Inv (X.ZeN A') pins σ H s :=
 ⟨⟨I.ok.mod,I.ok.kind,I.ok.glob,I.ok.blt,I.ok.above,I.ok.inj,I.ok.has,I.ok.cab,(λz=>nomatch z),hA.trans I.ok.frames,I.ok.stk,I.ok.exf,I.ok.bs,I.ok.bsz,I.ok.noex,I.ok.exfs,I.ok.funs,I.ok.frf⟩,I.os,I.bare,I.base,I.loc,I.cell,I.free,I.freeC,I.pin,I.hok,I.len⟩
theorem Inv.Zq7 {pins:List (Addr×Obj)}{σ:St}{H:Hp}{s:Shared}{A':Around} (ok:X.Ok) (I:Inv (X.ZeN A') pins σ H s):Inv X pins σ H s :=
 ⟨ok,I.os,I.bare,I.base,I.loc,I.cell,I.free,I.freeC,I.pin,I.hok,I.len⟩
noncomputable def tCallX (sp:Sp) (E:St->XK) (t:TA):TE:=fun σ H Q=>t σ H λvs H1=>sp vs H1 Q (E σ)
theorem Zn0 {f:Addr}{fd:FuncData}{ps:List Str}{sp:Sp}{k:Nat}{x:Str}{p pos:Pos}{e:Expr}{es:List Expr}{t:TA}{E:St->XK} (F:FnOk X.prog X.w X.K X.mg X.base (CXE X.prog X.w) k f fd ps sp) (hr:Room k X.A) (hg:Gl X x) (hm:X.mg x=some (.ref f)) (hk:PySem.W.keepIn X.K (.ref f)=true) (hb:Binds X.K fd ps [])
  (hx:∀pins σ H s ev s',Inv X pins σ H s->CXE X.prog X.w X.stack H s (E σ) ev s'->X.xe ev s') (ha:PA X (e::es) t)
  (hdb:(x==("__debug__":Str))=false:=by decide) (he:starEach (e::es) X.env=(false,eval e X.env)::starEach es X.env:=by rfl) (hpl:(backTo pos (starEach es X.env)).any (·.1)=false:=by rfl) :
  PE X (.Call (.Name x p) (e::es) [] pos) (tCallX sp E t):=by
 intro pins s σ H Q I h
 refine wpAny_Call_Name_kw (Zff I hg hm ?_ hdb)
 refine PySem.W.callWith_K (h₀:=X.base) I.ok.mod.kin hk (thn (ha pos pins s σ H _ I h) λus s1 ⟨vs,H1,I1,r,q⟩=>⟨I1.kIn,?_⟩) he hpl
 have hl:us.length=ps.length:=by rw[<-r.length];exact F.len _ _ _ _ q
 have hbb:=hb s1 us I1.kIn (by simpa using hl)
 rw[List.append_nil]at hbb
 refine wpAny_call (codeAny_mono (F.run X.A X.stack s1 H1 ⟨us,[]⟩ us vs Q (E σ) hr I1.env0 hbb r q) λr s' hq=>?_)
 cases r with
 |error ev=>exact hx pins σ H1 s1 ev s' I1 hq
 |ok fl =>
  cases fl with
  |ret u=>exact I1.after hq
  |next=>exact False.elim hq
  |brk=>exact False.elim hq
  |cont=>exact False.elim hq
theorem passT {Ec:St->XK}{pl:List (Addr×Obj)}:∀pins σ H s ev s',Inv (X.tries Ec pl) pins σ H s->CXE X.prog X.w X.stack H s (Ec σ) ev s'->(X.tries Ec pl).xe ev s':=λpins σ H s ev s' I h=>⟨σ,H,s,I.Zfk,h⟩
theorem Zh9 {M:Model}{A:Around}{E:Value->Shared->Prop}{C D:Addr}{nm' q':Str}{N':Addr}{bs' bm':List Value}{hdct':Bool}{sn':List Str}{sub':List Value}{ab':Bool}{col':Option Bool}{dd':Option Addr}{k0' k1' k2' k3' k5':Option Value}{newId':String}
  {h:Heap}{g:Array GenState}{d:Drawn}{t:Nat}{os:OsState}{e:Addr}{oe:Obj}{Q:Bool->Shared->Prop}
  (LC:PySem.W.Looks M h (isSubtype (.ref C) (.ref D)) true) (hD:h.get? D=some (excClassObj nm' q' D N' bs' bm' hdct' sn' sub' ab' col' dd' k0' k1' k2' k3' k5' newId'))
  (he:h.get? e=some oe) (hcls:oe.cls=.ref C) (hbase:bm'.contains (.type "BaseException")=true)
  (hq:Q true ⟨h,g,d,t,os⟩):wpAny M A (excMatches (.ref e) (.ref D)) Q E ⟨h,g,d,t,os⟩:=by
 have hcB:(Value.ref D::bm').contains (.type "BaseException")=true:=by rw[List.contains_cons,hbase,Bool.or_true]
 have f:=tc_notTuple
 unfold excMatches
 repeat (first|(with_reducible refine wpAny_loadPart_at he ?_;rw[hcls])|with_reducible refine wpAny_loadPart_at hD ?_|(with_reducible refine wpAny_isSubtype_exc hD ?_;rw[hcB])|(with_reducible refine LC.at ?_)|wp_step)
 exact hq
theorem Fly.land {pins:List (Addr×Obj)}{σ:St}{H1 H':Hp}{s1 s2:Shared}{B h5:Heap}{e C:Addr}{a0:Value} (I:Inv X pins σ H1 s1) (F:Fly X.prog X.w X.stack H1 s1 H' B e (.ref C) a0 s2)
  (fl:Heap.FlyingW B X.stack e (.ref C) a0 h5) (sm:s2.heap.UpToSlots h5):H' e=none/\Inv X pins σ (upd H' e (ZkV e C)) {s2 with heap:=h5}:=by
 obtain⟨oe,vs,hoe,hoc,hod,_⟩:=fl.first
 have nB:B.get? e=none:=fl.2.1
 have trk:∀b o,H' b=some o->b≠e:=λb o q z=>by
  obtain⟨u,hu⟩:=(F.hok b o q).has
  rw[z,nB]at hu;cases hu
 have hHe:H' e=none:=by
  cases q:H' e with
  |none=>rfl
  |some o=>exact absurd rfl (trk e o q)
 have nfr:e∉frs X.stack:=λhb=>by
  obtain⟨_,o,ho,hd⟩:=fl.2.2.1.mem hb
  rw[hoe]at ho;cases ho
  exact hd _ hod
 have frd:∀b o,s1.heap.get? b=some o->b∈frs X.stack->∀vs,o.data≠.fields vs:=λb o q hb=>by
  obtain⟨_,o',ho,hd⟩:=I.stack.mem hb
  rw[q]at ho;cases ho
  exact hd
 refine⟨hHe,I.ZnL (s':={s2 with heap:=h5}) (ch:=[]) F.os ⟨λb o q n nb _=>fl.1 b o (F.keep b o q n nb),λb o q n hb _=>?_,λb o q n _=>?_,λb o q _=>?_,λb xs q=>?_,λb o u q=>?_,λb ps q=>?_⟩ (λa o q=>?_) F.bare λb z=>absurd z (by simp)⟩
 .obtain⟨sl,z⟩:=F.slot b o q hb (frd b o q hb)
  obtain⟨sl2,z2⟩:=sm b _ z (frd b o q hb)
  exact⟨sl2,z2⟩
 .rw[Zh]
  .exact F.free b o q n
  .intro z
   by_cases hb:b∈frs X.stack
   .exact nfr (z▸hb)
   .have:=F.keep b o q n hb
    rw[z,nB]at this;cases this
 .by_cases hb:b∈frs X.stack
  .obtain⟨sl,z⟩:=F.slot b o q hb (frd b o q hb)
   obtain⟨sl2,z2⟩:=sm b _ z (frd b o q hb)
   exact⟨_,z2⟩
  .obtain⟨o',z⟩:=F.there b o q hb
   exact⟨o',fl.1 b o' z⟩
 .have z:=F.tups b xs q;rw[Zh (trk b _ z)];exact z
 .have z:=F.frzs b o u q;rw[Zh (trk b _ z)];exact z
 .obtain⟨m,z⟩:=F.tbls b ps q
  exact⟨m,by rw[Zh (trk b _ z)];exact z⟩
 .by_cases ha:a=e
  .subst ha
   rw[Zc]at q;cases q
   exact⟨⟨oe,hoe,hoc⟩,⟨oe,hoe⟩,λh1 h2 ⟨o,z1,z2⟩ k=>⟨o,k o z1,z2⟩⟩
  .rw[Zh ha]at q
   exact(F.hok a o q).ZfW (λb u _ z=>fl.1 b u z) (λb z=>by rw[Zh (trk b _ z)];exact z) (λb xs z=>by rw[Zh (trk b _ z)];exact z) λb o u z=>by rw[Zh (trk b _ z)];exact z
theorem Inv.forget {pins:List (Addr×Obj)}{σ:St}{H:Hp}{s:Shared}{h':Heap}{j:Nat}{n:Str}{m:Str->Option Value}{u:Option Value} (I:Inv X pins σ H s) (hj:X.N[j]?=some n) (hN:X.N.Nodup)
  (hl:∀(i:Nat) (x:Str) (v:V),X.N[i]?=some x->σ[i]?=some (some v)->Vis X.env.scope x->∃u,RelV v u/\Look X.env s.heap m x u)
  (hn:h'.Ns X.env.locals (λx=>if x=n then u else m x)) (hs:Heap.SameBut X.env.locals s.heap h'):Inv X pins (σ.set j none) H {s with heap:=h'}:=by
 have same:∀b o,b≠X.env.locals->s.heap.get? b=some o->h'.get? b=some o:=λb o hb e=>hs.extBut b o hb e
 have old:∀b o,X.s₀.heap.get? b=some o->b≠X.env.locals:=λb o e=>Yl (YD (Yj e) I.ok.above)
 have trk:∀b o,H b=some o->b≠X.env.locals:=λb o e z=>by rw[z,I.free]at e;cases e
 refine⟨I.ok,I.os,I.bare,⟨λb o e n hb hx=>same _ _ (old b o e) (I.base.keep b o e n hb hx),λb o e n hb hx=>?_,I.base.free,λb o e hx=>?_,I.base.tups,I.base.frzs,I.base.tbls⟩,⟨_,hn,λi x v e1 e2 e3=>?_⟩,λx c e=>?_,I.free,I.freeC,λp hp=>?_,λa o e=>?_,by rw[List.length_set];exact I.len⟩
 .obtain⟨sl,z⟩:=I.base.slot b o e n hb hx
  exact⟨sl,same _ _ (old b o e) z⟩
 .obtain⟨o',z⟩:=I.base.there b o e hx
  exact⟨o',same _ _ (old b o e) z⟩
 .have hij:i≠j:=λz=>by
   subst z
   rw[List.getElem?_set]at e2
   split at e2
   .split at e2<;>cases e2
   .rename_i hh;exact hh rfl
  rw[List.getElem?_set_ne (Ne.symm hij)]at e2
  obtain⟨w,r,l⟩:=hl i x v e1 e2 e3
  refine⟨w,r,?_⟩
  have hxn:x≠n:=λz=>by subst z;exact hij (Zhe hN e1 hj)
  rcases l with⟨l1,l2⟩|⟨l1,c,l2,l3⟩
  .exact .inl ⟨l1,by show(if x=n then u else m x)=_;rw[Yb hxn];exact l2⟩
  .obtain⟨oc,z1,z2⟩:=l3
   exact .inr ⟨l1,c,l2,oc,same _ _ (I.cne x c l2) z1,z2⟩
 .obtain⟨v,oc,z1,z2⟩:=I.cell x c e
  exact⟨v,oc,same _ _ (I.cne x c e) z1,z2⟩
 .obtain⟨z1,z2,z3,z4,z5⟩:=I.pin p hp
  exact⟨same _ _ z3 z1,z2,z3,z4,z5⟩
 .refine(I.hok a o e).ZfW (λb u hb z=>same b u ?_ z) (λ_ z=>z) (λ_ _ z=>z) λ_ _ _ z=>z
  rcases hb with hb|hb
  .rw[hb];exact trk a o e
  .exact trk b _ hb
noncomputable def tTry (K:PySem.W.Frag) (D:Addr) (tb:(St->XK)->TS) (ts:TS) (j:Nat):TS:=λDe σ H=>∃Ec:St->XK,tb Ec De σ H/\∀σ1 C H1,Ec σ1 C none H1->∃C',C=.ref C'/\PySem.W.mroIn K C' (.ref D)=some true /\
 ∀e,H1 e=none->ts {nx:=fun σ2 H2=>De.nx (σ2.set j none) H2,rt:=λ_ _=>False} (σ1.set j (some (.ref e))) (upd H1 e (ZkV e C'))
theorem ps_try {body:List Stmt}{n x:Str}{np hpos pos:Pos}{b0:Stmt}{ZeN:List Stmt}{D:Addr}{tb:(St->XK)->TS}{ts:TS}{j:Nat}
  (hst:X.stack=X.env::X.outer/\X.env.frame=some X.env.locals) (hN:X.N.Nodup) (hj:X.N[j]?=some n) (hn:X.env.scope.names.lookup n=some .local)
  (hg:Gl X x) (hm:X.mg x=some (.ref D)) (qD:PySem.W.excIn X.K D bmV newV=true) (hb:∀Ec pl,PSs (X.tries Ec pl) body (tb Ec)) (hs:∀A',PSs (X.ZeN A') (b0::ZeN) ts)
  (hd:(x==("__debug__":Str))=false:=by decide) :
  PS X (.Try body [.ExceptHandler (some (.Name x np)) (some n) (b0::ZeN) hpos] [] [] pos) (tTry X.K D tb ts j):=by
 intro pins s σ H De I h
 obtain⟨Ec,hb1,hx⟩:=h
 refine wpAny_Try_except (YM (hb Ec pins [] s σ H De (I.tries Ec) hb1) (λfl s1 q=>?_) λev s1 q=>?_)
 .cases fl with
  |next=>obtain⟨σ',H',I',q⟩:=q;exact wpAny_execs_nil ⟨σ',H',I'.Zfk,q⟩
  |brk=>obtain⟨σ',H',I',q⟩:=q;exact⟨σ',H',I'.Zfk,q⟩
  |cont=>obtain⟨σ',H',I',q⟩:=q;exact⟨σ',H',I'.Zfk,q⟩
  |ret u=>obtain⟨v,σ',H',I',r,q⟩:=q;exact⟨v,σ',H',I'.Zfk,r,q⟩
 .obtain⟨σ1,H1,s0,I1,e,C,a0,H',B,rfl,F,hE⟩:=q
  obtain⟨C',rfl,hup,hx⟩:=hx σ1 C H' hE
  refine wpAny_looks_onW (by rw[I.ok.frames,hst.1]) hst.2 (hst.1▸F.fly) λh4 held sm4=>?_
  refine wpAny_landsW held λh5 fl5 sm5=>?_
  have fl5':Heap.FlyingW B X.stack e (.ref C') a0 h5:=by rw[hst.1];exact fl5
  obtain⟨hHe,I5⟩:=F.land I1 fl5' (sm4.trans sm5)
  refine wpAny_handleBy_cons (codeAny_handlers_test ?_) (by intro q;cases q)
  have I5s:=I5.ZeN (A':=X.A.mark (some (.ref e))) rfl
  refine Zff (X:=X.ZeN (X.A.mark (some (.ref e)))) I5s hg hm ?_ hd
  obtain⟨tl,Nn,nm,qn,bs,hdct,sn,sub,ab,col,dd,k0,k1,k2,k3,k5,mN,hC,_,_,T⟩:=(ZnZ (x:=x) I5.kIn hm qD).obj
  obtain⟨oe,hoe,hoc⟩:=fl5.there
  refine Zh9 (PySem.W.looks_mroIn I5.kIn hup) hC hoe hoc (T.hasType PySem.F.excBase_ValueError.hasBase) ?_
  refine codeAny_handlers_suite_as ?_
  refine lands_againW fl5 λh6 fl6 sm6=>?_
  obtain⟨_,I6⟩:=F.land I1 (h5:=h6) (by rw[hst.1];exact fl6) ((sm4.trans sm5).trans sm6)
  refine ZdL I6 hN hj (Or.inl hn) (v:=.ref e) rfl (λs7 I7=>?_) (.inr hn)
  refine YM (hs _ pins s7 _ _ _ (I7.ZeN rfl) (hx e hHe)) (λfl s8 q=>?_) λ_ _ z=>z.elim
  cases fl with
  |brk=>obtain⟨_,_,_,q⟩:=q;exact q.elim
  |cont=>obtain⟨_,_,_,q⟩:=q;exact q.elim
  |ret u=>obtain⟨_,_,_,_,_,q⟩:=q;exact q.elim
  |next =>
   obtain⟨σ8,H8,I8,q8⟩:=q
   have I8':=I8.Zq7 I.ok
   refine Ya (wpAny_bindName (ZdL I8' hN hj (Or.inl hn) (v:=.non) (u:=.none) rfl (λs9 I9=>?_) (.inr hn)))
   unfold unbindBehindTheSuite
   refine wpAny_onRaise ?_
   obtain⟨m9,hn9,hl9⟩:=I9.loc
   have hlen:j < σ8.length:=by
    have e1:=I8'.len
    have e2:=(Yr.mp hj).1
    omega
   obtain⟨u9,r9,l9⟩:=hl9 j n .non hj (by rw[List.getElem?_set_self hlen]) (Or.inl hn)
   have hm9:m9 n=some u9:=by
    rcases l9 with⟨_,z⟩|⟨z,_⟩
    .exact z
    .rcases z with z|z
     .rw[show X.env.kindOf n=some .local from hn]at z;cases z
     .rw[show X.env.kindOf n=some .local from hn]at z;cases z
   refine wpAny_unbindName_local hn hn9 hm9 (by rw[I.ok.kind];rfl) λh' u hns hsb=>?_
   have J:=I9.forget hj hN hl9 hns hsb
   rw[List.set_set]at J
   exact⟨_,_,J,q8⟩
end
section
variable {P:Program}{w:World}{K:PySem.W.Frag}{mg:Str->Option Value}{base:Heap}
theorem Fun.okX {x qual:Str}{st:Stmt}{f:Addr}{fd:FuncData}{N ps:List Str}{k:Nat}{sp:Sp} (F:Fun K x qual st f fd) (S:FnScope N ps (defScope st)) (len:∀vs H Q E,sp vs H Q E->vs.length=ps.length)
  (hbody:∀(cdv:Value) (A:Around) (outer:List Env) (s:Shared) (H:Hp) (vs:List V) (Q:VK) (E:XK),Room k (A.deeper (envOfC qual (defScope st) s.heap.objs.size f cdv))->sp vs H Q E ->
   ∃t,PSs (ZeX (CXE P w) P w K mg base N qual (defScope st) f cdv A outer s H E) (defBody st) t/\t {nx:=λ_ H'=>Q .non H',rt:=Q} (start N vs) H):FnOk P w K mg base (CXE P w) (k+1) f fd ps sp:=by
 obtain⟨oc,od,kV,doc,pm,an,cdv,ct,osl,rfl,lk,hcd⟩:=F.ex
 exact ZnQ lk hcd S len λA outer s H vs Q E hr hsp=>hbody cdv A outer s H vs Q E hr hsp
end
end Lake
namespace Lake
open PySem PySem.Spec PyProof.Rows PySem.W
theorem Zjd:∀{ns:List Int}{us:List Value},Vals (ns.map V.int) us->∃xs:Array (Int×Tok),us.toArray=intItems xs/\xs.toList.map (·.1)=ns
 |[],_,.nil=>⟨#[],by simp[intItems],rfl⟩
 |n::ns,_,.cons (b:=u) r t=>by
  obtain⟨tk,rfl⟩:=(show ∃t,u=Value.int n t from r)
  obtain⟨xs,e1,e2⟩:=Zjd t
  refine⟨#[(n,tk)]++xs,?_,by simp[e2]⟩
  have:∀(l:List Value),(Value.int n tk::l).toArray=#[Value.int n tk]++l.toArray:=λl=>by simp
  rw[this,e1]
  simp[intItems]
section
variable {X:Cx}
theorem Zb5:OpR X (binaryOp .Mult) (rI IntMulOk λi j=>.int (i*j)):=opI λ_ _ _ _ _ _ _ hc q=>mul_int q hc
theorem ZmF (hc:X.calm=true):Zax X (.builtin "min") (λxs H Q=>∃(p:Addr) (ns:List Int),xs=[.ref p]/\SqL X.K H p (ns.map V.int)/\ns≠[]/\∀m,m∈ns->(∀a∈ns,m<=a)->Q (.int m) H):=by
 intro pins s σ H xs us Q I r h
 obtain⟨p,ns,rfl,hp,hne,q⟩:=h
 obtain⟨u,rfl,ru⟩:=r.one
 cases(show u=Value.ref p from ru)
 obtain⟨its,rv,pl,hz⟩:=I.list hp
 obtain⟨ys,e1,e2⟩:=Zjd rv
 have hsz:0<ys.size:=by
  have:=congrArg List.length e2
  rw[Yh,Ys]at this
  cases ns with
  |nil=>exact absurd rfl hne
  |cons=>simp at this;omega
 refine min_intList (xs:=ys) (I.ok.hd hc) (e1▸pl.isList) hsz λv h' tk hv k=>?_
 obtain⟨t,rfl⟩:=intItems_at hv
 obtain⟨h1,h2⟩:=argBest_lt (numAt ys) (ys.size-1)
 refine⟨.int _,H,I.kept k,⟨t,rfl⟩,q _ ?_ λa ha=>?_⟩
 .rw[numAt_eq,e2];exact getD_mem (by rw[<-e2,Yh,Ys];omega)
 .obtain⟨j,hj,rfl⟩:=mem_getD ha
  rw[<-e2,Yh,Ys]at hj
  rw[<-e2,<-numAt_eq];exact h2 j ⋯
noncomputable def rCount:V->List V->Hp->VK->Prop:=λx vs H Q=>∃l xs y,x=.ref l/\vs=[y]/\H l=some (.lst xs)/\(∃b,y=.bl b)/\(∀z∈xs,∃b,z=.bl b)/\Q (.int (xs.countP λz=>decide (z=y))) H
theorem Zn1 (a b:Bool):PySem.MeetsSeq.EqGives (.bool a) (.bool b) (a==b):=λprog w A E s Q h=>SeqAt.EqAt.bool_bool a b prog w E Q h
theorem Zn2:MtM X "list.count" rCount:=by
 intro pins s σ H x vs v us Q I rx rv h
 obtain⟨l,xs,y,rfl,rfl,hH,⟨b,rfl⟩,hall,q⟩:=h
 cases rx
 obtain⟨u,rfl,ru⟩:=rv.one
 cases(show u=Value.bool b from ru)
 obtain⟨z,its,n,r,hl,e⟩:=I.Zi9 hH
 have key:∀{xs:List V}{its:List Value},Vals xs its->(∀z∈xs,∃b,z=.bl b)->(∀y∈its,∃c,y=Value.bool c)/\its.countP (λy=>y==Value.bool b)=xs.countP λz=>decide (z=.bl b):=by
  intro xs its r
  induction r with
  |nil=>intro _;exact⟨λy hy=>by simp at hy,rfl⟩
  |@cons a u l1 l2 ra rt ih =>
   intro hb
   obtain⟨c,rfl⟩:=hb a (.head _)
   obtain rfl:u=Value.bool c:=ra
   obtain⟨i1,i2⟩:=ih λz hz=>hb z (.tail _ hz)
   refine⟨λy hy=>?_,?_⟩
   .rcases Yi.mp hy with rfl|hy
    .exact⟨c,rfl⟩
    .exact i1 y hy
   .rw[List.countP_cons,List.countP_cons,i2]
    congr 1
    cases c<;>cases b<;>simp
 obtain⟨k1,k2⟩:=key r hall
 refine call_meets F.slot_list_count ⟨_,e,rfl⟩ F.entry_list_count (F.args_list_count_2 _ _) (PySem.MeetsSeq.list_count l its.toArray n (.bool b) (λy=>y==Value.bool b) (λy hy=>?_)) ⟨e,?_⟩
 .obtain⟨c,rfl⟩:=k1 y (by simpa using hy)
  have:=Zn1 c b
  have e2:(Value.bool c==Value.bool b)=(c==b):=by cases c<;>cases b<;>rfl
  rw[e2];exact this
 .refine⟨.int _,H,I.tok _,⟨_,rfl⟩,?_⟩
  simp only[List.countP_toArray,k2]
  exact q
noncomputable def PJ (X:Cx) (es:List (Sem Value)) (t:St->Hp->(Hp->Prop)->Prop):Prop :=
 ∀(out:Str) (pins:List (Addr×Obj)) (s:Shared) (σ:St) (H:Hp) (Q:Hp->Prop),out.length+2000*es.length<=100000->Inv X pins σ H s->t σ H Q ->
  wpAny (model X.prog X.w) X.A (joinParts out es) (λu s'=>∃y tk H',u=.str y tk/\Inv X pins σ H' s'/\Q H') X.xe s
theorem Zje:PJ X [] (λ_ H Q=>Q H):=λout pins s σ H Q hl I h =>
 joinParts_nil ⟨out,_,H,rfl,I.tok _,h⟩ (by simp at hl;exact Yn hl nofun)
theorem Zbr {x:Str}{j:Nat}{pos:Pos}{es:List (Sem Value)}{t:St->Hp->(Hp->Prop)->Prop} (hx:x.length<=2000) (h:PJ X es t):PJ X (eval (.Constant (.str x) j pos) X.env::es) t:=by
 intro out pins s σ H Q hl I hq
 have hl':(out++x).length+2000*es.length<=100000:=by rw[PySem.strLen_append];simp at hl;omega
 refine joinParts_cons (Calls.Constant_str ⟨Yn (Yn (Nat.le_add_right _ _) hl') nofun,?_⟩)
 exact h _ pins _ σ H Q hl' (I.tok _) hq
theorem ZmG {i:Int} (h0:0<=i) (h1:i<10 ^ 18):i.natAbs.log2<1920:=by
 by_cases hz:i.natAbs=0
 .rw[hz];decide
 .have h3:i.natAbs<2 ^ 60:=by
   have:(2:Nat) ^ 60=1152921504606846976:=by decide
   have h2:(10:Int) ^ 18=1000000000000000000:=by decide
   omega
  exact YD ((Nat.log2_lt hz).mpr h3) nofun
theorem Zhl {e:Expr}{pos:Pos}{es:List (Sem Value)}{te:TE}{t:St->Hp->(Hp->Prop)->Prop} (he:PE X e te) (h:PJ X es t):PJ X (eval (.FormattedValue e (-1) none pos) X.env::es) (fun σ H Q=>te σ H λx H1=>∃i:Int,x=.int i/\(0<=i/\i<10 ^ 18)/\t σ H1 Q):=by
 intro out pins s σ H Q hl I hq
 refine joinParts_cons (FormattedValue_plain (thn (he pins s σ H _ I hq) λu s1 ⟨x,H1,I1,r1,i,ex,⟨h0,h1⟩,q⟩=>?_))
 subst ex
 obtain⟨tk,rfl⟩:=(show ∃t,u=Value.int i t from r1)
 refine wpAny_formatField_int (ZmG h0 h1) ?_
 have hx:(Str.ofString (toString i)).length<=18:=toString_length_le h0 nofun h1
 have hl':(out++Str.ofString (toString i)).length+2000*es.length<=100000:=by rw[PySem.strLen_append];simp at hl;omega
 refine⟨Yn (Yn (Nat.le_add_right _ _) hl') nofun,?_⟩
 exact h _ pins _ σ H1 Q hl' (I1.tok _) q
theorem Zj1 (env:Env):∀l:List Expr,(evalEach l env).length=l.length
 |[]=>rfl
 |e::r=>by
  have:evalEach (e::r) env=eval e env::evalEach r env:=rfl
  rw[this,YI,YI,Zj1 env r]
theorem ZeE {e1 e2:Expr}{rest:List Expr}{pos:Pos}{t:St->Hp->(Hp->Prop)->Prop} (h:PJ X (eval e1 X.env::eval e2 X.env::evalEach rest X.env) t) (hn:rest.length<=20:=by decide) :
  PE X (.JoinedStr (e1::e2::rest) pos) (fun σ H Q=>t σ H λH1=>∀y,Q (.str y) H1):=by
 intro pins s σ H Q I hq
 have hle:=Zj1 X.env rest
 refine JoinedStr_many (thn (h Str.empty pins s σ H _ (by simp only[YI,hle];show 0+_<=_;omega) I hq) λu s' ⟨y,tk,H',e,I',q⟩=>?_)
 subst e
 exact⟨.str y,H',I',⟨tk,rfl⟩,q y⟩
end
noncomputable def clsAt (mg:Str->Option Value) (x:Str):Addr:=match mg x with
 |some (.ref C)=>C
 |_=>0
noncomputable def tokAt (mg:Str->Option Value) (x:Str):Tok:=match mg x with
 |some (.int _ t)=>t
 |_=>default
noncomputable def Callee (P:Program) (w:World) (K:Frag) (mg:Str->Option Value) (base:Heap) (x:Str) (k:Nat) (ps:List Str) (sp:Sp):Prop :=
 ∃f fd,mg x=some (.ref f)/\keepIn K (.ref f)=true/\Binds K fd ps []/\FnOk P w K mg base (CXE P w) k f fd ps sp
section
variable {X:Cx}
theorem ZaC {st:Stmt}{t:TS} (h:PS X.nox st t):PS X st t:=λpins s σ H D I hw =>
 YM (h pins s σ H D (I.Zh6 _) hw) (λ_ _ q=>q.ZdP) λ_ _ z=>False.elim z
theorem Zi {x:Str}{k:Nat}{ps:List Str}{sp:Sp}{E:XK}{e:Expr}{es:List Expr}{t:TA}{p pos:Pos} (C:Callee X.prog X.w X.K X.mg X.base x k ps sp) (hr:Room k X.A) (hg:Gl X x) (hx:Passes (CXE X.prog X.w) X E)
  (ha:PA X (e::es) t) (hdb:(x==("__debug__":Str))=false:=by decide) (he:starEach (e::es) X.env=(false,eval e X.env)::starEach es X.env:=by rfl) (hpl:(backTo pos (starEach es X.env)).any (·.1)=false:=by rfl) :
  PE X (.Call (.Name x p) (e::es) [] pos) (tCall sp [] E t):=by
 obtain⟨f,fd,hm,hk,hb,F⟩:=C
 exact ZlI F hr hg hm hk hb .nil hx ha hdb he hpl
theorem ZmH {x:Str}{k:Nat}{ps:List Str}{sp:Sp}{E:St->XK}{e:Expr}{es:List Expr}{t:TA}{p pos:Pos} (C:Callee X.prog X.w X.K X.mg X.base x k ps sp) (hr:Room k X.A) (hg:Gl X x)
  (hx:∀pins σ H s ev s',Inv X pins σ H s->CXE X.prog X.w X.stack H s (E σ) ev s'->X.xe ev s')
  (ha:PA X (e::es) t) (hdb:(x==("__debug__":Str))=false:=by decide) (he:starEach (e::es) X.env=(false,eval e X.env)::starEach es X.env:=by rfl) (hpl:(backTo pos (starEach es X.env)).any (·.1)=false:=by rfl) :
  PE X (.Call (.Name x p) (e::es) [] pos) (tCallX sp E t):=by
 obtain⟨f,fd,hm,hk,hb,F⟩:=C
 exact Zn0 F hr hg hm hk hb hx ha hdb he hpl
theorem Zg5 {P:Program}{w:World}{K:Frag}{mg:Str->Option Value}{base:Heap}{N:List Str}{qual:Str}{scope:Scope}{f:Addr}{cd:Value}{A:Around}{outer:List Env}{s0:Shared}{H0:Hp}{E:XK}{C:Addr} :
  ∀pins σ H s h' e vs,Inv (ZeX (CXE P w) P w K mg base N qual scope f cd A outer s0 H0 E) pins σ H s->Heap.MadeExcOf s.heap h' e (.ref C) vs->E (.ref C) none H->(ZeX (CXE P w) P w K mg base N qual scope f cd A outer s0 H0 E).xe (.ref e) {s with heap:=h'} :=
 λ_ _ _ _ _ _ _ I hx hE=>Zjb I hx hE
end
theorem ZkW:bootBuiltins "max"=some (.builtin "max"):=by decide +kernel
theorem ZkX:bootBuiltins "min"=some (.builtin "min"):=by decide +kernel
theorem Zw:bootBuiltins "isinstance"=some (.builtin "isinstance"):=by decide +kernel
theorem Zg6:bootBuiltins "list"=some (.type "list"):=by decide +kernel
theorem ZdW:bootBuiltins "tuple"=some (.type "tuple"):=by decide +kernel
theorem bt_int:bootBuiltins "int"=some (.type "int"):=by decide +kernel
theorem Zq8:bootBuiltins "bool"=some (.type "bool"):=by decide +kernel
theorem Zia:bootBuiltins "ValueError"=some (.type "ValueError"):=by decide +kernel
section
variable {X:Cx}{pins:List (Addr×Obj)}{σ:St}{H:Hp}{s:Shared}{h':Heap}
theorem Inv.ZlO {t':Nat}{fp:List Addr} (I:Inv X pins σ H s) (k:∀b o,b∉fp->s.heap.get? b=some o->h'.get? b=some o) (hf:∀b∈fp,FpOk X pins H b):Inv X pins σ H {s with heap:=h',toks:=t'}:=by
 have nit:∀b u,H b=some u->b∉fp:=λb u e z=>by rw[(hf b z).1]at e;cases e
 refine I.step (g':=s.gens) (d':=s.drawn) (ch:=fp) (λb hb=>?_) (λb o _ _ hc e _=>k b o hc e) (λb o _ _ hc e _=>⟨o.slots,k b o hc e⟩) (λ_ _ _ _ n=>n)
  (λb o hc e=>⟨o,k b o hc e⟩) (λ_ _ e=>e) (λ_ _ _ e=>e) (λb ps e=>⟨#[],by rw[e];simp⟩) (λm hm=>?_) (λb u e=>?_) I.bare
 .obtain⟨_,f1,_,f3,f4,f5⟩:=hf b hb
  exact⟨f3,f1,f4,f5⟩
 .obtain⟨o,es,ep,ho,r⟩:=hm
  exact⟨o,es,ep,k _ o (λz=>(hf _ z).2.1 rfl) ho,r⟩
 .refine(I.hok b u e).ZfW (λc v hc q=>k c v ?_ q) (λ_ q=>q) (λ_ _ q=>q) λ_ _ _ q=>q
  rcases hc with z|z
  .rw[z];exact nit b u e
  .exact nit c _ z
end
theorem cxK {CX:CXT}{P:Program}{w:World}{K:Frag}{mg:Str->Option Value}{base:Heap}{N:List Str}{qual:Str}{scope:Scope}{f:Addr}{cd:Value}{A:Around}{outer:List Env}{s:Shared}{H:Hp}{E:XK} :
  (ZeX CX P w K mg base N qual scope f cd A outer s H E).K=K:=rfl
theorem Zd.upd {H H1:Hp}{p:Addr}{o:HO} (h:H p=none) (e:Zd H H1):Zd H (upd H1 p o):=λb u z=>by
 rw[Zh (Zz z h)];exact e b u z
theorem Zd.Zai {H H1:Hp}{p:Addr}{o:HO} (e:Zd H H1) (h:H1 p=none):Zd H (Lake.upd H1 p o):=e.upd (e.free h)
noncomputable def LoopR (J:It) (g:TG) (tb:TS) (D:Ends) (σ:St) (H1:Hp):Prop:=∃W:Nat->Nat->St->Hp->Prop,(∃m,W 0 m σ H1)/\∀i m σ H,W i m σ H ->
 (J.stop i H/\D.nx σ H)\/(J.go i H/\∃N:St->Hp->Prop,(∀σ' H',N σ' H'->∃m',m'<m/\W (i+1) m' σ' H')/\∀x H',J.yld i H x H'->g x σ H' fun σ2 H2=>tb {D with nx:=N,ct:=N,bk:=D.nx} σ2 H2)
theorem ZlP {wi:TI}{g:TG}{tb:TS}{D:Ends}{σ:St}{H:Hp}:tFor wi g tb D σ H=wi σ H λJ H1=>LoopR J g tb D σ H1:=rfl
noncomputable def ZkY (c:TT) (tb:TS) (D:Ends) (σ:St) (H:Hp):Prop:=ZkN c tb D σ H
theorem ZiC {c:TT}{tb:TS}{D:Ends}{σ:St}{H:Hp}:ZkN c tb D σ H=ZkY c tb D σ H:=rfl
noncomputable def Zj2 (J:It) (g:TG) (tt:TT) (te:TE) (σ0:St) (Q:VK) (H1:Hp):Prop:=∃W:Nat->Nat->List V->Hp->Prop,(∃m,W 0 m [] H1)/\∀i m acc H,W i m acc H ->
 (J.stop i H/\acc.length<=sizeLine/\∀p,H p=none->Q (.ref p) (upd H p (.lst acc))) \/
 (J.go i H/\acc.length<sizeLine/\∀x H',J.yld i H x H'->g x σ0 H' fun σ2 H2=>tt σ2 H2 λb H3=>if b=true then te σ2 H3 λv H4=>∃m',m'<m/\W (i+1) m' (acc++[v]) H4 else ∃m',m'<m/\W (i+1) m' acc H3)
theorem Zj3 {wi:TI}{g:TG}{tt:TT}{te:TE}{js:List (Option Nat)}{σ:St}{H:Hp}{Q:VK}:ZlN wi g tt te js σ H Q=wi σ H λJ H1=>Zj2 J g tt te (iniC js σ) Q H1:=rfl
noncomputable def CW (n:Nat) (vals:Nat->V) (H1:Hp) (i m:Nat) (acc:List V) (H:Hp):Prop:=m=n-i/\i<=n/\acc=(List.range i).map vals/\Zd H1 H
theorem CW.next {n:Nat}{vals:Nat->V}{H1 H:Hp}{i:Nat}{v:V} (hi:i<n) (hv:v=vals i) (s:Zd H1 H):∃m',m'<n-i/\CW n vals H1 (i+1) m' ((List.range i).map vals++[v]) H :=
 ⟨n-(i+1),⋯,rfl,hi,by rw[Y7,Jb,hv];rfl,s⟩
theorem comp_map {J:It}{n:Nat}{H1:Hp}{g:TG}{tt:TT}{te:TE}{σ0:St}{Q:VK} (vals:Nat->V) (hn:n<sizeLine) (hgo:∀i H,Zd H1 H->i<n->J.go i H) (hstop:∀H,Zd H1 H->J.stop n H)
  (hb:∀i x H H',i<n->Zd H1 H->J.yld i H x H'->g x σ0 H' fun σ2 H2=>tt σ2 H2 λb H3=>if b=true then te σ2 H3 λv H4=>∃m',m'<n-i/\CW n vals H1 (i+1) m' ((List.range i).map vals++[v]) H4 else ∃m',m'<n-i/\CW n vals H1 (i+1) m' ((List.range i).map vals) H3)
  (hk:∀l H',Zd H1 H'->H' l=none->Q (.ref l) (upd H' l (.lst ((List.range n).map vals)))) :
  Zj2 J g tt te σ0 Q H1:=by
 refine⟨CW n vals H1,⟨n,rfl,Yo _,rfl,Zd.refl _⟩,?_⟩
 rintro i m acc H ⟨rfl,hi,rfl,s⟩
 by_cases h:i<n
 .refine .inr ⟨hgo i H s h,by simpa using Nat.lt_trans h hn,λx H' y=>hb i x H H' h s y⟩
 .have e:i=n:= ⋯
  subst e
  exact .inl ⟨hstop H s,by simpa using Y3 hn,λp hp=>hk p H s hp⟩
theorem ZeY {α:Type}{xs:List α}{i:Int}{j:Nat} (h:i=(j:Int)) (hj:j<xs.length):atI xs i=some xs[j]:=by
 subst h
 unfold atI ixN
 rw[Yd ⋯,Yd ⋯]
 simp
theorem Zjf {α:Type}{xs:List α}{i:Int} (C:α->Prop) (h0:0<=i) (h1:i<xs.length) (h:∀x∈xs,C x):∃v,atI xs i=some v/\C v:=by
 obtain⟨j,rfl⟩:=Y8 h0
 have hj:j<xs.length:= ⋯
 exact⟨xs[j],ZeY rfl hj,h _ (YK hj)⟩
theorem mul_r {a b:Int} (h1:-(2 ^ 64)<b) (h2:b<2 ^ 64):IntMulOk a b:=IntMulOk.of_right (intBits_le_64 h1 h2)
theorem ZlQ {a b:Int} (h1:-(2 ^ 64)<a) (h2:a<2 ^ 64):IntMulOk a b:=IntMulOk.of_left (intBits_le_64 h1 h2)
theorem Zjg {a b:Int} (ha:Builtin.Int.intBits a<=2 ^ 20) (hb:Builtin.Int.intBits b<=2 ^ 20):IntMulOk a b:=IntMulOk.of_bits ha hb
theorem cp18:Zi0 10 18:=by unfold Zi0;decide
theorem cp59:Zi0 10 59:=by unfold Zi0;decide
noncomputable def Exc (p:Addr) (H H':Hp):Prop:=∀b o,b≠p->H b=some o->H' b=some o
theorem Zd.exc {H H1 H2:Hp}{p:Addr} (s:Zd H H1) (h:H p=none) (e:Exc p H1 H2):Zd H H2:=λb o z=>e b o (Zz z h) (s b o z)
theorem Zd.ZcE {H H':Hp}{p:Addr} (s:Zd H H'):Exc p H H':=λb o _ z=>s b o z
theorem Exc.upd {H:Hp}{p:Addr}{o:HO}:Exc p H (Lake.upd H p o):=λb u n z=>by rw[Zh n];exact z
theorem ZX {K:Frag}{H:Hp}{p:Addr}{xs:List V} (h:H p=some (.lst xs)):tyV K "list" (.ref p) H:=.inl ⟨rfl,_,SqL.of h⟩
theorem ZlR {i j:Int}:ZjV (.int i) (.int j)=true:=rfl
theorem ZlS {i j:Bool}:ZjV (.bl i) (.bl j)=true:=rfl
theorem ZlT {i j:Str}:ZjV (.str i) (.str j)=true:=rfl
theorem ZlU:ZjV .non .non=true:=rfl
theorem ZlV {i:Int}:ZjV .non (.int i)=true:=rfl
theorem ZlW {i:Int}:ZjV (.int i) .non=true:=rfl
section
variable {X:Cx}
noncomputable def rLen (K:Frag):List V->Hp->VK->Prop:=λxs H Q=>∃p ys,xs=[.ref p]/\(SqL K H p ys\/SqT K H p ys)/\Q (.int ys.length) H
theorem Zp {K:Frag} (hK:X.K=K):Zax X (.builtin "len") (rLen K):=by subst hK;exact Zi7
noncomputable def rLof (K:Frag):List V->Hp->VK->Prop:=λxs H Q=>∃p ys,xs=[.ref p]/\(SqL K H p ys\/SqT K H p ys)/\∀l,H l=none->Q (.ref l) (upd H l (.lst ys))
theorem ZcS {K:Frag} (hK:X.K=K):Zax X (.type "list") (rLof K):=by subst hK;exact Zi8
noncomputable def rTof (K:Frag):List V->Hp->VK->Prop:=λxs H Q=>∃p ys,xs=[.ref p]/\((SqL K H p ys/\∀l,H l=none->Q (.ref l) (upd H l (.tup ys)))\/(SqT K H p ys/\Q (.ref p) H))
theorem Zf2 {K:Frag} (hK:X.K=K):Zax X (.type "tuple") (rTof K):=by subst hK;exact Zh8
theorem ZM {K:Frag} (hK:X.K=K):Zax X (.builtin "isinstance") (rIsi K):=by subst hK;exact ZnY
end
theorem tyE {K:Frag}{H:Hp}{e C:Addr}{c:Value}{b:Bool} (he:H e=some (ZkV e C)) (Z:ExK K C) (k:kitOne K (.ref C) c=some b):tyIs K H (.ref e) c b:=.inr ⟨e,C,rfl,he,Z,k⟩
theorem Zn3 {K:Frag}{t:Value}:kitOne K t t=some true:=by unfold kitOne;simp
theorem Za0 {K:Frag}{A C:Addr}{b:Bool} (ne:A≠C) (h1:hasDictIn K C=true) (h2:typeIn K (.ref C)=some (.type "type")) (h3:subIn K (.ref A) (.ref C)=some b):kitOne K (.ref A) (.ref C)=some b:=by
 obtain⟨cd,hc,_⟩:=any_some h1
 unfold kitOne
 rw[Yb (by intro z;exact ne (Value.ref.inj (beq_iff_eq.mp z)))]
 unfold kitCls
 dsimp only
 rw[Yd (by rw[hc,h2];rfl)]
 exact h3
theorem kit_V {K:Frag}{A:Addr}{b:Bool} (h:subIn K (.ref A) (.type "ValueError")=some b):kitOne K (.ref A) (.type "ValueError")=some b:=by
 unfold kitOne
 rw[Yb (by intro z;cases beq_iff_eq.mp z)]
 unfold kitCls
 dsimp only
 rw[Yd (by decide +kernel)]
 exact h
theorem ty_ii {K:Frag}{H:Hp}{i:Int}:tyIs K H (.int i) (.type "int") true:=.inl ⟨_,.int i,by with_unfolding_all rfl⟩
theorem ty_ib {K:Frag}{H:Hp}{i:Int}:tyIs K H (.int i) (.type "bool") false:=.inl ⟨_,.int i,by with_unfolding_all rfl⟩
theorem ZlX {a:Addr}{x:Value}:(cOf (.ref a)=some x)=(.ref a=x):=by simp[cOf]
theorem Zn4 {n:String}{x:Value}:(cOf (.ty n)=some x)=(.type n=x):=by simp[cOf]
theorem Zn5 {α:Type}{f:Nat->Option α}{g:Nat->α}:∀{l:List Nat},(∀k∈l,f k=some (g k))->l.filterMap f=l.map g
 |[],_=>rfl
 |k::r,h=>by
  rw[List.filterMap_cons,h k (Yy ..),YJ,Zn5 λj hj=>h j (Yz _ hj)]
theorem Zn6 (its:List Value):slicePick its.toArray none none (some (-1))=its.reverse.toArray:=by
 have e:=PyProof.Rows.picked_rev its.length
 unfold Builtin.Str.strSliceIndices at e
 have e2:sliceRange ((its.length:Int)-1) (-1) (-1)=(List.range its.length).map λk=>its.length-1-k:=by
  rw[<-e];rfl
 unfold slicePick
 congr 1
 show((sliceRange ((its.toArray.size:Int)-1) (-1) (-1)).filterMap (its.toArray[·]?))=_
 rw[Yp,e2,List.filterMap_map,Zn5 (g:=λk=>(its.reverse[k]?).getD .none)]
 .refine List.ext_getElem (by simp) λj h1 h2=>?_
  have hj:j<its.length:=by simpa using h1
  simp[hj]
 .intro k hk
  have hk':k<its.length:=Yq.mp hk
  have h3:its.length-1-k<its.length:= ⋯
  simp[hk',h3]
section
variable {X:Cx}{e st:Expr}{te ts:TE}{pos p2:Pos}
noncomputable def tRev (K:Frag) (te ts:TE):TE:=fun σ H Q=>te σ H λx H1=>ts σ H1 λz H2=>∃a xs,x=.ref a/\z=.int (-1)/\SqL K H2 a xs/\∀p,H2 p=none->Q (.ref p) (upd H2 p (.lst xs.reverse))
theorem Vals.rev:∀{xs:List V}{us:List Value},Vals xs us->Vals xs.reverse us.reverse:=by
 intro xs us h
 induction h with
 |nil=>exact .nil
 |cons r _ ih=>rw[List.reverse_cons,List.reverse_cons];exact ih.append (.cons r .nil)
theorem ZmI {K:Frag} (hK:X.K=K) (he:PE X e te) (hs:PE X st ts):PE X (.Subscript e (.Slice none none (some st) p2) pos) (tRev K te ts):=by
 subst hK
 intro pins s σ H Q I h
 refine Subscript_ (thn (he pins s σ H _ I h) λv s1 ⟨x,H1,I1,r1,q1⟩=>?_)
 refine wpAny_Slice ?_
 rw[evalPart_none]
 refine Yc ?_
 refine Yc ?_
 rw[evalPart_some]
 refine thn (hs pins s1 σ H1 _ I1 q1) λvs s2 ⟨z,H2,I2,r2,a,xs,e1,e2,hx,q⟩=>?_
 subst e1 e2
 obtain⟨tk,rfl⟩:=r2
 cases r1
 have I4:Inv X pins σ H2 {s2 with heap:=s2.heap.push {cls:=.type "slice",data:=.fields #[.none,.none,.int (-1) tk]}}:=I2.kept (t':=s2.toks) λb ob q=>Yk _ q
 show wpAny (model X.prog X.w) X.A (subscriptTail e (.Slice none none (some st) p2) (.ref a) (.ref s2.heap.objs.size)) (EP X pins σ Q) X.xe {s2 with heap:=s2.heap.push {cls:=.type "slice",data:=.fields #[.none,.none,.int (-1) tk]}}
 obtain⟨its,r,ht,hz⟩:=I4.list hx
 have hlen:=r.length
 refine tail_any (ops:=[.ref a,.ref s2.heap.objs.size]) ht.isList.typeIs slot_list_getitem.lookup ?_ (by with_unfolding_all rfl)
 refine wpAny_getItem_list_slice (s:={s2 with heap:=s2.heap.push {cls:=.type "slice",data:=.fields #[.none,.none,.int (-1) tk]}}) ht.isList (Heap.IsSliceOf.new ..) .none .none (.int (-1) tk) (by simp) ?_ (by rw[Yp]<;>omega)
 rw[Zn6]
 refine⟨.ref _,_,I4.laid (t':=s2.toks) (o:=.lst xs.reverse) (λb ob q=>Yk _ q) (Ye _) ?_,rfl,q _ (I4.hok.fresh (Ye _))⟩
 exact⟨by rw[List.length_reverse];exact hz,_,0,r.rev,Yv _ rfl⟩
end
theorem Zq9 (xs:List V):ZbL xs none (some 1)=xs.take 1:=by
 unfold ZbL HT.sIx
 cases xs<;>simp
noncomputable def Rows (H:Hp) (l:Addr) (rs:List (List Int)):Prop:=∃as:List Addr,H l=some (.lst (as.map V.ref))/\l∉as/\as.length=rs.length/\∀i (h1:i<as.length) (h2:i<rs.length),H as[i]=some (.lst (rs[i].map V.int))
inductive EqD (K:Frag) (H:Hp):Nat->V->V->Bool->Prop
 |flat {n:Nat}{x y:V} (fx:flatV x=true) (fy:flatV y=true):EqD K H n x y (eqV x y)
 |lst {n:Nat}{a b:Addr}{xs ys:List V} (e:Nat->Bool) (hx:SqL K H a xs) (hy:SqL K H b ys) (hl:xs.length=ys.length) (h:∀j x y,xs[j]?=some x->ys[j]?=some y->EqD K H n x y (e j)):EqD K H (n+1) (.ref a) (.ref b) ((List.range xs.length).all e)
 |len {n:Nat}{a b:Addr}{xs ys:List V} (hx:SqL K H a xs) (hy:SqL K H b ys) (hl:xs.length≠ys.length):EqD K H (n+1) (.ref a) (.ref b) false
 |tup {n:Nat}{a b:Addr}{xs ys:List V} (e:Nat->Bool) (hx:SqT K H a xs) (hy:SqT K H b ys) (h:∀j x y,xs[j]?=some x->ys[j]?=some y->EqD K H n x y (e j)):EqD K H (n+1) (.ref a) (.ref b) ((List.range (min xs.length ys.length)).all e&&xs.length==ys.length)
theorem Zn7 {x:V} (h:flatV x=true):eqV x x=true:=by
 cases x<;>first
  |rfl
  |(simp[eqV];done)
  |cases h
section
variable {X:Cx}{pins:List (Addr×Obj)}{σ:St}{H:Hp}{s:Shared}
theorem Zj4 (I:Inv X pins σ H s) {n:Nat}{x y:V}{b:Bool} (h:EqD X.K H n x y b):x=y->b=true:=by
 induction h with
 |flat fx fy=>rintro rfl;exact Zn7 fx
 |lst e hx hy hl h ih =>
  intro z
  cases z
  have:=I.ZdO hx hy
  subst this
  refine List.all_eq_true.mpr λj hj=>?_
  have hj':=Yq.mp hj
  exact ih j _ _ (Yf hj') (Yf hj') rfl
 |len hx hy hl =>
  intro z
  cases z
  have:=I.ZdO hx hy
  subst this
  exact absurd rfl hl
 |tup e hx hy h ih =>
  intro z
  cases z
  have:=I.ZfZ hx hy
  subst this
  rw[Nat.min_self]
  have:(List.range _).all e=true:=List.all_eq_true.mpr λj hj=>by
   have hj':=Yq.mp hj
   exact ih j _ _ (Yf hj') (Yf hj') rfl
  rw[this];simp
theorem Zf3 (I:Inv X pins σ H s) {n:Nat}{x y:V}{b:Bool} (h:EqD X.K H n x y b):∀(A:Around) (u v:Value),A.units+n<cLine->RelV x u->RelV y v->SeqAt.EqAt A s u v b:=by
 induction h with
 |flat fx fy=>intro A u v _ ru rv;exact ZnT ru rv fx fy
 |@lst n a b xs ys e hx hy hl h ih =>
  intro A u v hu ru rv
  have hb:=Zj4 I (.lst e hx hy hl h)
  cases ru
  cases rv
  by_cases hab:a=b
  .subst hab
   rw[hb rfl];exact SeqAt.EqAt.same _
  .obtain⟨is1,r1,p1,_⟩:=I.list hx
   obtain⟨is2,r2,p2,_⟩:=I.list hy
   have e1:=r1.length
   have e2:=r2.length
   have key:=SeqAt.RcAt.lists (A:=A) (s:=s) (e:=e) p1.isList p2.isList (by simp;omega) ⋯ λj h1 h2=>by
    have h1':j<xs.length:=by simpa[e1]using h1
    have h2':j<ys.length:=by simpa[e2]using h2
    obtain⟨u,hu1,ru⟩:=r1.get (Yf h1')
    obtain⟨v,hv1,rv⟩:=r2.get (Yf h2')
    have eu:is1.toArray[j]=u:=by simpa using(Yr.mp hu1).2
    have ev:is2.toArray[j]=v:=by simpa using(Yr.mp hv1).2
    rw[eu,ev]
    exact ih j _ _ (Yf h1') (Yf h2') A.in1 u v (by show A.units+1+n<cLine;omega) ru rv
   have e3:is1.toArray.size=xs.length:=by simp[e1]
   rw[e3]at key
   exact SeqAt.EqAt.of_refs hab key
 |@len n a b xs ys hx hy hl =>
  intro A u v hu ru rv
  cases ru
  cases rv
  have hab:a≠b:=λz=>by subst z;exact hl (congrArg List.length (I.ZdO hx hy))
  obtain⟨is1,r1,p1,_⟩:=I.list hx
  obtain⟨is2,r2,p2,_⟩:=I.list hy
  have e1:=r1.length
  have e2:=r2.length
  exact SeqAt.EqAt.of_refs hab (SeqAt.RcAt.lists_lengths p1.isList p2.isList (by simp;omega) ⋯)
 |@tup n a b xs ys e hx hy h ih =>
  intro A u v hu ru rv
  have hb:=Zj4 I (.tup e hx hy h)
  cases ru
  cases rv
  by_cases hab:a=b
  .subst hab
   rw[hb rfl];exact SeqAt.EqAt.same _
  .obtain⟨is1,r1,p1,_⟩:=I.tuple hx
   obtain⟨is2,r2,p2,_⟩:=I.tuple hy
   have e1:=r1.length
   have e2:=r2.length
   have key:=SeqAt.RcAt.tuples (A:=A) (s:=s) (e:=e) p1 p2 ⋯ λj h1 h2=>by
    have h1':j<xs.length:=by simpa[e1]using h1
    have h2':j<ys.length:=by simpa[e2]using h2
    obtain⟨u,hu1,ru⟩:=r1.get (Yf h1')
    obtain⟨v,hv1,rv⟩:=r2.get (Yf h2')
    have eu:is1.toArray[j]=u:=by simpa using(Yr.mp hu1).2
    have ev:is2.toArray[j]=v:=by simpa using(Yr.mp hv1).2
    rw[eu,ev]
    exact ih j _ _ (Yf h1') (Yf h2') A.in1 u v (by show A.units+1+n<cLine;omega) ru rv
   have e3:is1.toArray.size=xs.length:=by simp[e1]
   have e4:is2.toArray.size=ys.length:=by simp[e2]
   rw[e3,e4]at key
   exact SeqAt.EqAt.of_refs hab key
end
noncomputable def rEqD (K:Frag) (neg:Bool):R2:=λx y H Q=>∃a b k,x=.ref a/\y=.ref b/\EqD K H 3 x y k/\Q (.bl (if neg then !k else k)) H
section
variable {X:Cx}
theorem Zhm {K:Frag} (hK:X.K=K) {k:Nat} (hr:Room k X.A):OpR X (compareOp .Eq) (rEqD K false):=by
 subst hK
 have hu0:=hr.un
 intro pins s σ H x y v u Q I rx ry h
 obtain⟨a,b,k,rfl,rfl,h,q⟩:=h
 cases rx
 cases ry
 cases h with
 |flat fx fy=>cases fx
 |@lst n _ _ xs ys e hx hy hl h =>
  obtain⟨is1,r1,p1,_⟩:=I.list hx
  obtain⟨is2,r2,p2,_⟩:=I.list hy
  have e1:=r1.length
  have e2:=r2.length
  have e3:is1.toArray.size=xs.length:=by simp[e1]
  refine SeqAt.eq_listAt (e:=e) p1.isList p2.isList (by simp;omega) ⋯ (λj h1 h2=>?_) ⟨.bl _,H,I,rfl,by rw[e3];exact q⟩
  have h1':j<xs.length:=by simpa[e1]using h1
  have h2':j<ys.length:=by simpa[e2]using h2
  obtain⟨u,hu1,ru⟩:=r1.get (Yf h1')
  obtain⟨v,hv1,rv⟩:=r2.get (Yf h2')
  have eu:is1.toArray[j]=u:=by simpa using(Yr.mp hu1).2
  have ev:is2.toArray[j]=v:=by simpa using(Yr.mp hv1).2
  rw[eu,ev]
  exact Zf3 I (h j _ _ (Yf h1') (Yf h2')) X.A.in1 u v (by show X.A.units+1+2<cLine;omega) ru rv
 |@len n _ _ xs ys hx hy hl =>
  obtain⟨is1,r1,p1,_⟩:=I.list hx
  obtain⟨is2,r2,p2,_⟩:=I.list hy
  have e1:=r1.length
  have e2:=r2.length
  exact SeqAt.eq_list_lengthsAt p1.isList p2.isList (by simp;omega) ⋯ ⟨.bl _,H,I,rfl,q⟩
 |@tup n _ _ xs ys e hx hy h =>
  obtain⟨is1,r1,p1,_⟩:=I.tuple hx
  obtain⟨is2,r2,p2,_⟩:=I.tuple hy
  have e1:=r1.length
  have e2:=r2.length
  have e3:is1.toArray.size=xs.length:=by simp[e1]
  have e4:is2.toArray.size=ys.length:=by simp[e2]
  refine SeqAt.eq_tupleAt (e:=e) p1 p2 ⋯ (λj h1 h2=>?_) ⟨.bl _,H,I,rfl,by rw[e3,e4];exact q⟩
  have h1':j<xs.length:=by simpa[e1]using h1
  have h2':j<ys.length:=by simpa[e2]using h2
  obtain⟨u,hu1,ru⟩:=r1.get (Yf h1')
  obtain⟨v,hv1,rv⟩:=r2.get (Yf h2')
  have eu:is1.toArray[j]=u:=by simpa using(Yr.mp hu1).2
  have ev:is2.toArray[j]=v:=by simpa using(Yr.mp hv1).2
  rw[eu,ev]
  exact Zf3 I (h j _ _ (Yf h1') (Yf h2')) X.A.in1 u v (by show X.A.units+1+2<cLine;omega) ru rv
theorem ZkZ {K:Frag} (hK:X.K=K) {k:Nat} (hr:Room k X.A):OpR X (compareOp .NotEq) (rEqD K true):=by
 subst hK
 have hu0:=hr.un
 intro pins s σ H x y v u Q I rx ry h
 obtain⟨a,b,k,rfl,rfl,h,q⟩:=h
 cases rx
 cases ry
 cases h with
 |flat fx fy=>cases fx
 |@lst n _ _ xs ys e hx hy hl h =>
  obtain⟨is1,r1,p1,_⟩:=I.list hx
  obtain⟨is2,r2,p2,_⟩:=I.list hy
  have e1:=r1.length
  have e2:=r2.length
  have e3:is1.toArray.size=xs.length:=by simp[e1]
  refine SeqAt.RcNeAt.lists (e:=e) p1.isList p2.isList (by simp;omega) ⋯ (λj h1 h2=>?_) _ _ _ _ ⟨.bl _,H,I,rfl,by rw[e3];exact q⟩
  have h1':j<xs.length:=by simpa[e1]using h1
  have h2':j<ys.length:=by simpa[e2]using h2
  obtain⟨u,hu1,ru⟩:=r1.get (Yf h1')
  obtain⟨v,hv1,rv⟩:=r2.get (Yf h2')
  have eu:is1.toArray[j]=u:=by simpa using(Yr.mp hu1).2
  have ev:is2.toArray[j]=v:=by simpa using(Yr.mp hv1).2
  rw[eu,ev]
  exact Zf3 I (h j _ _ (Yf h1') (Yf h2')) X.A.in1 u v (by show X.A.units+1+2<cLine;omega) ru rv
 |@len n _ _ xs ys hx hy hl =>
  obtain⟨is1,r1,p1,_⟩:=I.list hx
  obtain⟨is2,r2,p2,_⟩:=I.list hy
  have e1:=r1.length
  have e2:=r2.length
  exact SeqAt.RcNeAt.lists_lengths p1.isList p2.isList (by simp;omega) ⋯ _ _ _ _ ⟨.bl _,H,I,rfl,q⟩
 |@tup n _ _ xs ys e hx hy h =>
  obtain⟨is1,r1,p1,_⟩:=I.tuple hx
  obtain⟨is2,r2,p2,_⟩:=I.tuple hy
  have e1:=r1.length
  have e2:=r2.length
  have e3:is1.toArray.size=xs.length:=by simp[e1]
  have e4:is2.toArray.size=ys.length:=by simp[e2]
  refine SeqAt.RcNeAt.tuples (e:=e) p1 p2 ⋯ (λj h1 h2=>?_) _ _ _ _ ⟨.bl _,H,I,rfl,by rw[e3,e4];exact q⟩
  have h1':j<xs.length:=by simpa[e1]using h1
  have h2':j<ys.length:=by simpa[e2]using h2
  obtain⟨u,hu1,ru⟩:=r1.get (Yf h1')
  obtain⟨v,hv1,rv⟩:=r2.get (Yf h2')
  have eu:is1.toArray[j]=u:=by simpa using(Yr.mp hu1).2
  have ev:is2.toArray[j]=v:=by simpa using(Yr.mp hv1).2
  rw[eu,ev]
  exact Zf3 I (h j _ _ (Yf h1') (Yf h2')) X.A.in1 u v (by show X.A.units+1+2<cLine;omega) ru rv
end
noncomputable def IsI (v:V) (i:Int):Prop:=v=.int i
noncomputable def IsL (K:Frag) (H:Hp) {α:Type} (P:V->α->Prop) (v:V) (as:List α):Prop:=∃a xs,v=.ref a/\SqL K H a xs/\xs.length=as.length/\∀(j:Nat) (x:V) (y:α),xs[j]?=some x->as[j]?=some y->P x y
noncomputable def IsT (K:Frag) (H:Hp) {α:Type} (P:V->α->Prop) (v:V) (as:List α):Prop:=∃a xs,v=.ref a/\SqT K H a xs/\xs.length=as.length/\∀(j:Nat) (x:V) (y:α),xs[j]?=some x->as[j]?=some y->P x y
noncomputable def EqP (K:Frag) (H:Hp) (n:Nat) {α:Type} [DecidableEq α] (P:V->α->Prop):Prop:=∀x y a b,P x a->P y b->EqD K H n x y (decide (a=b))
theorem ZeF {K:Frag}{H:Hp}{n:Nat}:EqP K H n IsI:=by
 rintro x y a b rfl rfl
 have:=EqD.flat (K:=K) (H:=H) (n:=n) (x:=.int a) (y:=.int b) rfl rfl
 have e:eqV (.int a) (.int b)=decide (a=b):=by simp[eqV,Bool.beq_eq_decide_eq]
 rw[<-e];exact this
theorem all_eq {α:Type} [DecidableEq α] (as bs:List α) (h:as.length=bs.length):(List.range as.length).all (λj=>decide (as[j]?=bs[j]?))=decide (as=bs):=by
 rw[Bool.eq_iff_iff,List.all_eq_true,decide_eq_true_iff]
 constructor
 .intro q
  refine List.ext_getElem? λj=>?_
  by_cases hj:j<as.length
  .simpa using q j (Yq.mpr hj)
  .rw[List.getElem?_eq_none ⋯,List.getElem?_eq_none ⋯]
 .rintro rfl j _;simp
theorem Zg7 {K:Frag}{H:Hp}{n:Nat}{α:Type} [DecidableEq α] {P:V->α->Prop} (h:EqP K H n P):EqP K H (n+1) (IsL K H P):=by
 rintro x y as bs ⟨a,xs,rfl,hx,lx,px⟩ ⟨b,ys,rfl,hy,ly,py⟩
 by_cases hl:as.length=bs.length
 .rw[<-all_eq as bs hl,<-lx]
  refine .lst _ hx hy ⋯ λj x y h1 h2=>?_
  have j1:=(Yr.mp h1).1
  have j2:=(Yr.mp h2).1
  have ha:as[j]?=some as[j]:=Yf ⋯
  have hb:bs[j]?=some bs[j]:=Yf ⋯
  have:=h x y _ _ (px j _ _ h1 ha) (py j _ _ h2 hb)
  rw[ha,hb]
  simpa using this
 .have e:decide (as=bs)=false:=by simp;intro z;exact hl (congrArg List.length z)
  rw[e]
  exact .len hx hy ⋯
theorem ZlY {K:Frag}{H:Hp}{n:Nat}{α:Type} [DecidableEq α] {P:V->α->Prop} (h:EqP K H n P):EqP K H (n+1) (IsT K H P):=by
 rintro x y as bs ⟨a,xs,rfl,hx,lx,px⟩ ⟨b,ys,rfl,hy,ly,py⟩
 have key:=EqD.tup (K:=K) (H:=H) (n:=n) (λj=>decide (as[j]?=bs[j]?)) hx hy λj x y h1 h2=>by
  have j1:=(Yr.mp h1).1
  have j2:=(Yr.mp h2).1
  have ha:as[j]?=some as[j]:=Yf ⋯
  have hb:bs[j]?=some bs[j]:=Yf ⋯
  have:=h x y _ _ (px j _ _ h1 ha) (py j _ _ h2 hb)
  rw[ha,hb]
  simpa using this
 have e:((List.range (min xs.length ys.length)).all (λj=>decide (as[j]?=bs[j]?))&&xs.length==ys.length)=decide (as=bs):=by
  rw[lx,ly]
  by_cases hl:as.length=bs.length
  .rw[<-hl,Nat.min_self,all_eq as bs hl];simp
  .have e:decide (as=bs)=false:=by simp;intro z;exact hl (congrArg List.length z)
   rw[e]
   simp[hl]
 rw[e]at key
 exact key
theorem Zbf {K:Frag}{H:Hp}{a:Addr}{ns:List Int} (h:SqL K H a (ns.map V.int)):IsL K H IsI (.ref a) ns:=⟨a,_,rfl,h,by simp,λj x y h1 h2=>by
 rw[YG,h2]at h1
 exact(YF h1).symm⟩
theorem Zfl {K:Frag}{H:Hp}{a:Addr}{ns:List Int} (h:SqT K H a (ns.map V.int)):IsT K H IsI (.ref a) ns:=⟨a,_,rfl,h,by simp,λj x y h1 h2=>by
 rw[YG,h2]at h1
 exact(YF h1).symm⟩
section
variable {X:Cx}
noncomputable def tRngV (ta:TA):TE:=fun σ H Q=>ta σ H λvs H1=>∃j:Int,vs=[.int j]/\-(2 ^ 62)<=j/\j<2 ^ 62/\∀p,H1 p=none->Q (.ref p) (upd H1 p (.rng 0 j))
theorem ZiD {a:Expr}{ta:TA}{p pos:Pos} (hg:Gl X "range") (hm:X.mg "range"=none) (ha:PA X [a] ta) (hs:starEach [a] X.env=[(false,eval a X.env)]:=by rfl):PE X (.Call (.Name "range" p) [a] [] pos) (tRngV ta):=by
 intro pins s σ H Q I h
 refine wpAny_Call_Name_kw (ZaF I hg hm boot_range (PyProof.Rows.callWith_type1 (thn (ha pos pins s σ H _ I h) λus s1 ⟨vs,H1,I1,r1,q1⟩=>?_) hs rfl))
 obtain⟨j,e,q1,q2,q⟩:=q1
 subst e
 obtain⟨u,rfl,ru⟩:=r1.one
 obtain⟨t,rfl⟩:=ru
 refine call_range_1 ⟨.ref s1.heap.objs.size,_,I1.laid (λb o e=>Yk _ e) (Ye _) ?_,rfl,q _ (I1.hok.fresh (Ye _))⟩
 exact⟨_,_,_,Yv _ rfl⟩
theorem Zra {g:Nat->V}{P:Nat->Value->Prop} (hP:∀i v,P i v->RelV (g i) v):∀(n:Nat) (us:List Value),us.length=n->(∀(j:Nat) (v:Value),us[j]?=some v->P j v)->Vals ((List.range n).map g) us:=by
 intro n
 induction n with
 |zero =>
  intro us hl _
  cases us with
  |nil=>exact .nil
  |cons _ _=>cases hl
 |succ n ih =>
  intro us hl h
  have hne:us≠[]:=λz=>by rw[z]at hl;cases hl
  rw[Y7,Jb,<-List.dropLast_concat_getLast hne]
  have hl2:us.dropLast.length=n:=by rw[List.length_dropLast,hl];rfl
  refine(ih us.dropLast hl2 λj v hj=>?_).append (.cons ?_ .nil)
  .have hj2:=(Yr.mp hj).1
   refine h j v ?_
   rw[List.getElem?_dropLast]at hj
   split at hj
   .exact hj
   .cases hj
  .refine hP n _ (h n _ ?_)
   rw[List.getLast_eq_getElem]
   rw[Yr]
   refine⟨⋯,?_⟩
   congr 1
   omega
noncomputable def rAll (K:Frag):List V->Hp->VK->Prop:=λxs H Q=>∃(p:Addr) (bs:List Bool),xs=[.ref p]/\SqL K H p (bs.map V.bl)/\Q (.bl (bs.all id)) H
noncomputable def rAny (K:Frag):List V->Hp->VK->Prop:=λxs H Q=>∃(p:Addr) (bs:List Bool),xs=[.ref p]/\SqL K H p (bs.map V.bl)/\Q (.bl (bs.any id)) H
theorem all_ix (bs:List Bool):(List.range bs.length).all (λi=>bs.getD i false)=bs.all id:=by
 rw[Bool.eq_iff_iff,List.all_eq_true,List.all_eq_true]
 constructor
 .intro h x hx
  obtain⟨j,hj,rfl⟩:=YU hx
  have:=h j (Yq.mpr hj)
  simpa[Yg,hj]using this
 .intro h j hj
  have hj':=Yq.mp hj
  have:=h _ (YK hj')
  simpa[Yg,hj']using this
theorem any_ix (bs:List Bool):(List.range bs.length).any (λi=>bs.getD i false)=bs.any id:=by
 rw[Bool.eq_iff_iff,List.any_eq_true,List.any_eq_true]
 constructor
 .rintro⟨j,hj,e⟩
  have hj':=Yq.mp hj
  exact⟨_,YK hj',by simpa[Yg,hj']using e⟩
 .rintro⟨x,hx,e⟩
  obtain⟨j,hj,rfl⟩:=YU hx
  exact⟨j,Yq.mpr hj,by simpa[Yg,hj]using e⟩
theorem Zgx {prog:Program}{w:World}{A:Around}{bs:List Bool}{its:List Value} (r:Vals (bs.map V.bl) its):TruthOf prog w A (λi v=>its.toArray[i]?=some v) (λi=>bs.getD i false):=by
 intro i v s Q E hv hq
 have hv':its[i]?=some v:=by simpa using hv
 have hl:=r.length
 have hi:i<bs.length:=by
  have:=(Yr.mp hv').1
  rw[Yh]at hl;omega
 obtain⟨u,hu,ru⟩:=r.get (i:=i) (x:=V.bl bs[i]) (by rw[YG,Yf hi];rfl)
 rw[hv']at hu
 cases hu
 cases ru
 refine wpAny_truthy_bool ?_
 simpa[Yg,hi]using hq
theorem Zn8 {K:Frag} (hK:X.K=K) (hc:X.calm=true):Zax X (.builtin "all") (rAll K):=by
 subst hK
 intro pins s σ H xs us Q I r h
 obtain⟨p,bs,rfl,hp,q⟩:=h
 obtain⟨u,rfl,ru⟩:=r.one
 cases(show u=Value.ref p from ru)
 obtain⟨its,r',pl,hz⟩:=I.list hp
 have hl:=r'.length
 refine call_all_walk (wpAny_pyIter_list pl.isList ?_)
 have hne:p≠s.heap.objs.size:=by obtain⟨o,e,_⟩:=pl.isList;exact Yl (Yj e)
 refine⟨s.heap.objs.size,_,_,_,_,_,λi=>bs.getD i false,rfl,Walks.list (A:=X.A.in1) (show X.A.in1.handled=none from I.ok.hd hc) _ p hne its.toArray,⟨⟨_,Yv _ rfl,rfl,rfl⟩,pl.isList.push _⟩,Zgx r',λh' tk kp=>?_⟩
 have e1:its.toArray.size=bs.length:=by rw[Yp];rw[Yh]at hl;omega
 rw[e1,all_ix]
 exact⟨.bl _,H,I.kept (t':=tk) λb o e=>kp b o (by simp;exact Yl (Yj e)) (Yk _ e),rfl,q⟩
theorem Zn9 {K:Frag} (hK:X.K=K) (hc:X.calm=true):Zax X (.builtin "any") (rAny K):=by
 subst hK
 intro pins s σ H xs us Q I r h
 obtain⟨p,bs,rfl,hp,q⟩:=h
 obtain⟨u,rfl,ru⟩:=r.one
 cases(show u=Value.ref p from ru)
 obtain⟨its,r',pl,hz⟩:=I.list hp
 have hl:=r'.length
 refine call_any_walk (wpAny_pyIter_list pl.isList ?_)
 have hne:p≠s.heap.objs.size:=by obtain⟨o,e,_⟩:=pl.isList;exact Yl (Yj e)
 refine⟨s.heap.objs.size,_,_,_,_,_,λi=>bs.getD i false,rfl,Walks.list (A:=X.A.in1) (show X.A.in1.handled=none from I.ok.hd hc) _ p hne its.toArray,⟨⟨_,Yv _ rfl,rfl,rfl⟩,pl.isList.push _⟩,Zgx r',λh' tk kp=>?_⟩
 have e1:its.toArray.size=bs.length:=by rw[Yp];rw[Yh]at hl;omega
 rw[e1,any_ix]
 exact⟨.bl _,H,I.kept (t':=tk) λb o e=>kp b o (by simp;exact Yl (Yj e)) (Yk _ e),rfl,q⟩
noncomputable def rIxQ (K:Frag):R2:=λx y H Q=>∃p xs i v,x=.ref p/\y=.int i/\(SqL K H p xs\/SqT K H p xs)/\atI xs i=some v/\Q v H
theorem ZeZ {K:Frag} (hK:X.K=K):IxR X (rIxQ K):=by
 subst hK
 intro value slice pins s σ H x y v u Q I rx ry h hs
 refine(Zr.or ZI) (value:=value) (slice:=slice) pins s σ H x y v u Q I rx ry ?_ hs
 obtain⟨p,xs,i,v,rfl,rfl,hq,ha,q⟩:=h
 rcases hq with hq|hq
 .exact .inl ⟨p,xs,i,v,rfl,rfl,hq,ha,q⟩
 .exact .inr ⟨p,xs,i,v,rfl,rfl,hq,ha,q⟩
theorem bt_all:bootBuiltins "all"=some (.builtin "all"):=by decide +kernel
theorem bt_any:bootBuiltins "any"=some (.builtin "any"):=by decide +kernel
end
noncomputable def ZL (f:Nat->Int) (a b p:Nat):Prop:=a<=p/\p<=b/\(∀q,a<=q->q<p->f p<f q)/\∀q,p<q->q<=b->f p<=f q
theorem ZL.unique {f:Nat->Int}{a b p q:Nat} (h:ZL f a b p) (k:ZL f a b q):p=q:=by
 obtain⟨h1,h2,h3,h4⟩:=h
 obtain⟨k1,k2,k3,k4⟩:=k
 rcases Nat.lt_trichotomy p q with z|z|z
 .have:=k3 p h1 z
  have:=h4 q z k2
  omega
 .exact z
 .have:=h3 q k1 z
  have:=k4 p z h2
  omega
theorem ZL.join {f:Nat->Int}{a m a' b p q:Nat} (h:ZL f a m p) (k:ZL f a' b q) (h1:a<=a') (h2:a'<=m+1) (h3:m<=b):ZL f a b (if f q<f p then q else p):=by
 obtain⟨p1,p2,p3,p4⟩:=h
 obtain⟨q1,q2,q3,q4⟩:=k
 have pm:∀r,a<=r->r<=m->f p<=f r:=λr r1 r2=>by
  rcases Nat.lt_trichotomy r p with z|z|z
  .exact Int.le_of_lt (p3 r r1 z)
  .rw[z];exact Int.le_refl _
  .exact p4 r z r2
 have qm:∀r,a'<=r->r<=b->f q<=f r:=λr r1 r2=>by
  rcases Nat.lt_trichotomy r q with z|z|z
  .exact Int.le_of_lt (q3 r r1 z)
  .rw[z];exact Int.le_refl _
  .exact q4 r z r2
 split
 .rename_i hlt
  refine⟨⋯,q2,λr r1 r2=>?_,λr r1 r2=>qm r ⋯ r2⟩
  by_cases z:a'<=r
  .exact q3 r z r2
  .have:=pm r r1 ⋯;omega
 .rename_i hle
  refine⟨p1,⋯,p3,λr r1 r2=>?_⟩
  by_cases z:r<=m
  .exact p4 r r1 z
  .have:=qm r ⋯ r2;omega
noncomputable def Zf4 (f:Nat->Int) (a:Nat):Nat->Nat
 |0=>a
 |c+1=>if f (a+c+1)<f (Zf4 f a c)then a+c+1 else Zf4 f a c
theorem ZiE (f:Nat->Int) (a:Nat):ZL f a a a:=⟨Ye _,Ye _,λq h1 h2=>⋯,λq h1 h2=>⋯⟩
theorem Zaz (f:Nat->Int) (a c:Nat):ZL f a (a+c) (Zf4 f a c):=by
 induction c with
 |zero=>exact ZiE f a
 |succ c ih =>
  rw[Zf4]
  exact ih.join (ZiE f (a+c+1)) ⋯ ⋯ ⋯
noncomputable def nth (ns:List Int) (i:Nat):Int:=ns.getD i 0
theorem ZY {ns:List Int}{i:Nat} (h:i<ns.length):atI (ns.map V.int) (i:Int)=some (V.int (nth ns i)):=by
 rw[ZeY rfl (by simpa using h)]
 simp[nth,Yg,h]
theorem ZlZ (f:Nat->Int) (a c:Nat):a<=Zf4 f a c/\Zf4 f a c<=a+c:=⟨(Zaz f a c).1,(Zaz f a c).2.1⟩
noncomputable def WI (N:Nat) (Pv:Nat->St->Hp->Prop) (m:Nat) (σ:St) (H:Hp):Prop:=∃i,m=N-i/\i<=N/\Pv i σ H
theorem WI.next {N:Nat}{Pv:Nat->St->Hp->Prop}{i:Nat}:∀σ' H',(i+1<=N/\Pv (i+1) σ' H')->∃m',m'<N-i/\WI N Pv m' σ' H':=fun σ' H' h=>⟨N-(i+1),⋯,i+1,rfl,h.1,h.2⟩
theorem Zl0 {c:TT}{tb:TS}{D:Ends}{σ:St}{H:Hp} (N:Nat) (Pv:Nat->St->Hp->Prop) (h0:Pv 0 σ H)
  (hs:∀i σ H,i<=N->Pv i σ H->c σ H λb H1=>if b=true then ∃Nx:St->Hp->Prop,(∀σ' H',Nx σ' H'->∃m',m'<N-i/\WI N Pv m' σ' H')/\tb {D with nx:=Nx,ct:=Nx,bk:=D.nx} σ H1 else D.nx σ H1):ZkY c tb D σ H:=by
 refine⟨WI N Pv,⟨N,0,rfl,Yo _,h0⟩,?_⟩
 rintro m σ H ⟨i,rfl,hi,p⟩
 exact hs i σ H hi p
theorem Zd.Zf5 {K:Frag}{H H':Hp}{a:Addr}{xs:List V} (e:Zd H H') (h:SqT K H a xs):SqT K H' a xs:=by
 rcases h with(h|⟨o,h⟩)|h
 .exact .inl (.inl (e _ _ h))
 .exact .inl (.inr ⟨o,e _ _ h⟩)
 .exact .inr h
theorem Zd.q {K:Frag}{H H':Hp}{a:Addr}{xs:List V} (e:Zd H H') (h:SqL K H a xs\/SqT K H a xs):SqL K H' a xs\/SqT K H' a xs:=h.imp e.seq e.Zf5
theorem Exc.trans {p:Addr}{H H1 H2:Hp} (a:Exc p H H1) (b:Exc p H1 H2):Exc p H H2:=λc o n z=>b c o n (a c o n z)
theorem Exc.free {p q:Addr}{H H':Hp} (e:Exc p H H') (n:q≠p) (h:H' q=none):H q=none:=by
 cases z:H q with
 |none=>rfl
 |some o=>rw[e q o n z]at h;cases h
theorem Exc.updN {p q:Addr}{H H':Hp}{o:HO} (e:Exc p H H') (h:H q=none):Exc p H (Lake.upd H' q o):=λb u n z=>by
 rw[Zh (Zz z h)];exact e b u n z
theorem Exc.same {p:Addr}{H H1 H2:Hp} (a:Exc p H H1) (s:Zd H1 H2):Exc p H H2:=a.trans s.ZcE
section
variable {X:Cx}{a b c d:Expr}{ta tb tc td:TE}{pos:Pos}
noncomputable def tChain3 (r r' r'':R2) (ta tb tc td:TE):TE:=fun σ H Q=>ta σ H λx H1=>tb σ H1 λy H2=>r x y H2 λz H3=>∃k,z=.bl k /\
 (if k=true then tc σ H3 λy' H4=>r' y y' H4 λz' H5=>∃k',z'=.bl k'/\(if k'=true then td σ H5 λy'' H6=>r'' y' y'' H6 Q else Q (.bl false) H5)else Q (.bl false) H3)
theorem ZmJ {op op' op'':CmpOp}{r r' r'':R2} (ho:OpR X (compareOp op) r) (ho':OpR X (compareOp op') r') (ho'':OpR X (compareOp op'') r'') (ha:PE X a ta) (hb:PE X b tb) (hc:PE X c tc) (hd:PE X d td)
  (hm:lastMarks [op,op',op''] [b,c,d]=false:=by with_unfolding_all rfl):PE X (.Compare a [op,op',op''] [b,c,d] pos) (tChain3 r r' r'' ta tb tc td):=by
 intro pins s σ H Q I h
 refine Compare_chain (thn (ha pins s σ H _ I h) λv s1 ⟨x,H1,I1,r1,q1⟩=>chain_link (thn (hb pins s1 σ H1 _ I1 q1) λu s2 ⟨y,H2,I2,r2,q2⟩ =>
  thn (ho pins s2 σ H2 x y v u _ I2 r1 r2 q2) λd s3 ⟨z,H3,I3,r3,k,e,q3⟩=>?_)) hm
 subst e
 cases r3
 refine wpAny_truthy_bool ?_
 cases k with
 |false=>exact ite_ff ⟨.bl false,H3,I3,rfl,q3⟩
 |true =>
  refine ite_tt (chain_link (thn (hc pins s3 σ H3 _ I3 q3) λu' s4 ⟨y',H4,I4,r4,q4⟩=>thn (ho' pins s4 σ H4 y y' u u' _ I4 r2 r4 q4) λd' s5 ⟨z',H5,I5,r5,k',e',q5⟩=>?_))
  subst e'
  cases r5
  refine wpAny_truthy_bool ?_
  cases k' with
  |false=>exact ite_ff ⟨.bl false,H5,I5,rfl,q5⟩
  |true=>exact ite_tt (chain_last (thn (hd pins s5 σ H5 _ I5 q5) λw' s6 ⟨z'',H6,I6,r6,q6⟩=>ho'' pins s6 σ H6 y' z'' u' w' Q I6 r4 r6 q6))
end
noncomputable def CA (n:Nat) (Pv:Nat->List V->Hp->Prop) (i m:Nat) (acc:List V) (H:Hp):Prop:=m=n-i/\i<=n/\acc.length<=i/\Pv i acc H
theorem CA.take {n:Nat}{Pv:Nat->List V->Hp->Prop}{i:Nat}{acc:List V}{v:V}{H:Hp} (hi:i<n) (hl:acc.length<=i) (h:Pv (i+1) (acc++[v]) H):∃m',m'<n-i/\CA n Pv (i+1) m' (acc++[v]) H:=⟨n-(i+1),⋯,rfl,hi,by simp;omega,h⟩
theorem CA.skip {n:Nat}{Pv:Nat->List V->Hp->Prop}{i:Nat}{acc:List V}{H:Hp} (hi:i<n) (hl:acc.length<=i) (h:Pv (i+1) acc H):∃m',m'<n-i/\CA n Pv (i+1) m' acc H:=⟨n-(i+1),⋯,rfl,hi,⋯,h⟩
theorem Zam {J:It}{n:Nat}{H1:Hp}{g:TG}{tt:TT}{te:TE}{σ0:St}{Q:VK} (Pv:Nat->List V->Hp->Prop) (hn:n<sizeLine) (h0:Pv 0 [] H1) (hgo:∀i acc H,Pv i acc H->i<n->J.go i H) (hstop:∀acc H,Pv n acc H->J.stop n H)
  (hb:∀i x acc H H',i<n->acc.length<=i->Pv i acc H->J.yld i H x H'->g x σ0 H' fun σ2 H2=>tt σ2 H2 λb H3=>if b=true then te σ2 H3 λv H4=>∃m',m'<n-i/\CA n Pv (i+1) m' (acc++[v]) H4 else ∃m',m'<n-i/\CA n Pv (i+1) m' acc H3)
  (hk:∀l acc H',Pv n acc H'->acc.length<=n->H' l=none->Q (.ref l) (upd H' l (.lst acc))):Zj2 J g tt te σ0 Q H1:=by
 refine⟨CA n Pv,⟨n,rfl,Yo _,Ye _,h0⟩,?_⟩
 rintro i m acc H ⟨rfl,hi,hl,p⟩
 by_cases h:i<n
 .exact .inr ⟨hgo i acc H p h,⋯,λx H' y=>hb i x acc H H' h hl p y⟩
 .have e:i=n:= ⋯
  subst e
  exact .inl ⟨hstop acc H p,⋯,λq hq=>hk q acc H p hl hq⟩
section
variable {X:Cx}
noncomputable def rInsert:V->List V->Hp->VK->Prop:=λx vs H Q=>∃l xs i y,x=.ref l/\vs=[.int i,y]/\H l=some (.lst xs)/\0<=i/\i<2 ^ 62/\xs.length<sizeLine/\Q .non (upd H l (.lst (xs.take i.toNat++y::xs.drop i.toNat)))
theorem Vals.Zoa:∀{xs:List V}{us:List Value} (k:Nat),Vals xs us->Vals (xs.take k) (us.take k)
 |_,_,0,_=>by simp;exact .nil
 |_,_,_+1,.nil=>.nil
 |_,_,k+1,.cons r h=>.cons r (Vals.Zoa k h)
theorem Vals.dropN:∀{xs:List V}{us:List Value} (k:Nat),Vals xs us->Vals (xs.drop k) (us.drop k)
 |_,_,0,h=>by simpa using h
 |_,_,_+1,.nil=>.nil
 |_,_,k+1,.cons _ h=>Vals.dropN k h
theorem ZmK:MtM X "list.insert" rInsert:=by
 intro pins s σ H x vs v us Q I rx rv h
 obtain⟨l,xs,i,y,rfl,rfl,hH,h1,h2,hz,q⟩:=h
 cases rx
 obtain⟨u,u2,rfl,ru,ru2⟩:=rv.two
 obtain⟨t,rfl⟩:=ru
 obtain⟨z,its,n,r,hl,e⟩:=I.Zi9 hH
 have hf:¬ (!Builtin.List.listFitsIndex i)=true:=by
  unfold Builtin.List.listFitsIndex
  have a1:decide (-(2 ^ 63:Int)<=i)=true:=Yu ⋯
  have a2:decide (i<(2 ^ 63:Int))=true:=Yu ⋯
  rw[a1,a2];decide
 refine call_meets F.slot_list_insert ⟨_,e,rfl⟩ F.entry_list_insert (F.args_list_insert_3 _ _ _) (AutoListH.list_insert_list_int_val_1 l its.toArray n i t u2 hf (by rw[Yp];omega)) ⟨e,?_⟩
 refine⟨.non,_,I.lset (its':=its.take i.toNat++u2::its.drop i.toNat) (ys:=xs.take i.toNat++y::xs.drop i.toNat) hH e ?_ ((r.Zoa _).append (.cons ru2 (r.dropN _))) ?_,rfl,q⟩
 .show((its.toArray.extract 0 (if i<0 then (i+((its.toArray.size:Nat):Int)).toNat else min i.toNat its.toArray.size)).push u2++its.toArray.extract (if i<0 then (i+((its.toArray.size:Nat):Int)).toNat else min i.toNat its.toArray.size))=_
  rw[Yb ⋯]
  have e1:its.take (min i.toNat its.length)=its.take i.toNat:=by
   by_cases hh:i.toNat<=its.length
   .rw[Nat.min_eq_left hh]
   .rw[Nat.min_eq_right ⋯,List.take_of_length_le ⋯,List.take_of_length_le ⋯]
  have e2:its.drop (min i.toNat its.length)=its.drop i.toNat:=by
   by_cases hh:i.toNat<=its.length
   .rw[Nat.min_eq_left hh]
   .rw[Nat.min_eq_right ⋯,List.drop_of_length_le ⋯,List.drop_of_length_le ⋯]
  apply Array.ext'
  simp[e1,e2]
  exact List.take_of_length_le (by rw[Jg];omega)
 .rw[YQ,YI,Y4,Jg];omega
noncomputable def rIndex (K:Frag):V->List V->Hp->VK->Prop:=λx vs H Q=>∃(l:Addr) (ns:List Int) (k:Int),x=.ref l/\vs=[.int k]/\SqL K H l (ns.map V.int)/\ns.length<=100000/\k∈ns/\Q (.int (ns.idxOf k:Nat)) H
theorem Zob {K:Frag} (hK:X.K=K):MtM X "list.index" (rIndex K):=by
 subst hK
 intro pins s σ H x vs v us Q I rx rv h
 obtain⟨l,ns,k,rfl,rfl,hH,hz,hk,q⟩:=h
 cases rx
 obtain⟨u,rfl,ru⟩:=rv.one
 obtain⟨t,rfl⟩:=ru
 obtain⟨its,r,pl,_⟩:=I.list hH
 have hi:IntsAre its ns:=intsAre_of r
 have hlen:=r.length
 rw[Yh]at hlen
 obtain⟨⟨cls,dd,data,sl⟩,ho,hc,n,hd⟩:=pl.isList
 simp only at hc hd
 subst hc hd
 have hj:ns.idxOf k<ns.length:=List.idxOf_lt_length_iff.mpr hk
 refine call_meets F.slot_list_index ⟨_,ho,rfl⟩ F.entry_list_index (F.args_list_index_2 _ _)
  (SeqAt.list_indexAt l its.toArray n dd sl (.int k t) (isInt k) (ns.idxOf k) (by rw[Yp];omega) ⋯ ?_ ?_) ⟨ho,λy hy=>(eq_isInt k t hi y (by simpa using hy)).at _ _,⟨.int _,H,I.tok _,⟨_,rfl⟩,q⟩⟩
 .show isInt k its[ns.idxOf k]=true
  rw[isInt_at k hi _ ⋯ hj]
  simpa using List.getElem_idxOf hj
 .intro j hjs hlt
  show isInt k its[j]=false
  rw[isInt_at k hi j (by simpa using hjs) ⋯]
  exact ne_of_lt_idxOf hlt _
end
noncomputable def ZK (H:Hp) (p:Addr):Prop:=∃x:Int,H p=some (.lst [.int x])/\0<=x
theorem ZK.ne {H:Hp}{p q:Addr} (P:ZK H p) (h:H q=none):q≠p:=by
 obtain⟨x,e,_⟩:=P
 exact(Zz e h).symm
theorem ZK.same {H H':Hp}{p:Addr} (P:ZK H p) (s:Zd H H'):ZK H' p:=by
 obtain⟨x,e,r⟩:=P
 exact⟨x,s _ _ e,r⟩
theorem ZK.upd {H:Hp}{p q:Addr}{o:HO} (P:ZK H p) (h:H q=none):ZK (Lake.upd H q o) p:=P.same ((Zd.refl H).upd h)
theorem ZK.updN {H:Hp}{p q:Addr}{o:HO} (P:ZK H p) (h:q≠p):ZK (Lake.upd H q o) p:=by
 obtain⟨x,e,r⟩:=P
 exact⟨x,by rw[Zh h.symm];exact e,r⟩
theorem cp60:Zi0 10 60:=by unfold Zi0;decide
theorem qm1:IntMulOk (10 ^ Int.toNat 60) (10 ^ Int.toNat 60):=Zjg (by decide +kernel) (by decide +kernel)
theorem qm2:IntMulOk (10 ^ Int.toNat 60*10 ^ Int.toNat 60) (10 ^ Int.toNat 60):=Zjg (by decide +kernel) (by decide +kernel)
theorem qm3:IntMulOk (10 ^ Int.toNat 60*10 ^ Int.toNat 60*10 ^ Int.toNat 60) (10 ^ Int.toNat 60):=Zjg (by decide +kernel) (by decide +kernel)
theorem qm4:(0:Int)<10 ^ Int.toNat 60*10 ^ Int.toNat 60*10 ^ Int.toNat 60*10 ^ Int.toNat 60:=by decide +kernel
end Lake
namespace Lake
noncomputable def Z1 (f:Nat->Int) (p q:Nat):Prop:=q<p/\f q<=f p/\∀r,q<r->r<p->f p<f r
noncomputable def ZZ (f:Nat->Int) (n p r:Nat):Prop:=p<r/\r<n/\f r<f p/\∀s,p<s->s<r->f p<=f s
noncomputable def Zbk (f:Nat->Int) (p:Nat):Prop:=∀q,q<p->f p<f q
noncomputable def ZaH (f:Nat->Int) (n p:Nat):Prop:=∀r,p<r->r<n->f p<=f r
noncomputable def ZC (f:Nat->Int) (n p:Nat) (e:Int):Prop :=
 (Zbk f p/\ZaH f n p/\e=-1)\/(∃q,Z1 f p q/\ZaH f n p/\e=q)\/(∃r,Zbk f p/\ZZ f n p r/\e=r) \/
 ∃q r,Z1 f p q/\ZZ f n p r/\e=if f q<=f r then (r:Int)else q
theorem Zj5 {P:Nat->Prop} [DecidablePred P] (i:Nat):∀d r,r+d=i->P r->∃t,r<=t/\t<=i/\P t/\∀s,t<s->s<=i->¬ P s:=by
 intro d
 induction d with
 |zero=>intro r e h;exact⟨r,Ye _,⋯,h,λs h1 h2=>⋯⟩
 |succ d ih =>
  intro r e h
  by_cases hx:∃t,r<t/\t<=i/\P t
  .obtain⟨t,h1,h2,h3⟩:=hx
   -- step to r+1 by cases
   by_cases h4:P (r+1)
   .obtain⟨u,u1,u2,u3,u4⟩:=ih (r+1) ⋯ h4
    exact⟨u,⋯,u2,u3,u4⟩
   .-- go on from the next one
    have gen:∀k t,t+k=i->r<t->P t->∃u,r<=u/\u<=i/\P u/\∀s,u<s->s<=i->¬ P s:=by
     intro k
     induction k with
     |zero=>intro t e h1 h3;exact⟨t,⋯,⋯,h3,λs h1 h2=>⋯⟩
     |succ k ihk =>
      intro t e h1 h3
      by_cases hy:∃s,t<s/\s<=i/\P s
      .-- the last one of the rest
       have key:∀m,m<=i->(∃s,t<s/\s<=m/\P s)->∃u,t<u/\u<=m/\P u/\∀s,u<s->s<=m->¬ P s:=by
        intro m
        induction m with
        |zero=>rintro _ ⟨s,h5,h6,_⟩;omega
        |succ m ihm =>
         rintro hm ⟨s,h5,h6,h7⟩
         by_cases hp:P (m+1)
         .exact⟨m+1,⋯,Ye _,hp,λs h1 h2=>⋯⟩
         .have hs:s<=m:=by
           rcases Nat.lt_or_ge m s with z|z
           .have:s=m+1:= ⋯
            rw[this]at h7;exact absurd h7 hp
           .exact z
          obtain⟨u,u1,u2,u3,u4⟩:=ihm ⋯ ⟨s,h5,hs,h7⟩
          refine⟨u,u1,⋯,u3,λs' h1 h2=>?_⟩
          by_cases e:s'=m+1
          .rw[e];exact hp
          .exact u4 s' h1 ⋯
       obtain⟨u,u1,u2,u3,u4⟩:=key i (Ye _) hy
       exact⟨u,⋯,u2,u3,u4⟩
      .exact⟨t,⋯,⋯,h3,λs h1 h2 h5=>hy ⟨s,h1,h2,h5⟩⟩
    exact gen (i-t) t ⋯ h1 h3
  .exact⟨r,Ye _,⋯,h,λs h1 h2 h3=>hx ⟨s,h1,h2,h3⟩⟩
theorem Zk0 {P:Nat->Prop} [DecidablePred P] {n r:Nat} (hr:r<n) (h:P r):∃t,r<=t/\t<n/\P t/\∀s,t<s->s<n->¬ P s:=by
 obtain⟨t,h1,h2,h3,h4⟩:=Zj5 (P:=P) (n-1) (n-1-r) r ⋯ h
 exact⟨t,h1,⋯,h3,λs a b=>h4 s a ⋯⟩
noncomputable def Zhn (f:Nat->Int) (i:Nat) (sp:List Nat):Prop:=sp.Pairwise (· < ·)/\∀q,q∈sp↔q<i/\∀r,q<r->r<i->f q<=f r
theorem Zjh (f:Nat->Int) (p:Nat):Zbk f p\/∃q,Z1 f p q:=by
 by_cases h:∃q,q<p/\f q<=f p
 .obtain⟨q,h1,h2⟩:=h
  obtain⟨t,_,t2,t3,t4⟩:=Zk0 (P:=λq=>f q<=f p) h1 h2
  exact .inr ⟨t,t2,t3,λr a b=>by have:=t4 r a b;omega⟩
 .exact .inl λq hq=>by
   have:¬ (f q<=f p):=λz=>h ⟨q,hq,z⟩
   omega
theorem ZmL {f:Nat->Int}{i p q:Nat} (hp:p<i) (ho:∀r,p<r->r<i->f p<=f r) (h:Z1 f p q):(∀r,q<r->r<i->f q<=f r)/\∀s,q<s->s<p->¬ ∀r,s<r->r<i->f s<=f r:=by
 obtain⟨h1,h2,h3⟩:=h
 refine⟨λr a b=>?_,λs a b z=>?_⟩
 .rcases Nat.lt_trichotomy r p with c|c|c
  .have:=h3 r a c;omega
  .rw[c];exact h2
  .have:=ho r c b;omega
 .have:=z p b hp
  have:=h3 s a b
  omega
theorem Zho {f:Nat->Int}{i:Nat}{A B:List Nat} (hs:Zhn f i (A++B)) (hA:∀q∈A,f q<=f i) (hB:∀q∈B,f i<f q) :
  Zhn f (i+1) (A++[i])/\ZC f (i+1) i (match A.getLast? with|some q=>(q:Int)|none=>-1)/\∀p e,p<i->ZC f i p e->ZC f (i+1) p (if B.head?=some p then (i:Int)else e):=by
 obtain⟨hso,hm⟩:=hs
 have hAB:=List.pairwise_append.mp hso
 have noNx:ZaH f (i+1) i:=λr a b=>⋯
 refine⟨⟨?_,λq=>?_⟩,?_,λp e hp he=>?_⟩
 .refine List.pairwise_append.mpr ⟨hAB.1,List.pairwise_singleton _ _,λa ha b hb=>?_⟩
  have:b=i:=by simpa using hb
  rw[this]
  exact((hm a).mp (YS _ ha)).1
 .rw[Yw,YT]
  constructor
  .rintro(h|h)
   .obtain⟨h1,h2⟩:=(hm q).mp (YS _ h)
    refine⟨⋯,λr a b=>?_⟩
    by_cases e:r=i
    .rw[e];exact hA q h
    .exact h2 r a ⋯
   .subst h;exact⟨⋯,λr a b=>⋯⟩
  .rintro⟨h1,h2⟩
   by_cases e:q=i
   .exact .inr e
   .have hq:q∈A++B:=(hm q).mpr ⟨⋯,λr a b=>h2 r a ⋯⟩
    rcases Yw.mp hq with h|h
    .exact .inl h
    .have:=hB q h
     have:=h2 i ⋯ ⋯
     omega
 .-- the elder of i
  rcases Zjh f i with h|⟨q,h⟩
  .have hA0:A=[]:=by
    cases A with
    |nil=>rfl
    |cons a r =>
     have h1:=((hm a).mp (by simp)).1
     have:=hA a (by simp)
     have:=h a h1
     omega
   rw[hA0]
   exact .inl ⟨h,noNx,rfl⟩
  .have ho:∀r,q<r->r<i->f q<=f r:=λr a b=>by have:=h.2.2 r a b;have:=h.2.1;omega
   have hqA:q∈A:=by
    rcases Yw.mp ((hm q).mpr ⟨h.1,ho⟩)with z|z
    .exact z
    .have:=hB q z;have:=h.2.1;omega
   have hlast:A.getLast?=some q:=by
    have hne:A≠[]:=λz=>by rw[z]at hqA;cases hqA
    rw[List.getLast?_eq_some_getLast hne]
    congr 1
    have hl:A.getLast hne∈A:=List.getLast_mem hne
    -- q<=last,and last is not past q
    by_cases e:A.getLast hne=q
    .exact e
    .exfalso
     have hlt:q<A.getLast hne:=by
      have hd:=List.dropLast_concat_getLast hne
      have hq2:q∈A.dropLast:=by
       rw[<-hd]at hqA
       rcases Yw.mp hqA with z|z
       .exact z
       .exact absurd (by simpa using z) (Ne.symm e)
      have hp2:=hAB.1
      rw[<-hd]at hp2
      exact(List.pairwise_append.mp hp2).2.2 q hq2 _ (by simp)
     have h1:=((hm (A.getLast hne)).mp (YS _ hl)).1
     have:=h.2.2 _ hlt h1
     have:=hA _ hl
     omega
   rw[hlast]
   exact .inr (.inl ⟨q,h,noNx,rfl⟩)
 .-- the elder of an earlier place
  have nxt:∀r,ZZ f i p r->ZZ f (i+1) p r:=λr ⟨a,b,c,d⟩=>⟨a,⋯,c,d⟩
  by_cases hop:ZaH f i p
  .have hmem:p∈A++B:=(hm p).mpr ⟨hp,hop⟩
   by_cases hlt:f i<f p
   .have hnx:ZZ f (i+1) p i:=⟨hp,⋯,hlt,λs a b=>hop s a b⟩
    have hpB:p∈B:=by
     rcases Yw.mp hmem with z|z
     .have:=hA p z;omega
     .exact z
    obtain⟨b0,Br,rfl⟩:∃b0 Br,B=b0::Br:=by
     cases B with
     |nil=>cases hpB
     |cons b0 Br=>exact⟨b0,Br,rfl⟩
    have hhead:(b0::Br).head?=some b0:=rfl
    rw[hhead]
    rcases Zjh f p with hn|⟨q,hq⟩
    .-- nothing ahead: p is the first of all
     have e0:b0=p:=by
      by_cases z:b0=p
      .exact z
      .exfalso
       have hpr:p∈Br:=by
        rcases Yi.mp hpB with y|y
        .exact absurd y.symm z
        .exact y
       have hlt2:b0<p:=(Jh.mp hAB.2.1).1 p hpr
       have:=((hm b0).mp (by simp)).2 p hlt2 hp
       have:=hn b0 hlt2
       omega
     rw[Yd (by rw[e0])]
     exact .inr (.inr (.inl ⟨i,hn,hnx,rfl⟩))
    .obtain⟨hq1,hq2⟩:=ZmL hp hop hq
     have hqm:q∈A++b0::Br:=(hm q).mpr ⟨Nat.lt_trans hq.1 hp,hq1⟩
     by_cases hqi:f q<=f i
     .-- q is kept: p is the first of B
      have e0:b0=p:=by
       by_cases z:b0=p
       .exact z
       .exfalso
        have hpr:p∈Br:=by
         rcases Yi.mp hpB with y|y
         .exact absurd y.symm z
         .exact y
        have hlt2:b0<p:=(Jh.mp hAB.2.1).1 p hpr
        have hb0:=(hm b0).mp (by simp)
        have hqA:q∈A:=by
         rcases Yw.mp hqm with y|y
         .exact y
         .have:=hB q y;omega
        have hqb:q<b0:=hAB.2.2 q hqA b0 (by simp)
        exact hq2 b0 hqb hlt2 hb0.2
      rw[Yd (by rw[e0])]
      refine .inr (.inr (.inr ⟨q,i,hq,hnx,?_⟩))
      rw[Yd hqi]
     .-- q goes,too: the elder stays
      have hqB:q∈b0::Br:=by
       rcases Yw.mp hqm with y|y
       .exact absurd (hA q y) hqi
       .exact y
      have hne:b0≠p:=by
       intro z
       subst z
       rcases Yi.mp hqB with y|y
       .have:=hq.1;omega
       .have:=(Jh.mp hAB.2.1).1 q y
        have:=hq.1;omega
      rw[Yb (by intro z;exact hne (YF z))]
      have ee:e=q:=by
       rcases he with⟨h1,_,_⟩|⟨q',h1,_,h3⟩|⟨r,h1,_,_⟩|⟨q',r,_,h2,_⟩
       .have:=h1 q hq.1;have:=hq.2.1;omega
       .have:q'=q:=by
         rcases Nat.lt_trichotomy q' q with y|y|y
         .have:=h1.2.2 q y hq.1;have:=hq.2.1;omega
         .exact y
         .have:=hq.2.2 q' y h1.1;have:=h1.2.1;omega
        rw[h3,this]
       .have:=h1 q hq.1;have:=hq.2.1;omega
       .have:=hop r h2.1 h2.2.1;have:=h2.2.2.1;omega
      refine .inr (.inr (.inr ⟨q,i,hq,hnx,?_⟩))
      rw[Yb hqi,ee]
   .-- still open: not of B
    have hnn:ZaH f (i+1) p:=λr a b=>by
     by_cases z:r=i
     .rw[z];omega
     .exact hop r a ⋯
    have hne:B.head?≠some p:=λz=>by
     have:p∈B:=List.mem_of_head? z
     have:=hB p this
     omega
    rw[Yb hne]
    rcases he with⟨h1,_,h3⟩|⟨q,h1,_,h3⟩|⟨r,_,h2,_⟩|⟨q,r,_,h2,_⟩
    .exact .inl ⟨h1,hnn,h3⟩
    .exact .inr (.inl ⟨q,h1,hnn,h3⟩)
    .have:=hop r h2.1 h2.2.1;have:=h2.2.2.1;omega
    .have:=hop r h2.1 h2.2.1;have:=h2.2.2.1;omega
  .-- shut already
   have hne:B.head?≠some p:=λz=>hop ((hm p).mp (Ym _ (List.mem_of_head? z))).2
   rw[Yb hne]
   rcases he with⟨_,h2,_⟩|⟨q,_,h2,_⟩|⟨r,h1,h2,h3⟩|⟨q,r,h1,h2,h3⟩
   .exact absurd h2 hop
   .exact absurd h2 hop
   .exact .inr (.inr (.inl ⟨r,h1,nxt r h2,h3⟩))
   .exact .inr (.inr (.inr ⟨q,r,h1,nxt r h2,h3⟩))
end Lake
namespace Lake
open PySem PySem.Spec PyProof.Rows PySem.W
theorem Zhp {α β:Type}{f g:α->Option β}:∀{l:List α},(∀x∈l,f x=g x)->l.filterMap f=l.filterMap g
 |[],_=>rfl
 |x::r,h=>by rw[List.filterMap_cons,List.filterMap_cons,h x (Yy ..),Zhp λy hy=>h y (Yz _ hy)]
theorem ZmM (its:List Value) (k:Nat) (hk:k<=its.length) (start:Nat):(its.zipIdx start).filterMap (λxk=>if (decide (((start+k:Nat):Int)<=(xk.2:Int))&&decide ((xk.2:Int)<((start+its.length:Nat):Int))&&(((xk.2:Int)-((start+k:Nat):Int)) % 1==0))=true then none else some xk.1)=its.take k:=by
 induction its generalizing k start with
 |nil=>simp
 |cons x r ih =>
  rw[List.zipIdx_cons,List.filterMap_cons]
  cases k with
  |zero =>
   have h1:(decide (((start+0:Nat):Int)<=(start:Int))&&decide ((start:Int)<((start+(x::r).length:Nat):Int))&&(((start:Int)-((start+0:Nat):Int)) % 1==0))=true:=by
    simp;omega
   simp only[h1,if_true]
   have:=ih 0 ⋯ (start+1)
   rw[List.take_zero]at this⊢
   rw[<-this]
   refine Zhp λxk hxk=>?_
   have hm:=List.mem_zipIdx hxk
   have e1:(decide (((start+0:Nat):Int)<=(xk.2:Int)))=(decide (((start+1+0:Nat):Int)<=(xk.2:Int))):=by
    rw[decide_eq_decide];omega
   have e2:((start+(x::r).length:Nat):Int)=((start+1+r.length:Nat):Int):=by simp;omega
   have e3:(((xk.2:Int)-((start+0:Nat):Int)) % 1==0)=(((xk.2:Int)-((start+1+0:Nat):Int)) % 1==0):=by simp[Int.emod_one]
   rw[e1,e2,e3]
  |succ k =>
   have h1:(decide (((start+(k+1):Nat):Int)<=(start:Int))&&decide ((start:Int)<((start+(x::r).length:Nat):Int))&&(((start:Int)-((start+(k+1):Nat):Int)) % 1==0))=false:=by
    have:decide (((start+(k+1):Nat):Int)<=(start:Int))=false:=Yt ⋯
    rw[this];rfl
   simp only[h1,Bool.false_eq_true,if_false]
   rw[List.take_succ_cons]
   congr 1
   have:=ih k (by simpa using hk) (start+1)
   rw[<-this]
   refine Zhp λxk hxk=>?_
   have e1:((start+(k+1):Nat):Int)=((start+1+k:Nat):Int):= ⋯
   have e2:((start+(x::r).length:Nat):Int)=((start+1+r.length:Nat):Int):=by simp;omega
   rw[e1,e2]
section
variable {X:Cx}{e st:Expr}{te ts:TE}{pos pos1 p2:Pos}
noncomputable def tDelT (te ts:TE):TS:=λD σ H=>te σ H λx H1=>ts σ H1 λz H2=>∃(l:Addr) (xs:List V) (k:Nat),x=.ref l/\z=.int k/\H2 l=some (.lst xs)/\k<=xs.length/\D.nx σ (upd H2 l (.lst (xs.take k)))
theorem Zk1 (he:PE X e te) (hs:PE X st ts):PS X (.Delete [.Subscript e (.Slice (some st) none none p2) pos1] pos) (tDelT te ts):=by
 intro pins s σ H D I h
 refine wpAny_Delete (wpAny_deleteEach_cons ?_)
 show wpAny _ _ (eval e X.env >>= λov=>holding [ov] (eval (.Slice (some st) none none p2) X.env) >>= λiv=>(do standAt pos1;holding [ov,iv] (delItem ov iv);release [ov,iv] [])) _ _ _
 refine Ya (thn (he pins s σ H _ I h) λv s1 ⟨x,H1,I1,r1,q1⟩=>?_)
 refine Ya (YE ?_)
 refine wpAny_Slice ?_
 rw[evalPart_some]
 refine thn (hs pins s1 σ H1 _ I1 q1) λvs s2 ⟨z,H2,I2,r2,l,xs,k,e1,e2,hx,hk,q⟩=>?_
 subst e1 e2
 obtain⟨tk,rfl⟩:=r2
 cases r1
 rw[evalPart_none]
 refine Yc ?_
 refine Yc ?_
 have I4:Inv X pins σ H2 {s2 with heap:=s2.heap.push {cls:=.type "slice",data:=.fields #[.int k tk,.none,.none]}}:=I2.kept (t':=s2.toks) λb ob q=>Yk _ q
 have hsl:({s2 with heap:=s2.heap.push {cls:=.type "slice",data:=.fields #[.int k tk,.none,.none]}}:Shared).heap.get? s2.heap.objs.size=some {cls:=.type "slice",data:=.fields #[.int k tk,.none,.none]}:=Yv _ rfl
 obtain⟨z,its,n,r,hlen,hob⟩:=I4.Zi9 hx
 generalize ({s2 with heap:=s2.heap.push {cls:=.type "slice",data:=.fields #[.int k tk,.none,.none]}}:Shared)=s4 at I4 hsl hob⊢
 have hT:s4.TypeIs (.ref l) "list":=⟨_,hob,rfl⟩
 have hTs:s4.TypeIs (.ref s2.heap.objs.size) "slice":=⟨_,hsl,rfl⟩
 refine Ya (wpAny_standAt (Ya (YE ?_)))
 refine wpAny_delItem_slot hT nofun F.slot_list_delitem (wpAny_call_entry F.slot_list_delitem hT F.entry_list_delitem ?_ (F.args_list_delitem_2 _ _))
 show wpAny _ _ (Builtin.List.listSubscript? (.ref s2.heap.objs.size) >>= _) _ _ s4
 refine Ya ?_;unfold Builtin.List.listSubscript?;refine Ya (wpAny_specialOf hTs slice_no_index ?_)
 simp only[Option.isNone_none,if_true];refine Yc ?_
 show wpAny _ _ (typeOf (.ref s2.heap.objs.size) >>= _) _ _ s4
 refine Ya (wpAny_typeOf hTs ?_);rw[Yb nofun,listSliceParts_eq]
 refine Ya (Ya (wpAny_field hsl rfl (x:=.none) rfl (Ya (wpAny_listPart (k:=none) .none ?_))));rw[Yb (show ¬ ((rawPart none==rawInt 0)=true)from YL)]
 refine Ya (wpAny_field hsl rfl (x:=.int k tk) rfl (Ya (wpAny_listPart (.int (k:Int) tk) ?_)))
 refine Ya (wpAny_field hsl rfl (x:=.none) rfl (Ya (wpAny_listPart (k:=none) .none (Yc ?_))))
 refine Ya (m:=Builtin.List.listItems (.ref l)) ?_;unfold Builtin.List.listItems
 refine Ya (wpAny_seqItems hob rfl (Yc ?_));refine Ya (wpAny_of_eq (sliceIndices_raw (some (k:Int)) none none its.toArray.size (by simp)) (Ya (wpAny_rule ?_)))
 have hb:sliceBounds (some (k:Int)) none none its.toArray.size=((k:Int),((its.length:Nat):Int),1):=by
  unfold sliceBounds
  simp
  omega
 rw[hb]
 have hf:∀f:Array Value->Array Value,(∀ys:Array Value,f ys=(ys.toList.zipIdx.filterMap λxk=>if (decide ((k:Int)<=(xk.2:Int))&&decide ((xk.2:Int)<((its.length:Nat):Int))&&(((xk.2:Int)-(k:Int)) % 1==0))=true then none else some xk.1).toArray)->f its.toArray=(its.take k).toArray:=λf h=>by
  rw[h]
  congr 1
  have:=ZmM its k ⋯ 0
  simpa using this
 refine Ya (m:=updateSeq l _) ?_
 refine wpAny_updateSeq (n:=n) hob rfl ?_ (by rw[Yp];omega) ?_
 .refine Ya (wpAny_letGo (Yc ⟨_,rfl,?_⟩))
  refine wpAny_release (wpAny_deleteEach_nil ⟨σ,_,I4.lset hx hob (hf _ λys=>rfl) (r.Zoa k) ?_,q⟩)
  rw[Y4];omega
 .rw[Yp]
  refine Yn (List.length_filterMap_le _ _) ?_
  rw[List.length_zipIdx]
  show its.length<=sizeLine+1
  omega
end
theorem Z1.unique {f:Nat->Int}{p q q':Nat} (h:Z1 f p q) (k:Z1 f p q'):q=q':=by
 rcases Nat.lt_trichotomy q q' with z|z|z
 .have:=h.2.2 q' z k.1;have:=k.2.1;omega
 .exact z
 .have:=k.2.2 q z h.1;have:=h.2.1;omega
theorem ZZ.unique {f:Nat->Int}{n p r r':Nat} (h:ZZ f n p r) (k:ZZ f n p r'):r=r':=by
 rcases Nat.lt_trichotomy r r' with z|z|z
 .have:=k.2.2.2 r h.1 z;have:=h.2.2.1;omega
 .exact z
 .have:=h.2.2.2 r' k.1 z;have:=k.2.2.1;omega
theorem Z1.no {f:Nat->Int}{p q:Nat} (h:Z1 f p q) (k:Zbk f p):False:=by have:=k q h.1;have:=h.2.1;omega
theorem ZZ.no {f:Nat->Int}{n p r:Nat} (h:ZZ f n p r) (k:ZaH f n p):False:=by have:=k r h.1 h.2.1;have:=h.2.2.1;omega
theorem ZC.unique {f:Nat->Int}{n p:Nat}{e e':Int} (h:ZC f n p e) (k:ZC f n p e'):e=e':=by
 rcases h with⟨h1,h2,h3⟩|⟨q,h1,h2,h3⟩|⟨r,h1,h2,h3⟩|⟨q,r,h1,h2,h3⟩ <;>
 rcases k with⟨k1,k2,k3⟩|⟨q',k1,k2,k3⟩|⟨r',k1,k2,k3⟩|⟨q',r',k1,k2,k3⟩
 .rw[h3,k3]
 .exact(k1.no h1).elim
 .exact(k2.no h2).elim
 .exact(k1.no h1).elim
 .exact(h1.no k1).elim
 .rw[h3,k3,h1.unique k1]
 .exact(h1.no k1).elim
 .exact(k2.no h2).elim
 .exact(h2.no k2).elim
 .exact(k1.no h1).elim
 .rw[h3,k3,h2.unique k2]
 .exact(k1.no h1).elim
 .exact(h1.no k1).elim
 .exact(h2.no k2).elim
 .exact(h1.no k1).elim
 .rw[h3,k3,h1.unique k1,h2.unique k2]
noncomputable def Zq (ns:List Int) (es:List Int):Prop:=es.length=ns.length/\∀p,p<ns.length->ZC (nth ns) ns.length p (es.getD p 0)
theorem Zq.unique {ns es es':List Int} (h:Zq ns es) (k:Zq ns es'):es=es':=by
 refine List.ext_getElem (by rw[h.1,k.1]) λj h1 h2=>?_
 have hj:j<ns.length:=by rw[<-h.1];exact h1
 have:=(h.2 j hj).unique (k.2 j hj)
 simpa[Yg,h1,h2]using this
theorem ZdX {f:Nat->Int}{n p:Nat} (hp:p<n):ZC f n p
  (match ((List.range p).filter λq=>decide (f q<=f p)).getLast?,((List.range (n-(p+1))).filter λj=>decide (f (p+1+j)<f p)).head? with
   |none,none=>-1
   |none,some j=>((p+1+j:Nat):Int)
   |some q,none=>q
   |some q,some j=>if f q<=f (p+1+j)then ((p+1+j:Nat):Int)else q):=by
 have hA:(((List.range p).filter λq=>decide (f q<=f p)).getLast?=none/\Zbk f p)\/∃q,((List.range p).filter λq=>decide (f q<=f p)).getLast?=some q/\Z1 f p q:=by
  induction p with
  |zero=>exact .inl ⟨rfl,λq hq=>⋯⟩
  |succ p _ =>
   generalize p+1=P
   have key:∀m,m<=P->(((List.range m).filter λq=>decide (f q<=f P)).getLast?=none/\∀q,q<m->f P<f q)\/∃q,((List.range m).filter λq=>decide (f q<=f P)).getLast?=some q/\q<m/\f q<=f P/\∀r,q<r->r<m->f P<f r:=by
    intro m
    induction m with
    |zero=>intro _;exact .inl ⟨rfl,λq hq=>⋯⟩
    |succ m ih =>
     intro hm
     rw[Y7,List.filter_append]
     by_cases hle:f m<=f P
     .refine .inr ⟨m,?_,⋯,hle,λr r1 r2=>⋯⟩
      simp[hle]
     .have e:List.filter (λq=>decide (f q<=f P)) [m]=[]:=by simp[hle]
      rw[e,List.append_nil]
      rcases ih ⋯with⟨i1,i2⟩|⟨q,i1,i2,i3,i4⟩
      .refine .inl ⟨i1,λq hq=>?_⟩
       by_cases z:q=m
       .rw[z];omega
       .exact i2 q ⋯
      .refine .inr ⟨q,i1,⋯,i3,λr r1 r2=>?_⟩
       by_cases z:r=m
       .rw[z];omega
       .exact i4 r r1 ⋯
   rcases key P (Ye _)with⟨i1,i2⟩|⟨q,i1,i2,i3,i4⟩
   .exact .inl ⟨i1,i2⟩
   .exact .inr ⟨q,i1,i2,i3,i4⟩
 have hB:(((List.range (n-(p+1))).filter λj=>decide (f (p+1+j)<f p)).head?=none/\ZaH f n p)\/∃j,((List.range (n-(p+1))).filter λj=>decide (f (p+1+j)<f p)).head?=some j/\ZZ f n p (p+1+j):=by
  have key:∀m,(((List.range m).filter λj=>decide (f (p+1+j)<f p)).head?=none/\∀j,j<m->f p<=f (p+1+j))\/∃j,((List.range m).filter λj=>decide (f (p+1+j)<f p)).head?=some j/\j<m/\f (p+1+j)<f p/\∀i,i<j->f p<=f (p+1+i):=by
   intro m
   induction m with
   |zero=>exact .inl ⟨rfl,λq hq=>⋯⟩
   |succ m ih =>
    rw[Y7,List.filter_append]
    rcases ih with⟨i1,i2⟩|⟨j,i1,i2,i3,i4⟩
    .have e0:List.filter (λj=>decide (f (p+1+j)<f p)) (List.range m)=[]:=List.head?_eq_none_iff.mp i1
     rw[e0,List.nil_append]
     by_cases hlt:f (p+1+m)<f p
     .refine .inr ⟨m,by simp[hlt],⋯,hlt,λi hi=>i2 i hi⟩
     .refine .inl ⟨by simp[hlt],λj hj=>?_⟩
      by_cases z:j=m
      .rw[z];omega
      .exact i2 j ⋯
    .refine .inr ⟨j,?_,⋯,i3,i4⟩
     rw[List.head?_append,i1];rfl
  rcases key (n-(p+1))with⟨i1,i2⟩|⟨j,i1,i2,i3,i4⟩
  .refine .inl ⟨i1,λr r1 r2=>?_⟩
   have:=i2 (r-(p+1)) ⋯
   have e:p+1+(r-(p+1))=r:= ⋯
   rw[e]at this;exact this
  .refine .inr ⟨j,i1,⋯,⋯,i3,λs s1 s2=>?_⟩
   have:=i4 (s-(p+1)) ⋯
   have e:p+1+(s-(p+1))=s:= ⋯
   rw[e]at this;exact this
 rcases hA with⟨a1,a2⟩|⟨q,a1,a2⟩<;>rcases hB with⟨b1,b2⟩|⟨j,b1,b2⟩<;>rw[a1,b1]
 .exact .inl ⟨a2,b2,rfl⟩
 .exact .inr (.inr (.inl ⟨_,a2,b2,rfl⟩))
 .exact .inr (.inl ⟨_,a2,b2,rfl⟩)
 .exact .inr (.inr (.inr ⟨_,_,a2,b2,rfl⟩))
theorem Zrb {c:TT}{tb:TS}{D:Ends}{σ:St}{H:Hp} (Pv:Nat->St->Hp->Prop) (m0:Nat) (h0:Pv m0 σ H)
  (hs:∀m σ H,Pv m σ H->c σ H λb H1=>if b=true then ∃Nx:St->Hp->Prop,(∀σ' H',Nx σ' H'->∃m',m'<m/\Pv m' σ' H')/\tb {D with nx:=Nx,ct:=Nx,bk:=D.nx} σ H1 else D.nx σ H1):ZkY c tb D σ H:=⟨Pv,⟨m0,h0⟩,hs⟩
end Lake
namespace Lake
noncomputable def Over (f:Nat->Int) (o p:Nat):Prop:=(o<p/\∀r,o<r->r<=p->f o<=f r)\/(p<o/\∀r,p<=r->r<o->f o<f r)
theorem Over.irrefl {f:Nat->Int}{p:Nat}:¬ Over f p p:=by rintro(⟨h,_⟩|⟨h,_⟩)<;>omega
theorem Over.trans {f:Nat->Int}{o e p:Nat} (h:Over f o e) (k:Over f e p):Over f o p:=by
 rcases h with⟨h1,h2⟩|⟨h1,h2⟩<;>rcases k with⟨k1,k2⟩|⟨k1,k2⟩
 .refine .inl ⟨⋯,λr r1 r2=>?_⟩
  by_cases z:r<=e
  .exact h2 r r1 z
  .have:=k2 r ⋯ r2;have:=h2 e h1 (Ye _);omega
 .have he:=h2 e h1 (Ye _)
  rcases Nat.lt_trichotomy o p with z|z|z
  .exact .inl ⟨z,λr r1 r2=>h2 r r1 ⋯⟩
  .have:=k2 p (Ye _) k1;subst z;omega
  .exact .inr ⟨z,λr r1 r2=>by have:=k2 r r1 ⋯;omega⟩
 .have he:=h2 e (Ye _) h1
  rcases Nat.lt_trichotomy o p with z|z|z
  .exact .inl ⟨z,λr r1 r2=>by have:=k2 r ⋯ r2;omega⟩
  .have:=k2 p k1 (Ye _);subst z;omega
  .exact .inr ⟨z,λr r1 r2=>h2 r ⋯ r2⟩
 .refine .inr ⟨⋯,λr r1 r2=>?_⟩
  by_cases z:r<e
  .have:=k2 r r1 z;have:=h2 e (Ye _) h1;omega
  .exact h2 r ⋯ r2
theorem ZbM {f:Nat->Int}{n p:Nat}{e:Int} (hp:p<n) (h:ZC f n p e):e=-1\/∃q:Nat,e=q/\q<n/\Over f q p:=by
 have pv:∀q,Z1 f p q->Over f q p:=λq h=>.inl ⟨h.1,λr r1 r2=>by
  by_cases z:r=p
  .rw[z];exact h.2.1
  .have:=h.2.2 r r1 ⋯;have:=h.2.1;omega⟩
 have nx:∀q,ZZ f n p q->Over f q p:=λq h=>.inr ⟨h.1,λr r1 r2=>by
  by_cases z:r=p
  .rw[z];exact h.2.2.1
  .have:=h.2.2.2 r ⋯ r2;have:=h.2.2.1;omega⟩
 rcases h with⟨_,_,h⟩|⟨q,h1,_,h⟩|⟨r,_,h1,h⟩|⟨q,r,h1,h2,h⟩
 .exact .inl h
 .exact .inr ⟨q,h,by have:=h1.1;omega,pv q h1⟩
 .exact .inr ⟨r,h,h1.2.1,nx r h1⟩
 .by_cases z:f q<=f r
  .rw[Yd z]at h;exact .inr ⟨r,h,h2.2.1,nx r h2⟩
  .rw[Yb z]at h;exact .inr ⟨q,h,by have:=h1.1;omega,pv q h1⟩
theorem ZiF {f:Nat->Int}{n p o:Nat}{e:Int} (hp:p<n) (ho:o<n) (h:ZC f n p e) (hO:Over f o p):∃q:Nat,e=q/\q<n/\(o=q\/Over f o q):=by
 rcases hO with⟨o1,o2⟩|⟨o1,o2⟩
 .have op:=o2 p o1 (Ye _)
  have pv:∀q,Z1 f p q->o=q\/(o<q/\Over f o q/\f o<=f q):=λq h=>by
   rcases Nat.lt_trichotomy o q with z|z|z
   .have:=h.1;exact .inr ⟨z,.inl ⟨z,λr r1 r2=>o2 r r1 ⋯⟩,o2 q z ⋯⟩
   .exact .inl z
   .have:=h.2.2 o z o1;omega
  rcases h with⟨h1,_,h⟩|⟨q,h1,_,h⟩|⟨r,h1,_,h⟩|⟨q,r,h1,h2,h⟩
  .have:=h1 o o1;omega
  .refine⟨q,h,by have:=h1.1;omega,?_⟩
   rcases pv q h1 with z|z
   .exact .inl z
   .exact .inr z.2.1
  .have:=h1 o o1;omega
  .by_cases z:f q<=f r
   .rw[Yd z]at h
    refine⟨r,h,h2.2.1,.inr (.inl ⟨by have:=h2.1;omega,λs s1 s2=>?_⟩)⟩
    by_cases sp:s<=p
    .exact o2 s s1 sp
    .by_cases sr:s=r
     .rw[sr]
      rcases pv q h1 with y|y
      .rw[y];exact z
      .have:=y.2.2;omega
     .have:=h2.2.2.2 s ⋯ ⋯;omega
   .rw[Yb z]at h
    refine⟨q,h,by have:=h1.1;omega,?_⟩
    rcases pv q h1 with z|z
    .exact .inl z
    .exact .inr z.2.1
 .have op:=o2 p (Ye _) o1
  have nx:∀r,ZZ f n p r->o=r\/(r<o/\Over f o r/\f o<f r):=λr h=>by
   rcases Nat.lt_trichotomy o r with z|z|z
   .have:=h.2.2.2 o o1 z;omega
   .exact .inl z
   .have:=h.1;exact .inr ⟨z,.inr ⟨z,λs s1 s2=>o2 s ⋯ s2⟩,o2 r ⋯ z⟩
  rcases h with⟨_,h1,h⟩|⟨q,_,h1,h⟩|⟨r,_,h1,h⟩|⟨q,r,h1,h2,h⟩
  .have:=h1 o o1 ho;omega
  .have:=h1 o o1 ho;omega
  .refine⟨r,h,h1.2.1,?_⟩
   rcases nx r h1 with z|z
   .exact .inl z
   .exact .inr z.2.1
  .by_cases z:f q<=f r
   .rw[Yd z]at h
    refine⟨r,h,h2.2.1,?_⟩
    rcases nx r h2 with z|z
    .exact .inl z
    .exact .inr z.2.1
   .rw[Yb z]at h
    refine⟨q,h,by have:=h1.1;omega,.inr (.inr ⟨by have:=h1.1;omega,λs s1 s2=>?_⟩)⟩
    by_cases sp:p<=s
    .exact o2 s sp s2
    .by_cases sq:s=q
     .rw[sq]
      rcases nx r h2 with y|y
      .rw[y];omega
      .have:=y.2.2;omega
     .have:=h1.2.2 s ⋯ ⋯;omega
theorem Zbg {f:Nat->Int}{n p o q:Nat} (hp:p<n) (ho:o<n) (h:ZC f n p (q:Int)):Over f o p↔o=q\/Over f o q:=by
 refine⟨λk=>?_,λk=>?_⟩
 .obtain⟨q',e,_,z⟩:=ZiF hp ho h k
  have:q'=q:= ⋯
  rw[this]at z;exact z
 .rcases ZbM hp h with z|⟨q',e,_,z⟩
  .omega
  .have:q'=q:= ⋯
   rw[this]at z
   rcases k with k|k
   .rw[k];exact z
   .exact k.trans z
theorem ZiG {f:Nat->Int}{n p o:Nat} (hp:p<n) (ho:o<n) (h:ZC f n p (-1)):¬ Over f o p:=λk=>by
 obtain⟨q',e,_,z⟩:=ZiF hp ho h k
 omega
theorem Zhq {P Q:Nat->Bool}:∀n,(∀o,o<n->P o=Q o)->(List.range n).countP P=(List.range n).countP Q
 |0,_=>rfl
 |n+1,h=>by
  rw[Y7,List.countP_append,List.countP_append,Zhq n (λo ho=>h o ⋯)]
  simp[List.countP_cons,h n ⋯]
theorem Ze0 {P Q:Nat->Bool}{e:Nat}:∀n,e<n->(∀o,o<n->(P o=true↔o=e\/Q o=true))->Q e=false->(List.range n).countP P=(List.range n).countP Q+1
 |0,h,_,_=>⋯
 |n+1,h,hi,hq=>by
  rw[Y7,List.countP_append,List.countP_append]
  by_cases z:e=n
  .have e1:(List.range n).countP P=(List.range n).countP Q:=Zhq n λo ho=>by
    have:=hi o ⋯
    cases hP:P o<;>cases hQ:Q o<;>simp[hP,hQ]at this<;>first|rfl|omega
   have hPn:P n=true:=(hi n ⋯).mpr (.inl z.symm)
   rw[z]at hq
   rw[e1];simp[List.countP_cons,hPn,hq]
  .rw[Ze0 n ⋯ (λo ho=>hi o ⋯) hq]
   have:=hi n ⋯
   have hn:P n=Q n:=by
    cases hP:P n<;>cases hQ:Q n<;>simp[hP,hQ]at this<;>first|rfl|omega
   simp[List.countP_cons,hn];omega
theorem Zoc {P:Nat->Bool}{e n:Nat} (he:e<n) (h:P e=false):(List.range n).countP P<n:=by
 have h1:=Ze0 (P:=λo=>decide (o=e)||P o) (Q:=P) n he (λo _=>by simp) h
 have h2:=List.countP_le_length (p:=λo=>decide (o=e)||P o) (l:=List.range n)
 rw[h1,YX]at h2
 omega
noncomputable def Z0 (T:List Int):Nat->Int->List Nat
 |0,_=>[]
 |k+1,at_=>if 0<=at_/\at_<T.length then at_.toNat::Z0 T k (nth T at_.toNat)else []
open Classical in
noncomputable def dep (f:Nat->Int) (n p:Nat):Nat:=(List.range n).countP λo=>decide (Over f o p)
theorem Zk2 {f:Nat->Int}{n p:Nat} (hp:p<n):dep f n p<n:=by
 classical
 exact Zoc hp (by simpa using Over.irrefl)
theorem Zf6 {f:Nat->Int}{n p q:Nat} (hp:p<n) (h:ZC f n p (q:Int)):dep f n p=dep f n q+1:=by
 classical
 have hq:q<n:=by
  rcases ZbM hp h with z|⟨q',e,z,_⟩<;>omega
 exact Ze0 n hq (λo ho=>by simpa using Zbg hp ho h) (by simpa using Over.irrefl)
theorem Zrc {f:Nat->Int}{n p:Nat} (hp:p<n) (h:ZC f n p (-1)):dep f n p=0:=by
 classical
 unfold dep
 rw[List.countP_eq_zero]
 intro o ho
 simpa using ZiG hp (by simpa using ho) h
theorem Zhr {ns T:List Int} (hT:Zq ns T):∀k p,p<ns.length->dep (nth ns) ns.length p<=k->(∀o,o∈Z0 T k (nth T p)↔o<ns.length/\Over (nth ns) o p)/\(Z0 T k (nth T p)).length=dep (nth ns) ns.length p
 |k,p,hp,hk=>by
  have hE:ZC (nth ns) ns.length p (nth T p):=hT.2 p hp
  rcases ZbM hp hE with z|⟨q,e,hq,hO⟩
  .have e0:Z0 T k (nth T p)=[]:=by
    cases k with
    |zero=>rfl
    |succ k=>rw[Z0,Yb ⋯]
   rw[e0]
   rw[z]at hE
   exact⟨λo=>⟨λh=>by simp at h,λh=>absurd h.2 (ZiG hp h.1 hE)⟩,by rw[Zrc hp hE];rfl⟩
  .rw[e]at hE
   have hd:=Zf6 hp hE
   obtain⟨k',rfl⟩:∃k',k=k'+1:=⟨k-1,⋯⟩
   have ih:=Zhr hT k' q hq ⋯
   have eT:((q:Nat):Int).toNat=q:= ⋯
   rw[Z0,e,Yd ⟨⋯,by rw[hT.1];omega⟩,eT]
   refine⟨λo=>?_,by simp[ih.2,hd]⟩
   rw[Yi,ih.1 o]
   refine⟨λh=>?_,λh=>?_⟩
   .rcases h with h|h
    .rw[h];exact⟨hq,hO⟩
    .exact⟨h.1,h.2.trans hO⟩
   .rcases(Zbg hp h.1 hE).mp h.2 with z|z
    .exact .inl z
    .exact .inr ⟨h.1,z⟩
end Lake
namespace Lake
open PySem PySem.Spec PyProof.Rows PySem.W
noncomputable def ZeL (es:List Int) (A B:List Nat) (i:Nat):List Int:=match A.getLast? with
 |some q=>(match B.head? with|some b=>es.set b i|none=>es).set i (q:Int)
 |none=>match B.head? with|some b=>es.set b i|none=>es
noncomputable def ZD (l:List Nat):List V:=l.map λq=>V.int (q:Nat)
theorem getD_set (l:List Int) (a p:Nat) (v:Int) (h:p<l.length):(l.set a v).getD p 0=if a=p then v else l.getD p 0:=by
 rw[Yg,Yg]
 by_cases e:a=p
 .subst e;rw[Yd rfl,List.getElem?_set_self h];rfl
 .rw[Yb e,List.getElem?_set_ne e]
theorem Zj6 (es:List Int) (A B:List Nat) (i:Nat):(ZeL es A B i).length=es.length:=by
 unfold ZeL
 cases A.getLast?<;>cases B.head?<;>simp
theorem Zg8 (es:List Int) (A B:List Nat) (i p:Nat) (hp:p<es.length) (hb:∀b,B.head?=some b->b≠i):(ZeL es A B i).getD p 0=if p=i then (match A.getLast? with|some q=>(q:Int)|none=>es.getD i 0)else if B.head?=some p then (i:Int)else es.getD p 0:=by
 unfold ZeL
 cases hA:A.getLast? with
 |none =>
  cases hB:B.head? with
  |none =>
   by_cases e:p=i
   .rw[Yd e,e]
   .rw[Yb e,Yb (by simp)]
  |some b =>
   show(es.set b i).getD p 0=_
   rw[getD_set _ _ _ _ hp]
   by_cases e:p=i
   .rw[Yd e,Yb (by rw[e];exact hb b hB),e]
   .rw[Yb e]
    by_cases e2:b=p
    .rw[Yd e2,Yd (by rw[e2])]
    .rw[Yb e2,Yb (by intro z;exact e2 (YF z))]
 |some q =>
  cases hB:B.head? with
  |none =>
   show(es.set i q).getD p 0=_
   rw[getD_set _ _ _ _ hp]
   by_cases e:p=i
   .rw[Yd e,Yd e.symm]
   .rw[Yb e,Yb (λz=>e z.symm),Yb (by simp)]
  |some b =>
   show((es.set b i).set i q).getD p 0=_
   rw[getD_set _ _ _ _ (by simpa using hp),getD_set _ _ _ _ hp]
   by_cases e:p=i
   .rw[Yd e,Yd e.symm]
   .rw[Yb e,Yb (λz=>e z.symm)]
    by_cases e2:b=p
    .rw[Yd e2,Yd (by rw[e2])]
    .rw[Yb e2,Yb (by intro z;exact e2 (YF z))]
theorem Zod:∀(l:List Nat) (i lo:Nat),l.Pairwise (· < ·)->(∀q∈l,lo<=q/\q<i)->l.length+lo<=i\/l=[]
 |[],_,_,_,_=>.inr rfl
 |q::r,i,lo,h,hq=>by
  have h1:=hq q (by simp)
  have hr:=Jh.mp h
  rcases Zod r i (q+1) hr.2 (λx hx=>⟨hr.1 x hx,(hq x (by simp[hx])).2⟩)with z|z
  .left;simp;omega
  .left;rw[z];simp;omega
theorem ZS (l:List Nat):(ZD l).length=l.length:=by simp[ZD]
theorem ZcF (a b:List Nat):ZD (a++b)=ZD a++ZD b:=by simp[ZD]
theorem Zfm {l:List Nat}{j q:Nat} (h:l[j]?=some q):atI (ZD l) (j:Int)=some (V.int (q:Nat)):=by
 have hj:=(Yr.mp h).1
 have e:=(Yr.mp h).2
 rw[ZeY rfl (by rw[ZS];exact hj)]
 simp[ZD,e]
theorem Zfn {n j:Nat} (h:j<n):ixN n (j:Int)=some j:=by
 unfold ixN
 rw[Yd ⋯,Yd ⋯];simp
noncomputable def ZmN (T:List Int) (p:Nat):List Int:=(Z0 T T.length (nth T p)).map λq=>((q:Nat):Int)
noncomputable def Zbh (T:List Int):Prop:=T.length<=40/\∃ns,Zq ns T
theorem Zj7 (T:List Int):∀k a,(Z0 T k a).length<=k
 |0,_=>by simp[Z0]
 |k+1,a=>by
  rw[Z0]
  split
  .have:=Zj7 T k (nth T a.toNat);simp;omega
  .simp
noncomputable def Zau (T:List Int):Nat->Int->Int
 |0,a=>a
 |j+1,a=>if 0<=a/\a<T.length then Zau T j (nth T a.toNat)else a
theorem ZiH (T:List Int):∀j a,0<=Zau T j a->Zau T j a<T.length->(Z0 T j a).length=j->Z0 T (j+1) a=Z0 T j a++[(Zau T j a).toNat]/\Zau T (j+1) a=nth T (Zau T j a).toNat
 |0,a,h0,h1,_=>by
  have h0':0<=a:=h0
  have h1':a<T.length:=h1
  constructor
  .simp[Z0,Zau,h0',h1']
  .simp[Zau,h0',h1']
 |j+1,a,h0,h1,hl=>by
  rw[Z0]at hl
  by_cases z:0<=a/\a<T.length
  .rw[Yd z]at hl
   have e1:Zau T (j+1) a=Zau T j (nth T a.toNat):=by rw[Zau,Yd z]
   rw[e1]at h0 h1
   have ih:=ZiH T j (nth T a.toNat) h0 h1 (by simpa using hl)
   constructor
   .rw[Z0,Yd z,ih.1,Z0.eq_def T (j+1) a]
    simp only[Yd z,e1];simp
   .rw[Zau,Yd z,ih.2,e1]
  .rw[Yb z]at hl;simp at hl
theorem ZiI (T:List Int):∀j k a,j<=k->(Z0 T j a).length=j->¬ (0<=Zau T j a/\Zau T j a<T.length)->Z0 T k a=Z0 T j a
 |0,k,a,_,_,h=>by
  have h':¬ (0<=a/\a<T.length):=h
  cases k with
  |zero=>rfl
  |succ k=>rw[show Z0 T 0 a=[]from rfl,Z0,Yb h']
 |j+1,k,a,hk,hl,h=>by
  rw[Z0]at hl
  by_cases z:0<=a/\a<T.length
  .rw[Yd z]at hl
   rw[Zau,Yd z]at h
   obtain⟨k',rfl⟩:∃k',k=k'+1:=⟨k-1,⋯⟩
   rw[Z0,Yd z,ZiI T j k' _ ⋯ (by simpa using hl) h,Z0,Yd z]
  .rw[Yb z]at hl;simp at hl
section
variable {X:Cx}
theorem op_inK {K:Frag} (hK:X.K=K):OpR X (compareOp .In) (rIn K false):=hK▸Zmx
end
theorem ZmO (xs:List Int):(xs.map V.int).all flatV=true:=by
 induction xs with
 |nil=>rfl
 |cons x r ih=>rw[YJ,List.all_cons,ih];rfl
theorem Zrd (x:Int) (xs:List Int):inV (.int x) (xs.map V.int)=decide (x∈xs):=by
 induction xs with
 |nil=>rfl
 |cons y r ih =>
  have:inV (.int x) ((y::r).map V.int)=(decide (y=x)||inV (.int x) (r.map V.int)):=rfl
  rw[this,ih]
  by_cases z:y=x
  .simp[z]
  .have:¬ x=y:=λh=>z h.symm
   simp[z,this]
theorem Zaj {a b:TS}{D:Ends}{σ:St}{H:Hp} (Mid:St->Hp->Prop) (h1:∀R:St->Hp->Prop,(∀σ' H',Mid σ' H'->R σ' H')->a {D with nx:=R} σ H) (h2:∀σ' H',Mid σ' H'->b D σ' H'):tSeq a b D σ H:=h1 _ h2
theorem cut_to (xs:List V) (j:Nat):ZbL xs none (some (j:Int))=xs.take j:=by
 have h:¬ ((j:Int)<0):= ⋯
 unfold ZbL HT.sIx
 simp only[Yb h,List.drop_zero,Nat.sub_zero]
 rw[List.take_eq_take_iff]
 omega
end Lake
namespace Lake
open PySem PySem.Spec PyProof.Rows
structure CellsOf (cl:List (Str×Addr)) (n0:Nat) (cs:List (Str×Addr)) (h0 h:Heap) (done:List (Str×NameKind)):Prop where
 old:∀b o,h0.get? b=some o->h.get? b=some o
 sz:n0<=h.objs.size
 mem:∀p∈cs,p∈cl\/(n0<=p.2/\p.2<h.objs.size/\h.IsCell p.2 none)
 inj:∀p∈cs,∀q∈cs,n0<=p.2->p.2=q.2->p.1=q.1
 own:∀y∈done,y.2=.cell->∃c,cs.lookup y.1=some c/\n0<=c
 oth:∀x,(∀y∈done,y.2=.cell->y.1≠x)->cs.lookup x=cl.lookup x
theorem Zf7 {M:Model}{A:Around}{E:Value->Shared->Prop}{cl:List (Str×Addr)}{n0:Nat}{h0:Heap} (hcl:∀p∈cl,p.2<n0):∀(names:List (Str×NameKind)) (cs:List (Str×Addr)) (done:List (Str×NameKind)) (s:Shared),CellsOf cl n0 cs h0 s.heap done ->
  wpAny M A (forIn names cs λ(x:Str×NameKind) (r:List (Str×Addr))=>(match x with
   |(name,kind)=>if (kind==NameKind.cell)=true then do
     let a <-alloc {cls:=.type "cell",data:=.cell none}
     pure (ForInStep.yield ((name,a)::r))
    else pure (ForInStep.yield r):Sem (ForInStep (List (Str×Addr))))) (λcs' s'=>∃h',s'={s with heap:=h'}/\CellsOf cl n0 cs' h0 h' (done++names)) E s
 |[],cs,done,s,I=>by
  rw[List.forIn_nil,List.append_nil]
  exact Yc ⟨s.heap,rfl,I⟩
 |(n,k)::r,cs,done,s,I=>by
  rw[List.forIn_cons]
  by_cases hk:k=.cell
  .subst hk
   simp only[beq_self_eq_true,if_true]
   refine Ya (Ya (wpAny_alloc (Yc ?_)))
   have hget:(s.heap.push {cls:=.type "cell",data:=.cell none}).get? s.heap.objs.size=some {cls:=.type "cell",data:=.cell none}:=Yv _ rfl
   have I':CellsOf cl n0 ((n,s.heap.objs.size)::cs) h0 (s.heap.push {cls:=.type "cell",data:=.cell none}) (done++[(n,.cell)]):=by
    refine⟨λb o e=>Yk _ (I.old b o e),by rw[Heap.size_push];exact Nat.le_succ_of_le I.sz,λp hp=>?_,λp hp q hq hn e=>?_,λy hy hc=>?_,λx hx=>?_⟩
    .rcases Yi.mp hp with z|z
     .subst z
      exact .inr ⟨I.sz,by rw[Heap.size_push];exact Nat.lt_succ_self _,_,hget,rfl⟩
     .rcases I.mem p z with w|⟨w1,w2,o,w3,w4⟩
      .exact .inl w
      .exact .inr ⟨w1,by rw[Heap.size_push];exact YR w2,o,Yk _ w3,w4⟩
    .have lt:∀p∈cs,p.2<s.heap.objs.size:=λp hp=>by
      rcases I.mem p hp with w|w
      .exact YD (hcl p w) I.sz
      .exact w.2.1
     rcases Yi.mp hp with z|z<;>rcases Yi.mp hq with z'|z'
     .rw[z,z']
     .subst z;exact absurd (show s.heap.objs.size<s.heap.objs.size from(show s.heap.objs.size=q.2 from e)▸lt q z') (YB _)
     .subst z';exact absurd (show s.heap.objs.size<s.heap.objs.size from(show p.2=s.heap.objs.size from e)▸lt p z) (YB _)
     .exact I.inj p z q z' hn e
    .rcases Yw.mp hy with z|z
     .obtain⟨c,e1,e2⟩:=I.own y z hc
      by_cases hx:y.1=n
      .exact⟨s.heap.objs.size,by rw[hx];simp,I.sz⟩
      .have hb:(y.1==n)=false:=by simpa using hx
       exact⟨c,by simp only[List.lookup_cons,hb];exact e1,e2⟩
     .have:y=(n,.cell):=by simpa using z
      subst this
      exact⟨s.heap.objs.size,by simp,I.sz⟩
    .have hxn:n≠x:=hx (n,.cell) (by simp) rfl
     have hb:(x==n)=false:=by simpa using hxn.symm
     simp only[List.lookup_cons,hb]
     exact I.oth x λy hy=>hx y (YS _ hy)
   refine thn (Zf7 hcl r _ _ {s with heap:=s.heap.push {cls:=.type "cell",data:=.cell none}} I') λcs' s' ⟨h',e1,e2⟩=>⟨h',e1,?_⟩
   rw[Ja]at e2
   exact e2
  .have e1:(k==NameKind.cell)=false:=by cases k<;>first|rfl|exact absurd rfl hk
   simp only[e1,Bool.false_eq_true,if_false]
   refine Ya (Yc ?_)
   have I':CellsOf cl n0 cs h0 s.heap (done++[(n,k)]):=by
    refine⟨I.old,I.sz,I.mem,I.inj,λy hy hc=>?_,λx hx=>I.oth x λy hy=>hx y (YS _ hy)⟩
    rcases Yw.mp hy with z|z
    .exact I.own y z hc
    .have:y=(n,k):=by simpa using z
     subst this
     exact absurd hc hk
   refine thn (Zf7 hcl r _ _ s I') λcs' s' ⟨h',e1,e2⟩=>⟨h',e1,?_⟩
   rw[Ja]at e2
   exact e2
theorem Zk3 {M:Model}{A:Around}{E:Value->Shared->Prop}{s:Shared}{scope:Scope}{globals:Addr}{cl:List (Str×Addr)}{qual:Str}{around:Env}{Q:Env->Shared->Prop} (hcl:∀p∈cl,p.2<s.heap.objs.size)
  (h:∀cs h',CellsOf cl (s.heap.objs.size+1) cs (s.heap.push {cls:=.type "dict",data:=.dict #[]}) h' scope.names->Q {scope:=scope,locals:=s.heap.objs.size,globals:=globals,cells:=cs,qual:=qual,func:=none,code:=around.code,frame:=around.frame,builtins:=around.builtins} {s with heap:=h'}) :
  wpAny M A (newFunctionEnv scope globals cl [] qual none .none (some around)) Q E s:=by
 unfold newFunctionEnv
 refine Ya (wpAny_alloc ?_)
 refine Ya (thn (Zf7 (cl:=cl) (n0:=s.heap.objs.size+1) (h0:=s.heap.push {cls:=.type "dict",data:=.dict #[]}) (λp hp=>YR (hcl p hp)) scope.names cl [] {s with heap:=s.heap.push {cls:=.type "dict",data:=.dict #[]}} ⟨λb o e=>e,by rw[Heap.size_push];exact Ye _,λp hp=>.inl hp,λp hp q hq hn e=>absurd (hcl p hp) (Nat.not_lt_of_le (Nat.le_of_succ_le hn)),λy hy=>(nomatch hy),λx hx=>rfl⟩) λcs s' ⟨h',e1,e2⟩=>?_)
 subst e1
 rw[List.nil_append]at e2
 exact Ya (Yc (Yc (h cs h' e2)))
noncomputable def ZaI (around scope:Scope):Bool :=
 scope.kind==.function&&around.kind==.function&&scope.names.all λy=>match y.2 with
  |.local=>scope.names.lookup y.1==some .local
  |.cell=>scope.names.lookup y.1==some .cell
  |.free=>(scope.names.lookup y.1==some .free)&&(around.names.lookup y.1==some .cell||around.names.lookup y.1==some .free)
  |_=>true
theorem Zfo {a s:Scope} (h:ZaI a s=true):s.kind=.function:=by
 simp only[ZaI,Bool.and_eq_true,beq_iff_eq]at h;exact h.1.1
theorem Ze1 {a s:Scope} (h:ZaI a s=true) {y:Str×NameKind} (hy:y∈s.names):(match y.2 with
  |.local=>s.names.lookup y.1==some .local
  |.cell=>s.names.lookup y.1==some .cell
  |.free=>(s.names.lookup y.1==some .free)&&(a.names.lookup y.1==some .cell||a.names.lookup y.1==some .free)
  |_=>true)=true:=by
 simp only[ZaI,Bool.and_eq_true]at h
 exact List.all_eq_true.mp h.2 y hy
theorem Zib {a s:Scope} (h:ZaI a s=true):∀y∈s.names,y.2=.local->s.names.lookup y.1=some .local:=λy hy e=>by
 have q:=Ze1 h hy
 rw[e]at q
 exact beq_iff_eq.mp q
theorem Zji {a s:Scope} (h:ZaI a s=true):∀y∈s.names,y.2=.cell->s.names.lookup y.1=some .cell:=λy hy e=>by
 have q:=Ze1 h hy
 rw[e]at q
 exact beq_iff_eq.mp q
theorem ZcT {a s:Scope} (h:ZaI a s=true):∀y∈s.names,y.2=.free->s.names.lookup y.1=some .free/\(a.names.lookup y.1=some .cell\/a.names.lookup y.1=some .free):=λy hy e=>by
 have q:=Ze1 h hy
 rw[e]at q
 simp only[Bool.and_eq_true,Bool.or_eq_true,beq_iff_eq]at q
 exact q
noncomputable def Zaq (X:Cx) (Nc:List Str) (scope:Scope) (cs:List (Str×Addr)) (C:Addr) (s2:Shared) (H2:Hp) (fp:List Addr):Cx :=
 {ZnV X Nc scope cs C s2 H2 fp with fn:=λx=>scope.names.lookup x==some .cell}
theorem Zj8 {env:Env}{scope:Scope} (h:∀y∈scope.names,y.2=.free->∃c,env.cells.lookup y.1=some c) :
  ∃cl,closureFor scope env=pure cl/\(∀p∈cl,env.cells.lookup p.1=some p.2)/\(∀y∈scope.names,y.2=.free->∃c,cl.lookup y.1=some c/\env.cells.lookup y.1=some c):=by
 obtain⟨cl,e,h1,h2,h3⟩:=ZcQ (env:=env) scope.names [] h
 have up:∀p∈cl,env.cells.lookup p.1=some p.2:=λp q=>by
  rcases h1 _ q with z|z
  .cases z
  .exact z
 refine⟨cl,?_,up,λy hy hf=>?_⟩
 .unfold closureFor
  simp only[bind_pure_comp]at e⊢
  rw[e]
  exact pure_bind _ _
 .obtain⟨c,hc⟩:=h3 y hy hf
  cases q:cl.lookup y.1 with
  |none=>exact absurd (List.lookup_eq_none_iff.mp q _ hc) (by simp)
  |some c'=>exact⟨c',rfl,up _ (PySem.mem_of_lookup q)⟩
section
variable {X:Cx}
theorem Zj9 {pins:List (Addr×Obj)}{σ:St}{H2:Hp}{s2:Shared}{Nc:List Str}{js:List (Option Nat)}{scope:Scope}{cs:List (Str×Addr)}{fp:List Addr}{h1:Heap}{tk:Nat}{D C:Addr}{oD:Obj}{m:Str->Option Value}
  (I:Inv X pins σ H2 s2) (hok:ZaI X.env.scope scope=true) (htk:takesC X.N Nc scope js 0=true) (up:∀x c,cs.lookup x=some c->X.env.cells.lookup x=some c\/(C<c/\h1.IsCell c none)) (hinj:∀x y c,cs.lookup x=some c->cs.lookup y=some c->x=y) (hown:∀y∈scope.names,y.2=.cell->∃c,cs.lookup y.1=some c/\C<c) (hfr:∀y∈scope.names,y.2=.free->∃c,cs.lookup y.1=some c/\X.env.cells.lookup y.1=some c)
  (hfp:∀b∈fp,FpOk X pins H2 b) (hfl:∀b∈fp,b<s2.heap.objs.size) (hD:D=s2.heap.objs.size) (hC:C=s2.heap.objs.size+1) (old:∀b o,s2.heap.get? b=some o->h1.get? b=some o) (hns:h1.Ns C m) (hoD:h1.get? D=some oD) (hdD:∀v,oD.data≠.cell v) :
  Inv (Zaq X Nc scope cs C s2 H2 fp) [(D,oD)] (iniC js σ) H2 {s2 with heap:=h1,toks:=tk}:=by
 have leC:s2.heap.objs.size<=C:=by rw[hC];exact YY _
 have leD:s2.heap.objs.size<=D:=Ji hD.symm
 have kf:∀x,((compEnvC scope cs C X.env).kindOf x=some .cell\/(compEnvC scope cs C X.env).kindOf x=some .free)->∃c,cs.lookup x=some c:=λx hx=>by
  have:∃k,(compEnvC scope cs C X.env).kindOf x=some k/\(k=.cell\/k=.free):=hx.elim (λq=>⟨_,q,.inl rfl⟩) λq=>⟨_,q,.inr rfl⟩
  obtain⟨k,e,hk⟩:=this
  obtain⟨k',h1,h2⟩:=ZaB (show(scope.names.map _).lookup x=some k from e)
  have hm:=lookup_mem h1
  have:k'=.free\/k'=.cell:=by
   rcases h2 with q|q
   .subst q
    exact hk.symm
   .exact .inl q.1
  rcases this with z|z
  .subst z
   obtain⟨c,q,_⟩:=hfr _ hm rfl
   exact⟨c,q⟩
  .subst z
   obtain⟨c,q,_⟩:=hown _ hm rfl
   exact⟨c,q⟩
 have nC:∀c x,X.env.cells.lookup x=some c->c<s2.heap.objs.size:=λc x e=>by
  obtain⟨v,q⟩:=I.cell x c e
  exact q.lt
 have noB:∀b,b∈fp->b∉frs X.stack:=λb hb q=>by
  rcases Yi.mp (I.ZfX b q)with z|z
  .exact(hfp b hb).2.1 z
  .exact(hfp b hb).2.2.1 z
 have okX:(Zaq X Nc scope cs C s2 H2 fp).Ok:=by
  refine⟨I.ok.mod,(show scope.kind=.function from Zfo hok),I.ok.glob,I.ok.blt,?_,λx y c e1 e2=>hinj x y c e1 e2,λx hx=>?_,(λx c e1 e2=>?_),I.ok.hd,I.ok.frames,.inl rfl,λb hb=>⟨?_,λx c e=>(up _ _ e).elim (λz=>(hfp b hb).2.2.2.2.1 x c z) λz=>Nat.ne_of_gt (Nat.lt_trans (YD (hfl b hb) leC) z.1)⟩,I.bs,Yn I.ok.bsz I.sz,λb o e hb=>?_,λb hb=>noB b hb,I.stack,I.Zg2⟩
  .show s2.heap.objs.size<=C;exact leC
  .exact kf x hx
  .have hm:=lookup_mem (beq_iff_eq.mp (show(scope.names.lookup x==some NameKind.cell)=true from e1))
   obtain⟨c',q1,q2⟩:=hown _ hm rfl
   have:c=c':=YF ((show cs.lookup x=some c from e2).symm.trans q1)
   rw[this]
   exact Yn leC (Y3 q2)
  .exact Yl (YD (hfl b hb) leC)
  .rcases(hfp b hb).2.2.2.1 with q|q
   .exact I.ok.noex b o e q
   .exact absurd (YD (Yj e) (Yn I.ok.bsz q)) (YB _)
 refine⟨okX,rfl,I.bare,Un.kept old,⟨m,hns,λi x v e1 e2 e3=>?_⟩,λx c e=>?_,I.hok.fresh leC,λx c e=>(up _ _ e).elim (λz=>I.freeC x c z) λz=>I.hok.fresh (Yn leC (Y3 z.1)),λp hp=>?_,I.hok.kept old,?_⟩
 .have e2':(iniC js σ)[i]?=some (some v):=e2
  unfold iniC at e2'
  rw[YG]at e2'
  cases q:js[i]? with
  |none=>rw[q]at e2';cases e2'
  |some j0 =>
   cases j0 with
   |none=>rw[q]at e2';cases e2'
   |some j =>
    rw[q]at e2'
    simp only[Option.map_some,Option.some.injEq]at e2'
    have e4:σ[j]?=some (some v):=by
     cases z:σ[j]? with
     |none=>rw[z]at e2';cases e2'
     |some o=>rw[z]at e2';simp only[Option.join_some]at e2';rw[e2']
    obtain⟨y,y1,y2,y3⟩:=ZeD htk q
    rw[Nat.zero_add]at y1
    have:x=y:=YF ((show Nc[i]?=some x from e1).symm.trans y1)
    subst this
    have hm:=lookup_mem y3
    obtain⟨c,c1,c2⟩:=hfr _ hm rfl
    have hk:=(ZcT hok _ hm rfl).2
    obtain⟨m0,hn0,hl0⟩:=I.loc
    obtain⟨u,r,l⟩:=hl0 j x v y2 e4 (hk.elim (λz=>.inr (.inl z)) λz=>.inr (.inr z))
    refine⟨u,r,.inr ⟨?_,c,c1,?_⟩⟩
    .rcases e3 with z|z|z
     .obtain⟨k',w1,w2⟩:=ZaB (show(scope.names.map _).lookup x=some NameKind.local from z)
      rw[y3]at w1;cases w1
      rcases w2 with w|w
      .cases w
      .cases w.2
     .exact .inl z
     .exact .inr z
    .rcases l with⟨lk,_⟩|⟨_,c',c3,c4⟩
     .rcases hk with z|z
      .rw[show X.env.kindOf x=some .cell from z]at lk;cases lk
      .rw[show X.env.kindOf x=some .free from z]at lk;cases lk
     .rw[c2]at c3;cases c3
      obtain⟨oc,w1,w2⟩:=c4
      exact⟨oc,old _ _ w1,w2⟩
 .rcases up _ _ e with z|z
  .obtain⟨v,oc,w1,w2⟩:=I.cell x c z
   exact⟨v,oc,old _ _ w1,w2⟩
  .exact⟨_,z.2⟩
 .have:p=(D,oD):=by
   have hp':p∈([]++[(D,oD)]:List (Addr×Obj)):=hp
   simpa using hp'
  subst this
  refine⟨hoD,I.hok.fresh leD,(by show D≠C;rw[hD,hC];exact Yl (Nat.lt_succ_self _)),λhb=>?_,hdD⟩
  have hb':D∈frs X.stack:=hb
  obtain⟨_,o,ho,_⟩:=I.stack.mem hb'
  exact absurd (YD (Yj ho) leD) (YB _)
 .have:=ZcR htk
  show(iniC js σ).length=Nc.length
  unfold iniC;rw[Yh];omega
theorem ZiJ {pins:List (Addr×Obj)}{σ:St}{H:Hp}{s:Shared}{tg elt iter:Expr}{ifs:List Expr}{scope:Scope}{pos:Pos}{wi:TI}{g:TG}{tt:TT}{te:TE}{Nc:List Str}{js:List (Option Nat)}{use:Option (Value->Sem Unit)}{Q:VK}{QQ:Value->Shared->Prop}
  (hc:X.calm=true) (hok:ZaI X.env.scope scope=true) (htk:takesC X.N Nc scope js 0=true) (hi:PI X tg iter wi)
  (hg:∀cl C s2 H2 fp,PG (Zaq X Nc scope cl C s2 H2 fp) tg g) (ht:∀cl C s2 H2 fp,ZmB (Zaq X Nc scope cl C s2 H2 fp) ifs tt) (he:∀cl C s2 H2 fp,PE (Zaq X Nc scope cl C s2 H2 fp) elt te)
  (hs:∀x,foldedSetIterable iter X.env x=pure x) {L:List Nat} (ho:ZlM g L) (hL:(L.all λk=>js[k]?==some none)=true) (I:Inv X pins σ H s) (h:ZlN wi g tt te js σ H Q)
  (fin:∀(D C:Addr) (H' H2:Hp) (s2 s':Shared) (xs:List V) (m:Str->Option Value),Inv X pins σ H2 s2->H' C=none->C=D+1->D=s2.heap.objs.size->s'.heap.Ns C m->(∀h',Heap.SameBut C s'.heap h'->Inv X pins σ (upd H' D (.lst xs)) {s' with heap:=h'})->Q (.ref D) (upd H' D (.lst xs)) ->
   compPost (model X.prog X.w) X.A X.xe use QQ (.ref D) C (.ok .next) s') :
  wpAny (model X.prog X.w) X.A (comprehension (.ListComp elt [⟨tg,iter,ifs,0⟩] scope pos) scope X.env (firstIterPos [⟨tg,iter,ifs,0⟩] pos) (newList []) false (eval iter X.env) use) QQ X.xe s:=by
 have hcells:∀y∈scope.names,y.2=.free->∃c,X.env.cells.lookup y.1=some c:=λy hy hf=>I.ok.has y.1 (ZcT hok y hy hf).2
 obtain⟨cl,hcl,upM,hfr0⟩:=Zj8 hcells
 have hk:=Zfo hok
 refine wpAny_comprehension_free (use:=use) rfl hs hcl hk (Zib hok) (thn (hi pins s σ H _ I h) λv s1 h1=>thn h1 λitv s2 h2=>?_)
 obtain⟨it,fp,tn,J,H2,e,I2,T,st2,f2,W,⟨m0,w0⟩,turn⟩:=h2
 subst e
 have clt:∀p∈cl,p.2<s2.heap.objs.size:=λp hp=>by
  obtain⟨v,q⟩:=I2.cell p.1 p.2 (upM p hp)
  exact q.lt
 refine wpAny_newObj_type (Zk3 (λp hp=>?_) λcs h₁ CO=>?_)
 .show p.2<(s2.heap.push _).objs.size
  rw[Heap.size_push];exact YR (clt p hp)
 dsimp only at CO⊢
 generalize hH2:s2.heap.push {cls:=.type "list",dict:=none,data:=.seq ([]:List Value).toArray}=HH at CO⊢
 have hC:HH.objs.size=s2.heap.objs.size+1:=by rw[<-hH2,Heap.size_push]
 have hcl':∀p∈cl,p.2<HH.objs.size:=λp hp=>by rw[hC];exact YR (clt p hp)
 have hns₁:h₁.Ns HH.objs.size (λ_=>none):=⟨_,#[],_,CO.old _ _ (Yv _ rfl),rfl,λe he=>absurd he (by simp),λn=>rfl⟩
 have up:∀x c,cs.lookup x=some c->X.env.cells.lookup x=some c\/(HH.objs.size<c/\h₁.IsCell c none):=λx c e=>by
  rcases CO.mem _ (PySem.mem_of_lookup e)with z|z
  .exact .inl (upM _ z)
  .exact .inr ⟨z.1,z.2.2⟩
 have hinj:∀x y c,cs.lookup x=some c->cs.lookup y=some c->x=y:=λx y c e1 e2=>by
  have m1:=PySem.mem_of_lookup e1
  have m2:=PySem.mem_of_lookup e2
  rcases CO.mem _ m1 with z|z
  .rcases CO.mem _ m2 with z'|z'
   .exact I2.ok.inj x y c (upM _ z) (upM _ z')
   .exact absurd (hcl' _ z) (Nat.not_lt_of_le (Nat.le_of_succ_le z'.1))
  .exact CO.inj _ m1 _ m2 z.1 rfl
 have hfr:∀y∈scope.names,y.2=.free->∃c,cs.lookup y.1=some c/\X.env.cells.lookup y.1=some c:=λy hy hf=>by
  obtain⟨c,q1,q2⟩:=hfr0 y hy hf
  refine⟨c,?_,q2⟩
  rw[CO.oth y.1 λy' hy' hc' z=>?_]
  .exact q1
  .have w1:=Zji hok y' hy' hc'
   have w2:=(ZcT hok y hy hf).1
   rw[z,w2]at w1;cases w1
 have hfl:∀b∈fp,b<s2.heap.objs.size:=λb hb=>by
  obtain⟨o,ho,_⟩:=T.obj 0 _ st2 b hb
  exact Yj ho
 have hDC:s2.heap.objs.size≠HH.objs.size:=by rw[hC];exact Yl (Nat.lt_succ_self _)
 have old:∀b o,s2.heap.get? b=some o->h₁.get? b=some o:=λb o e=>CO.old b o (Yk _ (hH2▸Yk _ e))
 have hacc:h₁.get? s2.heap.objs.size=some {cls:=.type "list",dict:=none,data:=.seq ([]:List Value).toArray}:=CO.old _ _ (Yk _ (hH2▸Yv _ rfl))
 have I4:=Zj9 (Nc:=Nc) (js:=js) (tk:=s2.toks) I2 hok htk up hinj (λy hy hc=>CO.own y hy hc) hfr f2 hfl rfl hC old hns₁ hacc (by intro v z;cases z)
 have st4:tn 0 h₁:=T.keep _ _ _ st2 λb _ o e=>old b o e
 generalize hXc:Zaq X Nc scope cs HH.objs.size s2 H2 fp=Xc at I4
 have hXA:Xc.A=X.A:=by rw[<-hXc];rfl
 have hXe:Xc.env=compEnvC scope cs HH.objs.size X.env:=by rw[<-hXc];rfl
 have hXp:Xc.prog=X.prog:=by rw[<-hXc];rfl
 have hXw:Xc.w=X.w:=by rw[<-hXc];rfl
 have hXx:Xc.xe=λ_ _=>False:=by rw[<-hXc];rfl
 have hXk:Xc.K=X.K:=by rw[<-hXc];rfl
 have hXcalm:Xc.calm=true:=by rw[<-hXc];exact hc
 have fpok:∀{pl:List (Addr×Obj)}{H':Hp},(∀p∈pl,s2.heap.objs.size<=p.1)->(∀b∈fp,H' b=none)->∀b∈fp,FpOk Xc pl H' b:=λ{pl H'} hpl hn b hb=>by
  have k1:b≠HH.objs.size:=Yl (by rw[hC];exact YR (hfl b hb))
  have k2:b∉frs X.stack:=λq=>by
   rcases Yi.mp (I2.ZfX b q)with z|z
   .exact(f2 b hb).2.1 z
   .exact(f2 b hb).2.2.1 z
  rw[<-hXc]
  refine⟨hn b hb,k1,k2,.inl hb,λx c e=>(up _ _ e).elim (λz=>(f2 b hb).2.2.2.2.1 x c z) λz=>Nat.ne_of_gt (Nat.lt_trans (by rw[hC];exact YR (hfl b hb)) z.1),λp hp=>?_⟩
  have hp':p∈pl:=by simpa[Zaq,ZnV]using hp
  exact Nat.ne_of_gt (YD (hfl b hb) (hpl p hp'))
 have gX:PG Xc tg g:=hXc▸hg cs HH.objs.size s2 H2 fp
 have tX:ZmB Xc ifs tt:=hXc▸ht cs HH.objs.size s2 H2 fp
 have eX:PE Xc elt te:=hXc▸he cs HH.objs.size s2 H2 fp
 have hs0:Xc.s₀=s2:=by rw[<-hXc];rfl
 have hh0:Xc.H₀=H2:=by rw[<-hXc];rfl
 have hfs:Xc.fs=frs X.stack:=by rw[<-hXc];rfl
 have hex:Xc.ex=fp:=by rw[<-hXc];rfl
 have loop:codeAny (model X.prog X.w) X.A (.compLoop (.ListComp elt [⟨tg,iter,ifs,0⟩] scope pos) 0 (.ref it) (.ref s2.heap.objs.size) (compEnvC scope cs HH.objs.size X.env)) (compPost (model X.prog X.w) X.A X.xe use QQ (.ref s2.heap.objs.size) HH.objs.size)
   {s2 with heap:=h₁,toks:=s2.toks}:=by
  refine ZdV (λn s'=>∃i acc its nn H',Inv Xc [(s2.heap.objs.size,{cls:=.type "list",dict:=none,data:=.seq (its:List Value).toArray nn})] (iniC js σ) H' s'/\Vals acc its/\acc.length<=sizeLine/\tn i s'.heap/\(∀b∈fp,H' b=none)/\W i n acc H') ?_ m0
   ⟨0,[],[],0,H2,I4,.nil,Yo _,st4,λb hb=>(f2 b hb).1,w0⟩
  rintro n s3 ⟨i,acc,its,nn,H3,I3,va,hlen,st3,fr3,w3⟩
  have pg:∀p∈([(s2.heap.objs.size,{cls:=.type "list",dict:=none,data:=.seq its.toArray nn})]:List (Addr×Obj)),s2.heap.objs.size<=p.1:=λp hp=>by
   simp only[Yi,List.not_mem_nil,or_false]at hp
   subst hp;exact Ye _
  rcases turn i n acc H3 w3 with⟨stop,hl,qn⟩|⟨go,hl,step⟩
  .have q:=T.done Xc hXp hXw hXk hXcalm i _ s3 (iniC js σ) H3 (λ_ _=>False) I3 (fpok pg fr3) st3 stop
   rw[hXA]at q
   refine thn q λr s4 ⟨hr,I5⟩=>?_
   subst hr
   have hpin:=I5.pin _ (Ym _ (.head _))
   obtain⟨m5,hn5,_⟩:=I5.loc
   rw[hXe]at hn5
   refine fin _ _ H3 H2 s2 s4 acc m5 I2 (by have:=I5.free;rw[hXe]at this;exact this) hC rfl hn5 (λh' hsb=>?_) (qn _ hpin.2.1)
   have same:∀b o,b≠HH.objs.size->s4.heap.get? b=some o->h'.get? b=some o:=λb o hb e=>hsb.extBut b o hb e
   have un:=I5.base
   rw[hfs,hex,hh0,hs0]at un
   have lt:∀b o,s2.heap.get? b=some o->b<s2.heap.objs.size:=λb o e=>Yj e
   have neC:∀b o,s2.heap.get? b=some o->b≠HH.objs.size:=λb o e=>Yl (by rw[hC];exact YR (lt b o e))
   have neD:∀b o,s2.heap.get? b=some o->b≠s2.heap.objs.size:=λb o e=>Yl (lt b o e)
   have trkC:∀b o,H3 b=some o->b≠HH.objs.size:=λb o e z=>by
    have:=I5.free;rw[hXe]at this;rw[z,show H3 HH.objs.size=none from this]at e;cases e
   refine I2.ZnL (s':={s4 with heap:=h'}) (ch:=fp) (I5.os.trans (by rw[hs0])) ⟨λb o e n hb hx=>same _ _ (neC b o e) (un.keep b o e n hb hx),λb o e n hb hx=>?_,λb o e n hx=>by rw[Zh (neD b o e)];exact un.free b o e n hx,λb o e hx=>?_,λb xs e=>?_,λb o u e=>?_,λb ps e=>?_⟩ (λa o e=>?_) I5.bare λb hb=>⟨(f2 b hb).2.2.2.1,(f2 b hb).2.1,(f2 b hb).2.2.2.2.1,(f2 b hb).2.2.2.2.2⟩
   .obtain⟨sl,z⟩:=un.slot b o e n hb hx
    exact⟨sl,same _ _ (neC b o e) z⟩
   .obtain⟨o',z⟩:=un.there b o e hx
    exact⟨o',same _ _ (neC b o e) z⟩
   .rw[Zh (Yl (I2.hok.lt e))];exact un.tups b xs e
   .rw[Zh (Yl (I2.hok.lt e))];exact un.frzs b o u e
   .obtain⟨more,z⟩:=un.tbls b ps e
    exact⟨more,by rw[Zh (Yl (I2.hok.lt e))];exact z⟩
   .by_cases ha:a=s2.heap.objs.size
    .subst ha
     rw[Zc]at e;cases e
     exact⟨hl,its,nn,va,same _ _ hDC hpin.1⟩
    .rw[Zh ha]at e
     have q:=I5.hok a o e
     rw[hXp,hXw]at q
     refine q.ZfW (λb u hb z=>same b u ?_ z) (λb z=>by rw[Zh];exact z;intro y;subst y;rw[hpin.2.1]at z;cases z) (λb xs z=>by rw[Zh];exact z;intro y;subst y;rw[hpin.2.1]at z;cases z) λb o u z=>by rw[Zh];exact z;intro y;subst y;rw[hpin.2.1]at z;cases z
     rcases hb with hb|hb
     .subst hb;exact trkC _ _ e
     .exact trkC _ _ hb
  .have q:=T.item Xc hXp hXw hXk hXcalm i _ s3 (iniC js σ) H3 (λ_ _=>False) I3 (fpok pg fr3) st3 go
   rw[hXA]at q
   refine thn q λr s4 ⟨u,hr,h4⟩=>?_
   subst hr
   refine thn h4 λ_ s5 ⟨x,H5,I5,r5,y5,st5,fr5⟩=>?_
   have I5':=I5.pinned (fpok pg fr5) (T.obj _ _ st5)
   have again:∀{σ7:St}{H7:Hp}{s7:Shared}{acc7:List V}{its7:List Value}{n7:Nat}{m:Nat},Inv Xc ([(s2.heap.objs.size,{cls:=.type "list",dict:=none,data:=.seq its7.toArray n7})]++ZdQ fp s5.heap) σ7 H7 s7->Vals acc7 its7->acc7.length<=sizeLine->W (i+1) m acc7 H7->σ7.length=(iniC js σ).length->(∀(k:Nat) v,(iniC js σ)[k]?=some (some v)->σ7[k]?=some (some v)) ->
     ∃i acc its nn H',Inv Xc [(s2.heap.objs.size,{cls:=.type "list",dict:=none,data:=.seq (its:List Value).toArray nn})] (iniC js σ) H' s7/\Vals acc its/\acc.length<=sizeLine/\tn i s7.heap/\(∀b∈fp,H' b=none)/\W i m acc H':=λ{σ7 H7 s7 acc7 its7 n7 m} I7 v7 l7 w7 hl7 hw7=>by
    refine⟨i+1,acc7,its7,n7,H7,(I7.weak hl7.symm hw7).ZdR,v7,l7,T.keep _ _ _ st5 λb hb o e=>(I7.pin (b,o) (Ym _ (Ym _ (ZcN hb e)))).1,λb hb=>?_,w7⟩
    obtain⟨o,e,d⟩:=T.obj _ _ st5 b hb
    exact(I7.pin (b,o) (Ym _ (Ym _ (ZcN hb e)))).2.1
   have keep:∀{σ6:St},ZnW L (iniC js σ) σ6->σ6.length=(iniC js σ).length/\∀(k:Nat) v,(iniC js σ)[k]?=some (some v)->σ6[k]?=some (some v):=λ{σ6} hk=>⟨hk.1,λk v e=>by
    rw[hk.2 k]
    .exact e
    .intro z
     have q:=List.all_eq_true.mp hL k z
     simp only[beq_iff_eq]at q
     unfold iniC at e
     rw[YG,q]at e
     cases e⟩
   have q6:=gX _ s5 (iniC js σ) H5 x u _ I5' r5 (ho _ _ _ _ _ (fun σ' H' kk z=>And.intro kk z) (step x H5 y5))
   rw[hXe,hXA,hXp,hXw,hXx]at q6
   refine thn q6 λ_ s6 ⟨σ6,H6,I6,k6,q6⟩=>?_
   obtain⟨kl,kv⟩:=keep k6
   have q7:=tX _ s6 σ6 H6 _ I6 q6
   rw[hXe,hXA,hXp,hXw,hXx]at q7
   refine thn q7 λb s7 ⟨H7,I7,q7⟩=>?_
   cases b with
   |false =>
    obtain⟨m',hm,w7⟩:=q7
    exact⟨m',hm,again I7 va hlen w7 kl kv⟩
   |true =>
    have q8:=eX _ s7 σ6 H7 _ I7 q7
    rw[hXe,hXA,hXp,hXw,hXx]at q8
    refine thn q8 λy s8 ⟨v8,H8,I8,r8,m',hm,w8⟩=>?_
    have pinD:=I8.pin _ (Ym _ (YS _ (.head _)))
    have hnf:∀p∈ZdQ fp s5.heap,p.1≠s2.heap.objs.size:=λp hp=>by
     obtain⟨z,_⟩:=Ziv hp
     exact Yl (hfl _ z)
    have va':=va.length
    refine call_meets F.slot_list_append ⟨_,pinD.1,rfl⟩ F.entry_list_append (F.args_list_append_2 _ _) (PySem.list_append s2.heap.objs.size its.toArray nn y (by rw[Yp];omega)) ⟨pinD.1,?_⟩
    have e9:=PySem.IsL.update pinD.1 (λa=>a.push y)
    have e9':its.toArray.push y=(its++[y]).toArray:=by simp
    dsimp only at e9
    rw[e9']at e9
    have I8':Inv Xc (ZdQ fp s5.heap) σ6 H8 s8:=I8.ZH λp hp=>I8.pin p (Ym _ (Ym _ hp))
    have hXpn:Xc.pn=[]:=by rw[<-hXc];rfl
    have hXs:s2.heap.objs.size∉frs X.stack:=by rw[<-hfs];exact pinD.2.2.2.1
    have I9:=I8'.turned (t':=s8.toks) (it:=s2.heap.objs.size) (h':=s8.heap.update s2.heap.objs.size (Obj.mapSeq λa=>a.push y)) (λb o hb e=>(Heap.get?_update_other s8.heap _ (Ne.symm hb)).trans e) pinD.2.1 pinD.2.2.1
     (.inr (by rw[hs0];exact Ye _)) (λx c e=>by
      rw[hXe]at e
      intro z
      rcases up _ _ e with y|y
      .obtain⟨v,q⟩:=I2.cell x c y
       exact absurd q.lt (by rw[z];exact YB _)
      .have:=y.1
       rw[z,hC]at this
       exact absurd this (Nat.not_lt_of_le (YY _))) (λp hp=>by rw[hXpn,List.nil_append]at hp;exact hnf p hp)
    have I10:=I9.ZH (pins':=[(s2.heap.objs.size,{cls:=.type "list",dict:=none,data:=.seq (its++[y]).toArray _})]++ZdQ fp s5.heap) λp hp=>by
     rcases Yw.mp hp with z|z
     .simp only[Yi,List.not_mem_nil,or_false]at z
      subst z
      exact⟨e9,pinD.2.1,pinD.2.2.1,pinD.2.2.2.1,by intro v z;cases z⟩
     .exact I9.pin p (Ym _ z)
    exact⟨m',hm,again I10 (va.append (.cons r8 .nil)) (by rw[YQ,List.length_singleton];omega) w8 kl kv⟩
 exact codeAny_compStart_list loop (T.self _ 0 _ _ _ st4 loop)
theorem Z2 {tg elt iter:Expr}{ifs:List Expr}{scope:Scope}{pos:Pos}{wi:TI}{g:TG}{tt:TT}{te:TE} (Nc:List Str) (js:List (Option Nat)) {L:List Nat}
  (hc:X.calm=true) (hok:ZaI X.env.scope scope=true) (htk:takesC X.N Nc scope js 0=true) (hi:PI X tg iter wi)
  (hg:∀cl C s2 H2 fp,PG (Zaq X Nc scope cl C s2 H2 fp) tg g) (ht:∀cl C s2 H2 fp,ZmB (Zaq X Nc scope cl C s2 H2 fp) ifs tt) (he:∀cl C s2 H2 fp,PE (Zaq X Nc scope cl C s2 H2 fp) elt te)
  (ho:ZlM g L) (hL:(L.all λk=>js[k]?==some none)=true:=by rfl) (hs:∀x,foldedSetIterable iter X.env x=pure x:=by ac_nf):PE X (.ListComp elt [⟨tg,iter,ifs,0⟩] scope pos) (ZlN wi g tt te js):=by
 intro pins s σ H Q I h
 rw[eval_ListComp]
 exact ZiJ (use:=none) hc hok htk hi hg ht he hs ho hL I h λD C H' H2 s2 s' xs m I2 hHC e1 e2 hn hI q=>⟨m,hn,λh' hsb=>⟨.ref D,_,hI h' hsb,rfl,q⟩⟩
theorem Z3 {i:Nat}{x:Str}{pos' spos:Pos}{tg elt iter:Expr}{ifs:List Expr}{scope:Scope}{pos:Pos}{wi:TI}{g:TG}{tt:TT}{te:TE} (Nc:List Str) (js:List (Option Nat)) {L:List Nat}
  (hN:X.N.Nodup) (hxi:X.N[i]?=some x) (hx:Loc X.env.scope x)
  (hc:X.calm=true) (hok:ZaI X.env.scope scope=true) (htk:takesC X.N Nc scope js 0=true) (hi:PI X tg iter wi)
  (hg:∀cl C s2 H2 fp,PG (Zaq X Nc scope cl C s2 H2 fp) tg g) (ht:∀cl C s2 H2 fp,ZmB (Zaq X Nc scope cl C s2 H2 fp) ifs tt) (he:∀cl C s2 H2 fp,PE (Zaq X Nc scope cl C s2 H2 fp) elt te)
  (ho:ZlM g L) (hL:(L.all λk=>js[k]?==some none)=true:=by rfl) (hs:∀x,foldedSetIterable iter X.env x=pure x:=by ac_nf)
  (hsw:swapsWith (.ListComp elt [⟨tg,iter,ifs,0⟩] scope pos) (some (.Name x pos')) spos.line X.env=pure true:=by rfl)
  (hf:X.fn x=true\/X.env.scope.names.lookup x=some .local:=by and_intros) :
  PS X (.Assign [.Name x pos'] (.ListComp elt [⟨tg,iter,ifs,0⟩] scope pos) spos) (tAsg (ZlN wi g tt te js) (gName i)):=by
 intro pins s σ H D I h
 rw[exec_Assign_Name_used _ _ _ _ hsw]
 refine Ya (wpAny_standAt (Ya ?_))
 show wpAny _ _ (comprehension _ _ _ _ _ _ _ _ >>= _) _ _ _
 refine Ya (thn (Q:=λ_ s'=>∃σ' H',Inv X pins σ' H' s'/\D.nx σ' H') (ZiJ (Q:=λv H1=>gName i v σ H1 D.nx) (use:=some (assign (.Name x pos') X.env)) hc hok htk hi hg ht he hs ho hL I h ?_) λ_ s' ⟨σ',H',I',q⟩=>Yc (Yc ⟨σ',H',I',q⟩))
 intro D' C H' H2 s2 s' xs m I2 hHC e1 e2 hn hI q
 obtain⟨oC,es,ep,hoC,hdC,hrest⟩:=id hn
 have leC:s2.heap.objs.size<=C:=by rw[e1,e2];exact YY _
 have ltC:s2.heap.objs.size<C:=by rw[e1,e2];exact Nat.lt_succ_self _
 have neDC:C≠D':=by rw[e2];exact Nat.ne_of_gt ltC
 have fresh:s2.heap.get? C=none:=by
  cases e:s2.heap.get? C with
  |none=>rfl
  |some o=>exact absurd (YD (Yj e) leC) (YB _)
 have neL:C≠X.env.locals:=Nat.ne_of_gt (YD I2.lt leC)
 have nfs:C∉X.fs:=I2.ZjT leC
 have ncl:∀x c,X.env.cells.lookup x=some c->c≠C:=λx c e z=>by
  obtain⟨v,q⟩:=I2.cell x c e
  exact absurd (YD q.lt leC) (by rw[z];exact YB _)
 have npn:∀p∈X.pn++pins,p.1≠C:=λp hp z=>by
  have:=(I2.pin p hp).1
  rw[z,fresh]at this;cases this
 have hH:(upd H' D' (HO.lst xs)) C=none:=by rw[Zh neDC];exact hHC
 have I0:=hI s'.heap Zja
 have I1:Inv X (pins++[(C,oC)]) σ (upd H' D' (.lst xs)) s':=I0.ZH λp hp=>by
  rcases Yw.mp hp with z|z
  .exact I0.pin p (Ym _ z)
  .simp only[Yi,List.not_mem_nil,or_false]at z
   subst z
   exact⟨hoC,hH,neL,nfs,λv z=>by rw[hdC]at z;cases z⟩
 show wpAny _ _ _ _ _ _
 refine thn (Zn (X:=X) (i:=i) hN hxi hx hf (pins++[(C,oC)]) s' σ _ (.ref D') (.ref D') _ I1 rfl q) λ_ s3 ⟨σ3,H3,I3,q3⟩=>?_
 have pC:=I3.pin (C,oC) (Ym _ (Ym _ (.head _)))
 refine⟨m,⟨oC,es,ep,pC.1,hdC,hrest⟩,λh' hsb=>⟨σ3,H3,?_,q3⟩⟩
 exact I3.ZdR.turned (t':=s3.toks) (it:=C) (λb o hb e=>hsb.extBut b o hb e) pC.2.1 neL (.inr (Yn I2.sz leC)) ncl npn
end
end Lake
namespace Lake
open PySem PySem.Spec PyProof.Rows PySem.W
noncomputable def CF (n:Nat) (P:Nat->Bool) (vals:Nat->V) (H1:Hp) (i m:Nat) (acc:List V) (H:Hp):Prop:=m=n-i/\i<=n/\acc=((List.range i).filter P).map vals/\Zd H1 H
theorem CF.take {n:Nat}{P:Nat->Bool}{vals:Nat->V}{H1 H:Hp}{i:Nat}{v:V} (hi:i<n) (hP:P i=true) (hv:v=vals i) (s:Zd H1 H):∃m',m'<n-i/\CF n P vals H1 (i+1) m' (((List.range i).filter P).map vals++[v]) H :=
 ⟨n-(i+1),⋯,rfl,hi,by rw[Y7,List.filter_append,Jb,hv];simp[hP],s⟩
theorem CF.skip {n:Nat}{P:Nat->Bool}{vals:Nat->V}{H1 H:Hp}{i:Nat} (hi:i<n) (hP:P i=false) (s:Zd H1 H):∃m',m'<n-i/\CF n P vals H1 (i+1) m' (((List.range i).filter P).map vals) H :=
 ⟨n-(i+1),⋯,rfl,hi,by rw[Y7,List.filter_append,Jb];simp[hP],s⟩
theorem Zad {J:It}{n:Nat}{H1:Hp}{g:TG}{tt:TT}{te:TE}{σ0:St}{Q:VK} (P:Nat->Bool) (vals:Nat->V) (hn:n<sizeLine) (hgo:∀i H,Zd H1 H->i<n->J.go i H) (hstop:∀H,Zd H1 H->J.stop n H)
  (hb:∀i x H H',i<n->Zd H1 H->J.yld i H x H'->g x σ0 H' fun σ2 H2=>tt σ2 H2 λb H3=>if b=true then te σ2 H3 λv H4=>∃m',m'<n-i/\CF n P vals H1 (i+1) m' (((List.range i).filter P).map vals++[v]) H4 else ∃m',m'<n-i/\CF n P vals H1 (i+1) m' (((List.range i).filter P).map vals) H3)
  (hk:∀l H',Zd H1 H'->H' l=none->Q (.ref l) (upd H' l (.lst (((List.range n).filter P).map vals)))) :
  Zj2 J g tt te σ0 Q H1:=by
 refine⟨CF n P vals H1,⟨n,rfl,Yo _,rfl,Zd.refl _⟩,?_⟩
 rintro i m acc H ⟨rfl,hi,rfl,s⟩
 have hlen:(((List.range i).filter P).map vals).length<=n:=by
  rw[Yh]
  have:=Jc P (List.range i)
  rw[YX]at this
  omega
 by_cases h:i<n
 .exact .inr ⟨hgo i H s h,⋯,λx H' y=>hb i x H H' h s y⟩
 .have:i=n:= ⋯
  subst this
  exact .inl ⟨hstop H s,⋯,λp hp=>hk p H s hp⟩
theorem ZL.over {f:Nat->Int}{a b lo p:Nat} (h:ZL f a b lo) (h1:a<=p) (h2:p<=b) (hne:p≠lo):Over f lo p:=by
 obtain⟨l1,l2,l3,l4⟩:=h
 rcases Nat.lt_or_gt_of_ne hne with z|z
 .exact .inr ⟨z,λr r1 r2=>l3 r ⋯ r2⟩
 .exact .inl ⟨z,λr r1 r2=>l4 r r1 ⋯⟩
theorem Zoe {ns T:List Int}{g:Nat->Int} (hT:Zq ns T) (hg:∀q p,q<ns.length->p<ns.length->Over (nth ns) q p->(q<p->g q<=g p)/\(p<q->g q<g p)):∀p,p<ns.length->ZC g ns.length p (T.getD p 0):=by
 intro p hp
 have pv:∀q,Z1 (nth ns) p q->Z1 g p q:=λq h=>by
  refine⟨h.1,(hg q p (by have:=h.1;omega) hp (.inl ⟨h.1,λr r1 r2=>?_⟩)).1 h.1,λr r1 r2=>(hg p r hp ⋯ (.inr ⟨r2,λs s1 s2=>h.2.2 s ⋯ s2⟩)).2 r2⟩
  by_cases z:r=p
  .rw[z];exact h.2.1
  .have:=h.2.2 r r1 ⋯;have:=h.2.1;omega
 have nx:∀r,ZZ (nth ns) ns.length p r->ZZ g ns.length p r:=λq h=>by
  refine⟨h.1,h.2.1,(hg q p h.2.1 hp (.inr ⟨h.1,λr r1 r2=>?_⟩)).2 h.1,λs s1 s2=>(hg p s hp (by have:=h.2.1;omega) (.inl ⟨s1,λr r1 r2=>h.2.2.2 r r1 ⋯⟩)).1 s1⟩
  by_cases z:r=p
  .rw[z];exact h.2.2.1
  .have:=h.2.2.2 r ⋯ r2;have:=h.2.2.1;omega
 have np:Zbk (nth ns) p->Zbk g p:=λh q hq=>(hg p q hp ⋯ (.inr ⟨hq,λr r1 r2=>h r r2⟩)).2 hq
 have nn:ZaH (nth ns) ns.length p->ZaH g ns.length p:=λh r r1 r2=>(hg p r hp r2 (.inl ⟨r1,λs s1 s2=>h s s1 ⋯⟩)).1 r1
 have hE:ZC (nth ns) ns.length p (T.getD p 0):=hT.2 p hp
 rcases hE with⟨h1,h2,h⟩|⟨q,h1,h2,h⟩|⟨r,h1,h2,h⟩|⟨q,r,h1,h2,h⟩
 .exact .inl ⟨np h1,nn h2,h⟩
 .exact .inr (.inl ⟨q,pv q h1,nn h2,h⟩)
 .exact .inr (.inr (.inl ⟨r,np h1,nx r h2,h⟩))
 .refine .inr (.inr (.inr ⟨q,r,pv q h1,nx r h2,?_⟩))
  rw[h]
  have hq:q<ns.length:=by have:=h1.1;omega
  have hqr:q<r:=by have:=h1.1;have:=h2.1;omega
  by_cases z:nth ns q<=nth ns r
  .have:=(hg q r hq h2.2.1 (.inl ⟨hqr,λs s1 s2=>by
    by_cases y:s=r
    .rw[y];exact z
    .by_cases y2:s=p
     .rw[y2];exact h1.2.1
     .have:=h1.2.1
      by_cases y3:s<p
      .have:=h1.2.2 s s1 y3;omega
      .have:=h2.2.2.2 s ⋯ ⋯;omega⟩)).1 hqr
   rw[Yd z,Yd ⋯]
  .have:=(hg r q h2.2.1 hq (.inr ⟨hqr,λs s1 s2=>by
    have:=h1.2.1;have:=h2.2.2.1
    by_cases y:s=q
    .rw[y];omega
    .by_cases y2:s=p
     .rw[y2];omega
     .by_cases y3:s<p
      .have:=h1.2.2 s ⋯ y3;omega
      .have:=h2.2.2.2 s ⋯ ⋯;omega⟩)).2 hqr
   rw[Yb z,Yb ⋯]
theorem atI_m1 {xs:List V}{v:V} (h:0<xs.length) (hv:xs[xs.length-1]?=some v):atI xs (-1)=some v:=by
 have e:ixN xs.length (-1)=some (xs.length-1):=by
  unfold ixN
  rw[Yb ⋯,Yd ⋯]
  congr 1
  omega
 unfold atI
 rw[e]
 exact hv
end Lake
namespace HT
open PySem PyProof.Rows
section
open PySem.SeqAt
open PySem.AutoSeq1 (wpAny_loadPart')
open PySem.MeetsSeq PySem.MeetsSeq2 PySem.MeetsSeq3
variable {prog:Program}{w:World}{A:Around}{E:Value->Shared->Prop}{s:Shared}
theorem Zfp {t sl:Addr}{items:Array Value}{vl vu:Value}{lo hi:Option Int}{Q:Value->Shared->Prop} (ht:IsTup s.heap t items) (hs:s.heap.IsSliceOf sl vl vu .none) (pl:IsPart vl lo) (pu:IsPart vu hi)
  (hw:sIx items.size 0 lo=0/\sIx items.size items.size hi=items.size) (h:Q (.ref t) s):wpAny (model prog w) A (getItem (.ref t) (.ref sl)) Q E s:=by
 obtain⟨os,hos,hcs,hds⟩:=id hs
 have hTs:s.TypeIs (.ref sl) "slice":=⟨os,hos,hcs⟩
 unfold getItem
 try with_reducible refine YE ?_
 first|refine Ya (Yc ?_)|skip
 refine Ya (wpAny_sequenceKey ht.typeIs nofun ?_)
 refine Ya (wpAny_callSpecial?_slot (name:=Str.ofString "__getitem__") ht.typeIs PyProof.Rows.slot_tuple_getitem
  (wpAny_call_entry PyProof.Rows.slot_tuple_getitem ht.typeIs entry_tuple_getitem ?_ (args_tuple_getitem _ _)))
 show wpAny _ _ (Builtin.Tuple.tupleItemsOf (.ref t) >>= _) _ _ s
 refine Ya (tupleItemsOf_ ht ?_)
 refine Ya (wpAny_typeOf hTs ?_)
 rw[Yd nofun]
 refine Ya (ZcD hs pl pu ?_)
 have hyes:(((sIx items.size 0 lo:Nat):Int)==0&&(1:Int)==1&&(sIx items.size items.size hi-sIx items.size 0 lo)==items.size)=true:=by
  rw[hw.1,hw.2];simp
 show wpAny _ _ (if (((sIx items.size 0 lo:Nat):Int)==0&&(1:Int)==1&&(sIx items.size items.size hi-sIx items.size 0 lo)==items.size)=true then _ else _) _ _ s
 rw[Yd hyes]
 refine Ya ?_
 unfold Builtin.Tuple.tupleIsExact
 refine Ya (wpAny_typeOf ht.typeIs (Yc ?_))
 rw[Yd nofun]
 refine Ya (wpAny_rule ?_)
 first
  |exact Yc ⟨_,rfl,Yc h⟩
  |exact Ya (Yc (Yc ⟨_,rfl,Yc h⟩))
  |exact Ya (Yc ⟨_,rfl,Yc h⟩)
end
end HT
namespace Lake
open PySem PySem.Spec PyProof.Rows PySem.W
section
variable {X:Cx}
noncomputable def rSlQ (K:Frag):V->Option Int->Option Int->Hp->VK->Prop:=λx lo hi H Q=>∃a xs,x=.ref a/\((SqL K H a xs/\∀p,H p=none->Q (.ref p) (upd H p (.lst (ZbL xs lo hi)))) \/
 (SqT K H a xs/\(HT.sIx xs.length 0 lo=0/\HT.sIx xs.length xs.length hi=xs.length->Q (.ref a) H)/\(¬ (HT.sIx xs.length 0 lo=0/\HT.sIx xs.length xs.length hi=xs.length)->∀p,H p=none->Q (.ref p) (upd H p (.tup (ZbL xs lo hi))))))
theorem sl_q {K:Frag} (hK:X.K=K):SlR X (rSlQ K):=by
 subst hK
 intro pins s σ H x v vl vu lo hi sl Q I rx hs pl pu h
 obtain⟨a,xs,rfl,h|⟨hx,h1,h2⟩⟩:=h
 .exact Zg4 pins s σ H _ v vl vu lo hi sl Q I rx hs pl pu ⟨a,xs,rfl,h⟩
 .by_cases hw:HT.sIx xs.length 0 lo=0/\HT.sIx xs.length xs.length hi=xs.length
  .cases rx
   obtain⟨its,r,ht,hz⟩:=I.tuple hx
   have hlen:its.toArray.size=xs.length:=by rw[Yp];exact r.length.symm
   refine⟨"tuple",_,PyProof.Rows.slot_tuple_getitem.lookup,ht.typeIs,?_⟩
   exact HT.Zfp ht hs pl pu (by rw[hlen];exact hw) ⟨.ref a,H,I,rfl,h1 hw⟩
  .exact sl_tup pins s σ H _ v vl vu lo hi sl Q I rx hs pl pu ⟨a,xs,rfl,hx,hw,h2 hw⟩
end
theorem Zka (T:List Int):∀k a,(Z0 T k a).length<k->Z0 T (k+1) a=Z0 T k a
 |0,_,h=>⋯
 |k+1,a,h=>by
  rw[Z0]at h⊢
  by_cases z:0<=a/\a<T.length
  .rw[Yd z]at h⊢
   rw[Zka T k _ (by simpa using h),Z0,Yd z]
  .rw[Yb z]at h⊢
   rw[Z0,Yb z]
noncomputable def way (T:List Int) (p:Nat):List Nat:=Z0 T T.length (nth T p)
theorem Zjj {T:List Int}{p:Nat} (h:nth T p=-1):way T p=[]:=by
 unfold way
 rw[h]
 cases T.length with
 |zero=>rfl
 |succ k=>rw[Z0,Yb ⋯]
theorem ZbN {ns T:List Int} (hT:Zq ns T) {p q:Nat} (hp:p<ns.length) (h:nth T p=q):way T p=q::way T q:=by
 have hE:ZC (nth ns) ns.length p (q:Int):=h▸hT.2 p hp
 have hq:q<ns.length:=by
  rcases ZbM hp hE with z|⟨q',e,z,_⟩<;>omega
 have hd:=Zf6 hp hE
 have hl:=Zk2 (f:=nth ns) hp
 unfold way
 rw[h,hT.1]
 obtain⟨k,hk⟩:∃k,ns.length=k+1:=⟨ns.length-1,⋯⟩
 rw[hk,Z0,Yd ⟨⋯,by rw[hT.1];omega⟩,show((q:Nat):Int).toNat=q by omega]
 rw[Zka T k (nth T q)]
 rw[(Zhr hT k q hq ⋯).2]
 omega
theorem Zfq (T:List Int) (p:Nat):ZmN T p=(way T p).map λq=>((q:Nat):Int):=rfl
theorem ZaE {ns T:List Int} (hT:Zq ns T) {p:Nat} (hp:p<ns.length):nth T p=-1\/∃q:Nat,nth T p=q/\q<ns.length/\Over (nth ns) q p/\dep (nth ns) ns.length p=dep (nth ns) ns.length q+1:=by
 rcases ZbM hp (hT.2 p hp)with z|⟨q,e,hq,hO⟩
 .exact .inl z
 .have e':nth T p=(q:Int):=e
  have hE:ZC (nth ns) ns.length p (q:Int):=e'▸hT.2 p hp
  exact .inr ⟨q,e,hq,hO,Zf6 hp hE⟩
theorem ZdY {ns T:List Int} (hT:Zq ns T) {p o:Nat} (hp:p<ns.length):o∈way T p↔o<ns.length/\Over (nth ns) o p:=by
 unfold way
 rw[hT.1]
 exact(Zhr hT ns.length p hp (Y3 (Zk2 hp))).1 o
section
variable {X:Cx}{pins:List (Addr×Obj)}{σ:St}{H:Hp}{s:Shared}{h':Heap}
theorem Inv.Zl1 {t':Nat}{fp:List Addr}{T:Addr}{o:HO} (I:Inv X pins σ H s) (k:∀b u,b∉fp->s.heap.get? b=some u->h'.get? b=some u) (hf:∀b∈fp,FpOk X pins H b) (hT:s.heap.objs.size<=T) (new:ZO X.prog X.w (upd H T o) h' T o) :
  Inv X pins σ (upd H T o) {s with heap:=h',toks:=t'}:=by
 have nit:∀b u,H b=some u->b∉fp:=λb u e z=>by rw[(hf b z).1]at e;cases e
 have hfr:H T=none:=I.hok.fresh hT
 have neT:∀b u,s.heap.get? b=some u->b≠T:=λb u e z=>absurd (Yj e) (by rw[z];exact Nat.not_lt_of_le hT)
 have neH:∀b u,H b=some u->b≠T:=λb u e z=>by rw[z,hfr]at e;cases e
 refine I.step (g':=s.gens) (d':=s.drawn) (ch:=fp) (λb hb=>?_) (λb o _ _ hc e _=>k b o hc e) (λb o _ _ hc e _=>⟨o.slots,k b o hc e⟩) (λb u _ e n=>by rw[Zh (neT b u e)];exact n)
  (λb o hc e=>⟨o,k b o hc e⟩) (λb xs e=>by rw[Zh (neH b _ e)];exact e) (λb o u e=>by rw[Zh (neH b _ e)];exact e) (λb ps e=>⟨#[],by rw[Zh (neH b _ e),e];simp⟩) (λm hm=>?_) (λb u e=>?_) I.bare
 .obtain⟨_,f1,_,f3,f4,f5⟩:=hf b hb
  exact⟨f3,f1,f4,f5⟩
 .obtain⟨o,es,ep,ho,r⟩:=hm
  exact⟨o,es,ep,k _ o (λz=>(hf _ z).2.1 rfl) ho,r⟩
 .by_cases z:b=T
  .subst z
   rw[Zc]at e;cases e
   exact new
  .rw[Zh z]at e
   refine(I.hok b u e).ZfW (λc v hc q=>k c v ?_ q) (λc q=>?_) (λc xs q=>?_) λc o u q=>?_
   .rcases hc with y|y
    .rw[y];exact nit b u e
    .exact nit c _ y
   .rw[Zh (neH _ _ q)];exact q
   .rw[Zh (neH _ _ q)];exact q
   .rw[Zh (neH _ _ q)];exact q
noncomputable def Ite (K : Frag) (a : Addr) : It :=
  ⟨fun i H => ∃ xs x, SqL K H a xs ∧ xs[i]? = some x,
   fun i H v H' => ∃ p x, H p = none ∧ v = .ref p ∧ H' = upd H p (.tup [.int (i : Int), x]) ∧ ∀ xs, SqL K H a xs → xs[i]? = some x,
   fun i H => ∃ xs, SqL K H a xs ∧ xs.length = i⟩
theorem ZmP {P:Program}{w:World}{K:Frag}{elts:List Expr} {x1}{pos:Pos}{a e it:Addr} (h1:e≠it) (h2:a≠e) (h3:a≠it) :
  Turn P w K (.Tuple elts x1 pos) (Ite K a) [e,it] e (λi h=>(∃old,IsEnum h e it (i:Int) old)/\h.IsListIter it a i) where
 mem:=by simp
 obj:=λi h st c hc=>by
  obtain⟨⟨old,q1⟩,⟨o4,q4,_,d4⟩⟩:=st
  simp at hc
  rcases hc with rfl|rfl
  .exact⟨_,q1,λv z=>by cases z⟩
  .exact⟨_,q4,λv z=>by rw[d4]at z;cases z⟩
 keep:=λi h h' st k=>by
  obtain⟨⟨old,q1⟩,q4⟩:=st
  exact⟨⟨old,k e (by simp) _ q1⟩,q4.at λo z=>k it (by simp) o z⟩
 item:=by
  intro X hP hw hK hc i pins s σ H E I hf st hg
  subst hP hw hK
  obtain⟨xs,x,qa,hx⟩:=hg
  obtain⟨is1,r1,p1,hz1⟩:=I.list qa
  obtain⟨u,hu,ru⟩:=r1.get hx
  have W:=WalksT.enumerate (prog:=X.prog) (w:=X.w) (I.ok.hd hc) e it a h1 h2 h3 is1.toArray
  have hi:i<is1.toArray.size:=by
   have:=(Yr.mp hu).1
   simpa using this
  refine W.item i s _ E hi ⟨st.1,st.2,p1.isList⟩ λT vals h' tk Pt hT hTup Mid keep=>⟨_,rfl,W.go elts x1 pos i T _ _ E Mid λh2' St2 keep2=>?_⟩
  obtain⟨t,y,hy,rfl⟩:=Pt
  have hyu:y=u:=by
   have:is1[i]?=some y:=by simpa using hy
   rw[hu]at this;exact(YF this).symm
  subst hyu
  have nT:=W.apart i T h' Mid
  have hfr:H T=none:=I.hok.fresh hT
  have kk:∀b o,b∉[e,it]->s.heap.get? b=some o->h2'.get? b=some o:=λb o hb q=>keep2 b o hb (keep b o hb q)
  have nTe:∀c∈[e,it],c≠T:=λc hc z=>nT (z▸hc)
  refine⟨.ref T,_,Inv.Zl1 (s:=s) (t':=tk) (o:=.tup [.int (i:Int),x]) I kk hf hT ?_,rfl,⟨T,x,hfr,rfl,rfl,λxs' q'=>?_⟩,⟨?_,St2.2.1⟩,λc hc=>?_⟩
  .obtain⟨oT,q1,q2,n,q3⟩:=hTup
   exact⟨by show 2<=sizeLine;decide,[.int (i:Int) t,y],.cons ⟨t,rfl⟩ (.cons ru .nil),⟨oT,keep2 T oT nT q1,q2,n,q3⟩⟩
  .rw[I.ZdO q' qa];exact hx
  .obtain⟨old,q⟩:=St2.1
   exact⟨old,by rw[show(((i+1:Nat)):Int)=(i:Int)+1 by omega]at *;exact q⟩
  .rw[Zh (nTe c hc)];exact(hf c hc).1
 done:=by
  intro X hP hw hK hc i pins s σ H E I hf st hg
  subst hP hw hK
  obtain⟨xs,qa,hx⟩:=hg
  obtain⟨is1,r1,p1,_⟩:=I.list qa
  have W:=WalksT.enumerate (prog:=X.prog) (w:=X.w) (I.ok.hd hc) e it a h1 h2 h3 is1.toArray
  have hi:i=is1.toArray.size:=by
   have:=r1.length
   simp;omega
  refine W.done s _ E ?_ λh' tk keep=>⟨rfl,I.ZlO (t':=tk) (fp:=[e,it]) (λc o hc q=>keep c o hc q) hf⟩
  rw[<-hi]
  exact⟨st.1,st.2,p1.isList⟩
 self:=λA i s Q E st h=>by
  obtain⟨⟨old,q⟩,_⟩:=st
  exact wpAny_pyIter_enum q h
noncomputable def iEnum (K:Frag) (ta:TA):TI:=fun σ H R=>ta σ H λvs H1=>∃a xs,vs=[.ref a]/\SqL K H1 a xs/\R (Ite K a) H1
theorem Zhs:bootBuiltins "enumerate"=some (.type "enumerate"):=by decide +kernel
theorem Zre {K:Frag}{elts:List Expr} {x1}{tp:Pos}{e1:Expr}{ta:TA}{p pos:Pos} (hK:X.K=K) (hg:Gl X "enumerate") (hm:X.mg "enumerate"=none) (ha:PA X [e1] ta) (hs:starEach [e1] X.env=[(false,eval e1 X.env)]:=by rfl) :
  PI X (.Tuple elts x1 tp) (.Call (.Name "enumerate" p) [e1] [] pos) (iEnum K ta):=by
 subst hK
 intro pins s σ H R I h
 refine wpAny_Call_Name_kw (ZaF I hg hm Zhs ?_)
 refine PyProof.Rows.callWith_type1 (thn (ha pos pins s σ H _ I h) λus s1 ⟨vs,H1,I1,r1,a,xs,e1,qa,q⟩=>?_) hs rfl
 subst e1
 obtain⟨u,rfl,ru⟩:=r1.one
 cases(show u=Value.ref a from ru)
 obtain⟨is1,rr1,p1,_⟩:=I1.list qa
 refine call_enumerate_list p1.isList λh' c1 c2 c3 c4=>?_
 have l1:a<s1.heap.objs.size:=by obtain⟨o,e,_⟩:=p1.isList;exact Yj e
 have sm:∀b,s1.heap.objs.size<=b->FpOk X pins H1 b:=λb hb=>I1.fpOk hb (I1.hok.fresh hb)
 have n1:s1.heap.objs.size+1≠s1.heap.objs.size:=by show ¬ ((_:Nat)=_);omega
 have n2:a≠s1.heap.objs.size+1:=Yl (YR l1)
 have n3:a≠s1.heap.objs.size:=Yl l1
 have T:=ZmP (P:=X.prog) (w:=X.w) (K:=X.K) (elts:=elts) (x1:=x1) (pos:=tp) n1 n2 n3
 refine T.self _ 0 _ _ _ ⟨⟨_,c1⟩,c2⟩ ?_
 refine⟨_,[s1.heap.objs.size+1,s1.heap.objs.size],_,_,H1,rfl,I1.kept (t':=s1.toks) c4,T,⟨⟨_,c1⟩,c2⟩,λc hc=>?_,q⟩
 simp at hc
 rcases hc with rfl|rfl<;>exact sm _ ⋯
end
noncomputable def ZcU (f g:Nat->Int) (n:Nat):Prop:=∀a c,a+c<n->Zf4 f a c=Zf4 g a c
theorem ZcU.over {f g:Nat->Int}{n o p:Nat} (h:ZcU f g n) (ho:o<n) (hp:p<n) (k:Over f o p):Over g o p:=by
 rcases k with⟨z,k⟩|⟨z,k⟩
 .have i1:ZL f o (o+(p-o)) o:=⟨Ye _,⋯,λq q1 q2=>⋯,λq q1 q2=>k q q1 ⋯⟩
  have e:=h o (p-o) ⋯
  rw[(Zaz f o (p-o)).unique i1]at e
  have i2:=Zaz g o (p-o)
  rw[<-e]at i2
  exact .inl ⟨z,λr r1 r2=>i2.2.2.2 r r1 ⋯⟩
 .have i1:ZL f p (p+(o-p)) o:=⟨⋯,⋯,λq q1 q2=>k q q1 q2,λq q1 q2=>⋯⟩
  have e:=h p (o-p) ⋯
  rw[(Zaz f p (o-p)).unique i1]at e
  have i2:=Zaz g p (o-p)
  rw[<-e]at i2
  exact .inr ⟨z,λr r1 r2=>i2.2.2.1 r r1 ⋯⟩
theorem ZcU.tree {ns ms T:List Int} (hT:Zq ns T) (hl:ms.length=ns.length) (h:ZcU (nth ns) (nth ms) ns.length):Zq ms T:=by
 refine⟨by rw[hl];exact hT.1,λp hp=>?_⟩
 rw[hl]at hp⊢
 refine Zoe hT (λq p hq hp hO=>?_) p hp
 rcases h.over hq hp hO with⟨z,k⟩|⟨z,k⟩
 .exact⟨λ_=>k p z (Ye _),λy=>⋯⟩
 .exact⟨λy=>⋯,λ_=>k p (Ye _) z⟩
theorem Zht {ns ms T:List Int} (h1:Zq ns T) (h2:Zq ms T) {o p:Nat} (ho:o<ns.length) (hp:p<ns.length) (k:Over (nth ns) o p):Over (nth ms) o p:=by
 have hl:ms.length=ns.length:=h2.1.symm.trans h1.1
 exact((ZdY h2 ⋯).mp ((ZdY h1 hp).mpr ⟨ho,k⟩)).2
theorem Zk4 {ns ms T:List Int} (h1:Zq ns T) (h2:Zq ms T):ZcU (nth ns) (nth ms) ns.length:=by
 intro a c hac
 have hl:=Zaz (nth ns) a c
 have hlt:=ZlZ (nth ns) a c
 refine ZL.unique (f:=nth ms) (a:=a) (b:=a+c) ⟨hl.1,hl.2.1,λq q1 q2=>?_,λq q1 q2=>?_⟩ (Zaz (nth ms) a c)
 .have:=Zht h1 h2 ⋯ ⋯ (hl.over (p:=q) ⋯ ⋯ ⋯)
  rcases this with⟨z,k⟩|⟨z,k⟩
  .omega
  .exact k q (Ye _) q2
 .have:=Zht h1 h2 ⋯ ⋯ (hl.over (p:=q) ⋯ ⋯ ⋯)
  rcases this with⟨z,k⟩|⟨z,k⟩
  .exact k q q1 (Ye _)
  .omega
theorem Zrf {ns ms S T:List Int} (h1:Zq ns S) (h2:Zq ms T):(ns.length=ms.length/\ZcU (nth ns) (nth ms) ns.length)↔(ns.length=ms.length/\S=T):=by
 refine⟨λh=>⟨h.1,?_⟩,λh=>⟨h.1,?_⟩⟩
 .exact(ZcU.tree h1 h.1.symm h.2).unique h2
 .rw[h.2]at h1;exact Zk4 h1 h2
noncomputable def Zf8 (ns:List Int) (a c:Nat):List Int:=(ns.drop a).take c
theorem Zof {ns:List Int}{a c:Nat} (h:a+c<=ns.length):(Zf8 ns a c).length=c:=by
 unfold Zf8;rw[Y4,Jg];omega
theorem Zog {ns:List Int}{a c i:Nat} (h:i<c):nth (Zf8 ns a c) i=nth ns (a+i):=by
 simp[nth,Zf8,Yg,List.getElem?_take,List.getElem?_drop,h]
theorem ZiK {P:Nat->Prop}:∀n,¬ (∀j,j<n->P j)->∃j,j<n/\¬ P j/\∀i,i<j->P i
 |0,h=>absurd (λj hj=>⋯) h
 |n+1,h=>by
  by_cases z:∀j,j<n->P j
  .exact⟨n,⋯,λy=>h λj hj=>by
    by_cases e:j=n
    .rw[e];exact y
    .exact z j ⋯,z⟩
  .obtain⟨j,h1,h2,h3⟩:=ZiK n z
   exact⟨j,⋯,h2,h3⟩
theorem ifR {c:TT}{t u:TS}{D:Ends}{σ:St}{H:Hp} (T U:Hp->Prop) (ht:∀H1,T H1->t D σ H1) (hu:∀H1,U H1->u D σ H1) (hc:∀B:Bool->Hp->Prop,(∀H1,T H1->B true H1)->(∀H1,U H1->B false H1)->c σ H B):tIfS c t u D σ H :=
 hc _ (λH1 h=>by rw[Yd rfl];exact ht H1 h) (λH1 h=>by rw[Yb (by simp)];exact hu H1 h)
section
variable {X:Cx}
theorem ZeG:bootBuiltins "sorted"=some (.builtin "sorted"):=by decide +kernel
end
section
variable {prog:Program}{w:World}{A:Around}{E Q:Value->Shared->Prop}{s:Shared}{it t:Addr}{i:Nat}{items:Array Value}
theorem Zfr {x:Value} (hi:s.heap.IsTupleIter it t i) (ht:s.heap.IsTuple t items) (hx:items[i]?=some x) (h:∀h',h'.IsTupleIter it t (i+1)->Heap.SameBut it s.heap h'->Q x {s with heap:=h'}):wpAny (model prog w) A (Builtin.SmallTypes.nextOf (.ref it)) Q E s:=by
 obtain⟨o,ho,hc,hd⟩:=id hi
 obtain⟨ot,hot,hct,n,hdt⟩:=id ht
 have hT:s.TypeIs (.ref it) "tuple_iterator":=⟨o,ho,hc⟩
 unfold Builtin.SmallTypes.nextOf
 refine Ya (wpAny_callSpecial?_slot hT F.slot_tuple_iterator_next (wpAny_call_entry F.slot_tuple_iterator_next hT F.entry_tuple_iterator_next ?_ (F.args_tuple_iterator_next_1 _)))
 show wpAny _ _ (_ >>= _) _ _ _
 refine Ya (wpAny_of_eq (show slotArgs "__next__" 0 {pos:=[.ref it]}=pure (.ref it,[])from rfl) ?_)
 refine Ya (wpAny_field ho hd (x:=.ref t) rfl ?_)
 rw[Yb (by simp)]
 refine Ya (wpAny_field ho hd (x:=.int (i:Int) 0) rfl ?_)
 refine Ya (wpAny_seqItems hot hdt ?_)
 dsimp only
 rw[Jf,hx]
 refine Ya (wpAny_setField ho hd (by show 1<2;decide) (Yc ⟨x,rfl,?_⟩))
 refine Yc (h _ ?_ ⟨by simp,λb hb=>Heap.get?_update_other _ _ (Ne.symm hb)⟩)
 obtain⟨cls,dict,data,slots⟩:=o
 simp only at hc hd
 subst hc hd
 exact⟨_,Heap.get?_update_self _ ho rfl,rfl,rfl⟩
theorem Zf9 (hA:A.handled=none) (hi:s.heap.IsTupleIter it t i) (ht:s.heap.IsTuple t items) (hx:items[i]?=none) (h:∀h' e,Heap.ExtBut it s.heap h'->(∃o,h'.get? e=some o/\o.cls=.type "StopIteration")->E (.ref e) {s with heap:=h'}):wpAny (model prog w) A (Builtin.SmallTypes.nextOf (.ref it)) Q E s:=by
 obtain⟨o,ho,hc,hd⟩:=id hi
 obtain⟨ot,hot,hct,n,hdt⟩:=id ht
 have hT:s.TypeIs (.ref it) "tuple_iterator":=⟨o,ho,hc⟩
 unfold Builtin.SmallTypes.nextOf
 refine Ya (wpAny_callSpecial?_slot hT F.slot_tuple_iterator_next (wpAny_call_entry F.slot_tuple_iterator_next hT F.entry_tuple_iterator_next ?_ (F.args_tuple_iterator_next_1 _)))
 show wpAny _ _ (_ >>= _) _ _ _
 refine Ya (wpAny_of_eq (show slotArgs "__next__" 0 {pos:=[.ref it]}=pure (.ref it,[])from rfl) ?_)
 refine Ya (wpAny_field ho hd (x:=.ref t) rfl ?_)
 rw[Yb (by simp)]
 refine Ya (wpAny_field ho hd (x:=.int (i:Int) 0) rfl ?_)
 refine Ya (wpAny_seqItems hot hdt ?_)
 dsimp only
 rw[Jf,hx]
 refine Ya (wpAny_rule (Ya (wpAny_setField ho hd (by show 0<2;decide) ?_)))
 unfold Builtin.SmallTypes.stopIteration
 refine Ya ?_
 unfold newExc
 refine Ya (wpAny_newTuple ?_ (Yo _))
 refine Ya (wpAny_of_eq (show firstArgMember (.type "StopIteration") []=pure .none by first|rfl|(unfold firstArgMember;rfl)) ?_)
 refine wpAny_newObj_type (wpAny_raiseNew_none hA (h _ _ (λb o' hb e=>?_) ⟨_,Yv _ rfl,rfl⟩))
 exact Yk _ (Yk _ ((Heap.get?_update_other _ _ (Ne.symm hb)).trans e))
theorem Zgy (hA:A.handled=none) (it t:Addr) (hne:t≠it) (items:Array Value):Draws prog w A it [it,t] items.size (λi v=>items[i]?=some v) (λi h=>h.IsTupleIter it t i/\h.IsTuple t items) where
 live:=λi h st=>by obtain⟨⟨o,ho,_⟩,_⟩:=st;exact⟨o,ho⟩
 frame:=λi h h' st k=>by
  obtain⟨⟨o,ho,r⟩,⟨ot,hot,rt⟩⟩:=st
  exact⟨⟨o,k it (by simp) o ho,r⟩,⟨ot,k t (by simp) ot hot,rt⟩⟩
 item:=λi s Q E hi st h=>by
  obtain⟨ot,hot,rt⟩:=st.2
  refine Zfr st.1 st.2 (Array.getElem?_eq_getElem hi) λh' hit hs=>h _ h' s.toks (Array.getElem?_eq_getElem hi) ⟨hit,⟨ot,(hs.2 t hne).trans hot,rt⟩⟩ hs
 done:=λs Q E st h=>Zf9 hA st.1 st.2 (Array.getElem?_eq_none (Ye _)) h
end
section
variable {X:Cx}{pins:List (Addr×Obj)}{σ:St}{H:Hp}{s:Shared}{h':Heap}
noncomputable def IteT (K : Frag) (a : Addr) : It :=
  ⟨fun i H => ∃ xs x, SqT K H a xs ∧ xs[i]? = some x,
   fun i H v H' => ∃ p x, H p = none ∧ v = .ref p ∧ H' = upd H p (.tup [.int (i : Int), x]) ∧ ∀ xs, SqT K H a xs → xs[i]? = some x,
   fun i H => ∃ xs, SqT K H a xs ∧ xs.length = i⟩
theorem Zk5 {P:Program}{w:World}{K:Frag}{elts:List Expr} {x1}{pos:Pos}{a e it:Addr} (h1:e≠it) (h2:a≠e) (h3:a≠it) :
  Turn P w K (.Tuple elts x1 pos) (IteT K a) [e,it] e (λi h=>(∃old,IsEnum h e it (i:Int) old)/\h.IsTupleIter it a i) where
 mem:=by simp
 obj:=λi h st c hc=>by
  obtain⟨⟨old,q1⟩,⟨o4,q4,_,d4⟩⟩:=st
  simp at hc
  rcases hc with rfl|rfl
  .exact⟨_,q1,λv z=>by cases z⟩
  .exact⟨_,q4,λv z=>by rw[d4]at z;cases z⟩
 keep:=λi h h' st k=>by
  obtain⟨⟨old,q1⟩,⟨o,ho,r⟩⟩:=st
  exact⟨⟨old,k e (by simp) _ q1⟩,⟨o,k it (by simp) o ho,r⟩⟩
 item:=by
  intro X hP hw hK hc i pins s σ H E I hf st hg
  subst hP hw hK
  obtain⟨xs,x,qa,hx⟩:=hg
  obtain⟨is1,r1,p1,hz1⟩:=I.tuple qa
  obtain⟨u,hu,ru⟩:=r1.get hx
  have W:=WalksT.enumerateD (prog:=X.prog) (w:=X.w) (A:=X.A) (Zgy (A:=X.A.in1) (I.ok.hd hc) it a h3 is1.toArray) e h1 (by simp;exact⟨h1,h2.symm⟩) (by simp)
  have hi:i<is1.toArray.size:=by
   have:=(Yr.mp hu).1
   simpa using this
  refine W.item i s _ E hi ⟨st.1,st.2,p1⟩ λT vals h' tk Pt hT hTup Mid keep=>⟨_,rfl,W.go elts x1 pos i T _ _ E Mid λh2' St2 keep2=>?_⟩
  obtain⟨t,y,hy,rfl⟩:=Pt
  have hyu:y=u:=by
   have:is1[i]?=some y:=by simpa using hy
   rw[hu]at this;exact(YF this).symm
  subst hyu
  have nT:=W.apart i T h' Mid
  have hfr:H T=none:=I.hok.fresh hT
  have kk:∀b o,b∉[e,it]->s.heap.get? b=some o->h2'.get? b=some o:=λb o hb q=>keep2 b o hb (keep b o hb q)
  have nTe:∀c∈[e,it],c≠T:=λc hc z=>nT (z▸hc)
  refine⟨.ref T,_,Inv.Zl1 (s:=s) (t':=tk) (o:=.tup [.int (i:Int),x]) I kk hf hT ?_,rfl,⟨T,x,hfr,rfl,rfl,λxs' q'=>?_⟩,⟨?_,St2.2.1⟩,λc hc=>?_⟩
  .obtain⟨oT,q1,q2,n,q3⟩:=hTup
   exact⟨by show 2<=sizeLine;decide,[.int (i:Int) t,y],.cons ⟨t,rfl⟩ (.cons ru .nil),⟨oT,keep2 T oT nT q1,q2,n,q3⟩⟩
  .rw[I.ZfZ q' qa];exact hx
  .obtain⟨old,q⟩:=St2.1
   exact⟨old,by rw[show(((i+1:Nat)):Int)=(i:Int)+1 by omega]at *;exact q⟩
  .rw[Zh (nTe c hc)];exact(hf c hc).1
 done:=by
  intro X hP hw hK hc i pins s σ H E I hf st hg
  subst hP hw hK
  obtain⟨xs,qa,hx⟩:=hg
  obtain⟨is1,r1,p1,_⟩:=I.tuple qa
  have W:=WalksT.enumerateD (prog:=X.prog) (w:=X.w) (A:=X.A) (Zgy (A:=X.A.in1) (I.ok.hd hc) it a h3 is1.toArray) e h1 (by simp;exact⟨h1,h2.symm⟩) (by simp)
  have hi:i=is1.toArray.size:=by
   have:=r1.length
   simp;omega
  refine W.done s _ E ?_ λh' tk keep=>⟨rfl,I.ZlO (t':=tk) (fp:=[e,it]) (λc o hc q=>keep c o hc q) hf⟩
  rw[<-hi]
  exact⟨st.1,st.2,p1⟩
 self:=λA i s Q E st h=>by
  obtain⟨⟨old,q⟩,_⟩:=st
  exact wpAny_pyIter_enum q h
theorem Zk6 {M:Model}{A:Around}{E:Value->Shared->Prop}{s:Shared} (cls:Value):wpAny M A (Builtin.SmallTypes.calledThroughType cls) (λ_ s'=>s'=s) E s:=by
 unfold Builtin.SmallTypes.calledThroughType
 exact Ya (wpAny_stack λst _ _ _=>Yc rfl)
theorem Zkb {prog:Program}{w:World} (l:Addr) (items:Array Value):MeetsIn prog w (Builtin.«enumerate.__new__» {pos:=[.type "enumerate",.ref l]}) λA R s=>s.heap.IsTuple l items/\R (.ok (.ret (.ref (s.heap.objs.size+1)))) {s with heap:=(s.heap.push {cls:=.type "tuple_iterator",data:=.fields #[.ref l,.int 0 0]}).push {cls:=.type "enumerate",data:=.fields #[.none,.bool false,.ref s.heap.objs.size,rawInt 0,.none,.none]}}:=by
 intro A R s ⟨h,hR⟩
 unfold Builtin.«enumerate.__new__»
 refine Ya (wpAny_of_eq (show Builtin.SmallTypes.newClass "enumerate" {pos:=[.type "enumerate",.ref l]}=pure (.type "enumerate",[.ref l])from by first|rfl|(unfold Builtin.SmallTypes.newClass;rfl)) ?_)
 show wpAny _ _ (_ >>= _) _ _ _
 have hsz:(s.heap.push {cls:=.type "tuple_iterator",data:=.fields #[.ref l,.int 0 0]}).objs.size=s.heap.objs.size+1:=Heap.size_push _ _
 refine Ya (thn (Zk6 (.type "enumerate")) λb s' e=>?_)
 subst e
 cases b with
 |true =>
  show wpAny _ _ (_ >>= _) _ _ _
  refine Ya (wpAny_of_eq (show _=pure (.ref l,none)from rfl) ?_)
  show wpAny _ _ (_ >>= _) _ _ _
  refine Ya (wpAny_pyIter_tuple h ?_)
  show wpAny _ _ (newObj (.type "enumerate") (.fields #[.none,.bool false,.ref s'.heap.objs.size,rawInt 0,.none,.none]) >>= _) _ _ _
  refine Ya (wpAny_newObj_type (Yc ?_))
  rw[hsz];exact hR
 |false =>
  show wpAny _ _ (_ >>= _) _ _ _
  refine Ya (wpAny_of_eq (show _=pure (.ref l,none)from rfl) ?_)
  show wpAny _ _ (_ >>= _) _ _ _
  refine Ya (wpAny_pyIter_tuple h ?_)
  show wpAny _ _ (newObj (.type "enumerate") (.fields #[.none,.bool false,.ref s'.heap.objs.size,rawInt 0,.none,.none]) >>= _) _ _ _
  refine Ya (wpAny_newObj_type (Yc ?_))
  rw[hsz];exact hR
noncomputable def iEnumT (K:Frag) (ta:TA):TI:=fun σ H R=>ta σ H λvs H1=>∃a xs,vs=[.ref a]/\SqT K H1 a xs/\R (IteT K a) H1
theorem Zoh {K:Frag}{elts:List Expr} {x1}{tp:Pos}{e1:Expr}{ta:TA}{p pos:Pos} (hK:X.K=K) (hg:Gl X "enumerate") (hm:X.mg "enumerate"=none) (ha:PA X [e1] ta) (hs:starEach [e1] X.env=[(false,eval e1 X.env)]:=by rfl) :
  PI X (.Tuple elts x1 tp) (.Call (.Name "enumerate" p) [e1] [] pos) (iEnumT K ta):=by
 subst hK
 intro pins s σ H R I h
 refine wpAny_Call_Name_kw (ZaF I hg hm Zhs ?_)
 refine PyProof.Rows.callWith_type1 (thn (ha pos pins s σ H _ I h) λus s1 ⟨vs,H1,I1,r1,a,xs,e1,qa,q⟩=>?_) hs rfl
 subst e1
 obtain⟨u,rfl,ru⟩:=r1.one
 cases(show u=Value.ref a from ru)
 obtain⟨is1,rr1,p1,_⟩:=I1.tuple qa
 have l1:a<s1.heap.objs.size:=by obtain⟨o,e,_⟩:=p1;exact Yj e
 have sm:∀b,s1.heap.objs.size<=b->FpOk X pins H1 b:=λb hb=>I1.fpOk hb (I1.hok.fresh hb)
 have n1:s1.heap.objs.size+1≠s1.heap.objs.size:=by show ¬ ((_:Nat)=_);omega
 have n2:a≠s1.heap.objs.size+1:=Yl (YR l1)
 have n3:a≠s1.heap.objs.size:=Yl l1
 have T:=Zk5 (P:=X.prog) (w:=X.w) (K:=X.K) (elts:=elts) (x1:=x1) (pos:=tp) n1 n2 n3
 have hsz:(s1.heap.push {cls:=.type "tuple_iterator",data:=.fields #[.ref a,.int 0 0]}).objs.size=s1.heap.objs.size+1:=Heap.size_push _ _
 have c1:IsEnum ((s1.heap.push {cls:=.type "tuple_iterator",data:=.fields #[.ref a,.int 0 0]}).push {cls:=.type "enumerate",data:=.fields #[.none,.bool false,.ref s1.heap.objs.size,rawInt 0,.none,.none]}) (s1.heap.objs.size+1) s1.heap.objs.size 0 .none:=by
  show Heap.get? _ _=_
  rw[<-hsz];exact Yv _ rfl
 have c2:((s1.heap.push {cls:=.type "tuple_iterator",data:=.fields #[.ref a,.int 0 0]}).push {cls:=.type "enumerate",data:=.fields #[.none,.bool false,.ref s1.heap.objs.size,rawInt 0,.none,.none]}).IsTupleIter s1.heap.objs.size a 0:=⟨_,Yk _ (Yv _ rfl),rfl,rfl⟩
 refine callType_newIn F.called_enumerate rfl (by first|rfl|decide) (F.newCall_enumerate_1 _) (λobj=>by first|rfl|decide) F.entry_enumerate_new (Zkb a is1.toArray) ⟨p1,⟨_,c1,rfl⟩,?_⟩
 refine T.self _ 0 _ _ _ ⟨⟨_,c1⟩,c2⟩ ?_
 refine⟨_,[s1.heap.objs.size+1,s1.heap.objs.size],_,_,H1,rfl,I1.kept (t':=s1.toks) (λb o e=>Yk _ (Yk _ e)),T,⟨⟨_,c1⟩,c2⟩,λc hc=>?_,q⟩
 simp at hc
 rcases hc with rfl|rfl<;>exact sm _ ⋯
end
open Classical in
noncomputable def Ze2 (f:Nat->Int) (p:Nat):Int:=if h:∃q,Z1 f p q then (Classical.choose h:Nat)else -1
open Classical in
noncomputable def Zga (f:Nat->Int) (n p:Nat):Int:=if h:∃r,ZZ f n p r then (Classical.choose h:Nat)else (n:Int)
theorem ZcG {f:Nat->Int}{p q:Nat} (h:Z1 f p q):Ze2 f p=q:=by
 have hx:∃q,Z1 f p q:=⟨q,h⟩
 unfold Ze2
 rw[dif_pos hx,(Classical.choose_spec hx).unique h]
theorem Zfs {f:Nat->Int}{p:Nat} (h:Zbk f p):Ze2 f p=-1:=by
 unfold Ze2
 rw[dif_neg λ⟨q,hq⟩=>hq.no h]
theorem ZeH {f:Nat->Int}{n p r:Nat} (h:ZZ f n p r):Zga f n p=r:=by
 have hx:∃r,ZZ f n p r:=⟨r,h⟩
 unfold Zga
 rw[dif_pos hx,(Classical.choose_spec hx).unique h]
theorem Zg9 {f:Nat->Int}{n p:Nat} (h:ZaH f n p):Zga f n p=n:=by
 unfold Zga
 rw[dif_neg λ⟨q,hq⟩=>hq.no h]
theorem Zft {f:Nat->Int}{n p:Nat}{e:Int} (h:ZC f n p e):(Zbk f p\/∃q,Z1 f p q)/\(ZaH f n p\/∃r,ZZ f n p r):=by
 rcases h with⟨h1,h2,_⟩|⟨q,h1,h2,_⟩|⟨r,h1,h2,_⟩|⟨q,r,h1,h2,_⟩
 .exact⟨.inl h1,.inl h2⟩
 .exact⟨.inr ⟨q,h1⟩,.inl h2⟩
 .exact⟨.inl h1,.inr ⟨r,h2⟩⟩
 .exact⟨.inr ⟨q,h1⟩,.inr ⟨r,h2⟩⟩
noncomputable def Zl2 (f:Nat->Int) (p:Nat):Int:=if 0<=Ze2 f p then (p:Int)-Ze2 f p else 0
theorem Zkc {f:Nat->Int} (v:Int):∀S:List Nat,S.Pairwise (λa b=>f a<=f b)->∃A B,S=A++B/\(∀q∈A,f q<=v)/\∀q∈B,v<f q
 |[],_=>⟨[],[],rfl,λ_ h=>(nomatch h),λ_ h=>(nomatch h)⟩
 |q::r,h=>by
  have hr:=Jh.mp h
  by_cases z:f q<=v
  .obtain⟨A,B,e,h1,h2⟩:=Zkc v r hr.2
   refine⟨q::A,B,by rw[e];rfl,λx hx=>?_,h2⟩
   rcases Yi.mp hx with y|y
   .rw[y];exact z
   .exact h1 x y
  .refine⟨[],q::r,rfl,λ_ h=>(nomatch h),λx hx=>?_⟩
   rcases Yi.mp hx with y|y
   .rw[y];omega
   .have:=hr.1 x y;omega
theorem Zhn.mono {f:Nat->Int}{i:Nat}{S:List Nat} (h:Zhn f i S):S.Pairwise (λa b=>f a<=f b):=by
 refine List.Pairwise.imp_of_mem ?_ h.1
 intro a b ha hb hab
 exact((h.2 a).mp ha).2 b hab ((h.2 b).mp hb).1
theorem Zhu {J:It}{n:Nat}{g:TG}{tb:TS}{D:Ends}{σ:St}{H:Hp} (Pv:Nat->St->Hp->Prop) (h0:Pv 0 σ H) (hgo:∀i σ H,i<n->Pv i σ H->J.go i H) (hstop:∀σ H,Pv n σ H->J.stop n H)
  (hs:∀i x σ H H',i<n->Pv i σ H->J.yld i H x H'->g x σ H' fun σ2 H2=>tb {D with nx:=Pv (i+1),ct:=Pv (i+1),bk:=D.nx} σ2 H2) (hd:∀σ H,Pv n σ H->D.nx σ H):LoopR J g tb D σ H:=by
 refine⟨λi m σ H=>m=n-i/\i<=n/\Pv i σ H,⟨n,by simp,Yo _,h0⟩,?_⟩
 rintro i m σ H ⟨rfl,hi,p⟩
 by_cases hlt:i<n
 .exact .inr ⟨hgo i σ H hlt p,Pv (i+1),fun σ' H' p'=>⟨n-(i+1),⋯,rfl,hlt,p'⟩,λx H' y=>hs i x σ H H' hlt p y⟩
 .have:i=n:= ⋯
  subst this
  exact .inl ⟨hstop σ H p,hd σ H p⟩
noncomputable def eU (e:Addr->Bool):Value->Bool
 |.ref a=>e a
 |_=>false
theorem Zgb:∀{as:List Addr}{us:List Value},Vals (as.map V.ref) us->us=as.map Value.ref
 |[],_,.nil=>rfl
 |a::as,u::us,.cons r t=>by
  have hr:u=Value.ref a:=r
  rw[hr,Zgb t];rfl
end Lake
namespace PySem
open Sem (wp)
end PySem
namespace Lake
open PySem PySem.Spec PyProof.Rows PySem.W
section
variable {prog:Program}{w:World}{A:Around}{E:Value->Shared->Prop}{s:Shared}{z TI TO i1 i2 l1 l2:Addr}{k1 k2:Nat}{xs ys:Array Value}{a b:Value}
noncomputable def Zoi (h:Heap) (l:Addr):String:=match h.get? l with
 |some o=>if o.cls=.type "tuple" then "tuple_iterator" else "list_iterator"
 |none=>"list_iterator"
noncomputable abbrev zq1 (h:Heap) (l1:Addr):Heap:=h.push {cls:=.type (Zoi h l1),data:=.fields #[.ref l1,.int 0 0]}
noncomputable abbrev zq2 (h:Heap) (l1 l2:Addr):Heap:=(zq1 h l1).push {cls:=.type (Zoi (zq1 h l1) l2),data:=.fields #[.ref l2,.int 0 0]}
noncomputable abbrev zq3 (h:Heap) (l1 l2:Addr):Heap:=(zq2 h l1 l2).push {cls:=.type "tuple",data:=.seq #[.ref h.objs.size,.ref (zq1 h l1).objs.size]}
end
theorem cut_m1 (xs:List V):ZbL xs (some (-1)) none=xs.drop (xs.length-1):=by
 unfold ZbL HT.sIx
 cases xs with
 |nil=>simp
 |cons x r =>
  simp
  have e:(-1+((r.length:Int)+1)).toNat=r.length:= ⋯
  rw[e]
  exact List.take_of_length_le (by simp)
theorem ZaT {f:Nat->Int}{n p:Nat} (hp:p<n) {a b:Nat} (hb:b<n):ZL f a b p↔Ze2 f p<a/\a<=p/\p<=b/\(b:Int)<Zga f n p:=by
 obtain⟨hA,hB⟩:=Zft (ZdX (f:=f) hp)
 constructor
 .rintro⟨h1,h2,h3,h4⟩
  refine⟨?_,h1,h2,?_⟩
  .rcases hA with hA|⟨q,hA⟩
   .rw[Zfs hA];omega
   .rw[ZcG hA]
    by_cases z:q<a
    .omega
    .have:=h3 q ⋯ hA.1;have:=hA.2.1;omega
  .rcases hB with hB|⟨r,hB⟩
   .rw[Zg9 hB];omega
   .rw[ZeH hB]
    by_cases z:b<r
    .omega
    .have:=h4 r hB.1 ⋯;have:=hB.2.2.1;omega
 .rintro⟨h1,h2,h3,h4⟩
  refine⟨h2,h3,λq q1 q2=>?_,λq q1 q2=>?_⟩
  .rcases hA with hA|⟨r,hA⟩
   .exact hA q q2
   .rw[ZcG hA]at h1
    exact hA.2.2 q ⋯ q2
  .rcases hB with hB|⟨r,hB⟩
   .exact hB q q1 ⋯
   .rw[ZeH hB]at h4
    exact hB.2.2.2 q q1 ⋯
theorem Zjk {f:Nat->Int}{n p:Nat} (hp:p<n):-1<=Ze2 f p/\Ze2 f p<p/\(p:Int)<Zga f n p/\Zga f n p<=n:=by
 obtain⟨hA,hB⟩:=Zft (ZdX (f:=f) hp)
 have a1:-1<=Ze2 f p/\Ze2 f p<p:=by
  rcases hA with hA|⟨q,hA⟩
  .rw[Zfs hA];omega
  .rw[ZcG hA];have:=hA.1;omega
 have a2:(p:Int)<Zga f n p/\Zga f n p<=n:=by
  rcases hB with hB|⟨q,hB⟩
  .rw[Zg9 hB];omega
  .rw[ZeH hB];have:=hB.1;have:=hB.2.1;omega
 exact⟨a1.1,a1.2,a2.1,a2.2⟩
noncomputable def ZbO (T:List Int):Nat->Int->Prop
 |0,a=>a=-1
 |k+1,a=>a=-1\/(0<=a/\a<T.length/\ZbO T k (nth T a.toNat))
theorem Zk7 (T:List Int) (k:Nat):ZbO T k (-1):=by cases k<;>simp[ZbO]
theorem Zgz (T:List Int):∀k a,ZbO T k a->ZbO T (k+1) a
 |0,a,h=>.inl h
 |k+1,a,h=>by
  rcases h with h|⟨h1,h2,h3⟩
  .exact .inl h
  .exact .inr ⟨h1,h2,Zgz T k _ h3⟩
theorem ZmQ (T:List Int) {k m:Nat} (h:k<=m) {a:Int} (e:ZbO T k a):ZbO T m a:=by
 induction h with
 |refl=>exact e
 |step _ ih=>exact Zgz T _ _ ih
theorem ZgA {ns T:List Int} (hT:Zq ns T):∀d p,p<ns.length->dep (nth ns) ns.length p<=d->ZbO T (d+1) (p:Int)
 |d,p,hp,hd=>by
  have e:=hT.1
  refine .inr ⟨⋯,⋯,?_⟩
  have ep:((p:Int)).toNat=p:= ⋯
  rw[ep]
  rcases ZaE hT hp with z|⟨q,z,hq,_,hz⟩
  .rw[z];exact Zk7 T d
  .rw[z]
   cases d with
   |zero=>omega
   |succ d=>exact ZgA hT d q hq ⋯
theorem Zk8 {ns T:List Int} (hT:Zq ns T) {p:Nat} (hp:p<T.length):ZbO T T.length (nth T p):=by
 have e:=hT.1
 have h:=ZgA hT (dep (nth ns) ns.length p) p ⋯ (Ye _)
 rcases h with h|⟨_,_,h⟩
 .omega
 .have ep:((p:Int)).toNat=p:= ⋯
  rw[ep]at h
  have:=Zk2 (f:=nth ns) (n:=ns.length) (p:=p) ⋯
  exact ZmQ T ⋯ h
theorem Zl3 {K:Frag}{Hx:Hp}{l q:Addr}{L:List Nat} (h1:Hx l=some (.lst (ZD L))) (h2:Hx q=some (.lst [])):EqD K Hx 3 (V.ref l) (V.ref q) (decide (L=[])):=by
 have hh:=Zg7 (n:=2) (K:=K) (H:=Hx) ZeF (V.ref l) (V.ref q) (L.map λ(q:Nat)=>(q:Int)) [] (Zbf (SqL.of (by rw[h1];simp[ZD,Function.comp_def]))) (Zbf (ns:=[]) (SqL.of h2))
 have e:decide (L.map (λ(q:Nat)=>(q:Int))=[])=decide (L=[]):=by cases L<;>simp
 rw[e]at hh;exact hh
noncomputable def CDivL (i j:Int):Prop:=0<j/\j<18446744073709551616
theorem Zhv {X:Cx}:OpR X (binaryOp .FloorDiv) (rI CDivL λi j=>.int (i / j)):=opI λi j _ _ _ _ _ hc q=>by
 have h1:(0:Int)<j:=hc.1
 have h2:j<18446744073709551616:=hc.2
 refine floordiv_int ⋯ (by rw[Int.fdiv_eq_ediv_of_nonneg i ⋯];exact q) (.inl (PyProof.noPylong_of_log2 ?_))
 have h3:j.natAbs<2 ^ 64:= ⋯
 have:j.natAbs.log2<64:=(Nat.log2_lt ⋯).mpr h3
 omega
end Lake
namespace Lake
theorem snoc_cases {α:Type} (xs:List α):xs=[]\/∃ys y,xs=ys++[y]:=by
 rcases List.eq_nil_or_concat xs with h|⟨ys,y,h⟩
 .exact .inl h
 .exact .inr ⟨ys,y,by rw[h,List.concat_eq_append]⟩
end Lake
namespace Lake
open PySem PySem.Spec PyProof.Rows PySem.W
theorem Zoj (xs:List V) {a c:Nat} (h1:a<=c) (h2:c<=xs.length):ZbL xs (some (a:Int)) (some (c:Int))=(xs.drop a).take (c-a):=by
 unfold ZbL
 rw[HT.ZlJ,HT.ZlJ,Nat.min_eq_left h2,Nat.min_eq_left (Yn h1 h2)]
theorem Zok (ns:List Int) {a c:Nat} (h1:a<=c) (h2:c<=ns.length):ZbL (ns.map V.int) (some (a:Int)) (some (c:Int))=(Zf8 ns a (c-a)).map V.int:=by
 rw[Zoj _ h1 (by simpa using h2)]
 unfold Zf8
 rw[List.map_take,List.map_drop]
noncomputable def sw (d:Int) (k:Nat):Int:=if d<=k then d else 0
theorem Zkd (f:Nat->Int) (p:Nat):(Zbk f p/\Zl2 f p=0)\/∃q,Z1 f p q/\Zl2 f p=(p:Int)-q:=by
 rcases Zjh f p with h|⟨q,h⟩
 .exact .inl ⟨h,by unfold Zl2;rw[Zfs h,Yb ⋯]⟩
 .exact .inr ⟨q,h,by unfold Zl2;rw[ZcG h,Yd ⋯]⟩
structure FunD (K:PySem.W.Frag) (x qual:Str) (st:Stmt) (f:Addr) (fd:FuncData) (dV:Value):Prop where
 ex:∃(oc:Value) (od:Option Addr) (kV doc pm:Value) (an:Option Addr) (cdv ct:Value) (osl:Array (Option Value)),
  fd=PySem.W.fnOf x qual (defArgs st) (defBody st) (defScope st) dV kV doc pm an cdv ct/\K.lookup f=some ⟨oc,od,.func fd,osl⟩/\PySem.W.codeIn K cdv qual=true
 kp:PySem.W.keepIn K (.ref f)=true
section
variable {P:Program}{w:World}{K:PySem.W.Frag}{mg:Str->Option Value}{base:Heap}
theorem FunD.okX {x qual:Str}{st:Stmt}{f:Addr}{fd:FuncData}{dV:Value}{N ps:List Str}{k:Nat}{sp:Sp} (F:FunD K x qual st f fd dV) (S:FnScope N ps (defScope st)) (len:∀vs H Q E,sp vs H Q E->vs.length=ps.length)
  (hbody:∀(cdv:Value) (A:Around) (outer:List Env) (s:Shared) (H:Hp) (vs:List V) (Q:VK) (E:XK),Room k (A.deeper (envOfC qual (defScope st) s.heap.objs.size f cdv))->sp vs H Q E ->
   ∃t,PSs (ZeX (CXE P w) P w K mg base N qual (defScope st) f cdv A outer s H E) (defBody st) t/\t {nx:=λ_ H'=>Q .non H',rt:=Q} (start N vs) H):FnOk P w K mg base (CXE P w) (k+1) f fd ps sp:=by
 obtain⟨oc,od,kV,doc,pm,an,cdv,ct,osl,rfl,lk,hcd⟩:=F.ex
 exact ZnQ lk hcd S len λA outer s H vs Q E hr hsp=>hbody cdv A outer s H vs Q E hr hsp
theorem FunD.binds {x qual:Str}{st:Stmt}{f:Addr}{fd:FuncData}{D:Addr}{ps:List Str}{ds:List Value}{oc:Value}{od:Option Addr}{items:Array Value}{ep:Nat}{sl:Array (Option Value)} (F:FunD K x qual st f fd (.ref D))
  (lk:K.lookup D=some ⟨oc,od,.seq items ep,sl⟩)
  (h:∀(kV doc pm:Value) (an:Option Addr) (cdv ct:Value) (us:List Value),(us++ds).length=ps.length->∃k,bindArgs (PySem.W.fnOf x qual (defArgs st) (defBody st) (defScope st) (.ref D) kV doc pm an cdv ct) ⟨us,[]⟩=seqItems? (.ref D) >>= k/\k (some items)=pure (ps.zip (us++ds))):Binds K fd ps ds:=by
 obtain⟨oc,od,kV,doc,pm,an,cdv,ct,osl,rfl,lf,hcd⟩:=F.ex
 intro s us KX hl
 obtain⟨k,h1,h2⟩:=h kV doc pm an cdv ct us hl
 exact BindsTo.of_defaults rfl (KX _ _ lk) rfl h1 h2
theorem Zrg {x qual:Str}{st:Stmt}{f:Addr}{oc:Value}{od an:Option Addr}{osl:Array (Option Value)}{dV kV doc pm cdv ct:Value} (l:K.lookup f=some ⟨oc,od,.func (PySem.W.fnOf x qual (defArgs st) (defBody st) (defScope st) dV kV doc pm an cdv ct),osl⟩)
  (c:PySem.W.codeIn K cdv qual=true) (k:PySem.W.keepIn K (.ref f)=true):FunD K x qual st f (PySem.W.fnOf x qual (defArgs st) (defBody st) (defScope st) dV kV doc pm an cdv ct) dV:=⟨⟨oc,od,kV,doc,pm,an,cdv,ct,osl,rfl,l,c⟩,k⟩
end
noncomputable def Zjl (P:Program) (w:World) (K:Frag) (mg:Str->Option Value) (base:Heap) (x:Str) (k:Nat) (ps:List Str) (dvs:List V) (sp:Sp):Prop :=
 ∃f fd ds,mg x=some (.ref f)/\keepIn K (.ref f)=true/\Binds K fd ps ds/\Vals dvs ds/\FnOk P w K mg base (CXE P w) k f fd ps sp
theorem ZmR {X:Cx}{x:Str}{k:Nat}{ps:List Str}{dvs:List V}{sp:Sp}{E:XK}{e:Expr}{es:List Expr}{t:TA}{p pos:Pos} (C:Zjl X.prog X.w X.K X.mg X.base x k ps dvs sp) (hr:Room k X.A) (hg:Gl X x) (hx:Passes (CXE X.prog X.w) X E)
  (ha:PA X (e::es) t) (hdb:(x==("__debug__":Str))=false:=by decide) (he:starEach (e::es) X.env=(false,eval e X.env)::starEach es X.env:=by rfl) (hpl:(backTo pos (starEach es X.env)).any (·.1)=false:=by rfl) :
  PE X (.Call (.Name x p) (e::es) [] pos) (tCall sp dvs E t):=by
 obtain⟨f,fd,ds,hm,hk,hb,hv,F⟩:=C
 exact ZlI F hr hg hm hk hb hv hx ha hdb he hpl
structure KindsOf (K:Frag) (mg:Str->Option Value) (C:Addr) (b:Nat->Bool):Prop where
 z:ExK K C
 k0:kitOne K (.ref C) (.ref (clsAt mg "Unlike"))=some (b 0)
 k1:kitOne K (.ref C) (.ref (clsAt mg "Empty"))=some (b 1)
 k2:kitOne K (.ref C) (.ref (clsAt mg "TooMany"))=some (b 2)
 k3:kitOne K (.ref C) (.ref (clsAt mg "NoTree"))=some (b 3)
 k4:kitOne K (.ref C) (.ref (clsAt mg "NoTelling"))=some (b 4)
 k5:kitOne K (.ref C) (.ref (clsAt mg "NoPlace"))=some (b 5)
 k6:kitOne K (.ref C) (.ref (clsAt mg "NoNumber"))=some (b 6)
 k7:kitOne K (.ref C) (.ref (clsAt mg "NoPast"))=some (b 7)
 k8:kitOne K (.ref C) (.ref (clsAt mg "NoText"))=some (b 8)
 k9:kitOne K (.ref C) (.ref (clsAt mg "NoLine"))=some (b 9)
 kd:kitOne K (.ref C) (.ref (clsAt mg "DipError"))=some true
 kv:kitOne K (.ref C) (.type "ValueError")=some true
theorem low_shift {f g:Nat->Int}{s n:Nat} (h:∀k,k<n->g k=f (s+k)) (a:Nat):∀c,a+c<n->Zf4 f (s+a) c=s+Zf4 g a c:=by
 intro c
 induction c with
 |zero=>intro _;rfl
 |succ c ih =>
  intro k
  have b:=(ZlZ g a c).2
  rw[Zf4,Zf4,ih ⋯,<-h (Zf4 g a c) ⋯,show s+a+c+1=s+(a+c+1) by omega,<-h (a+c+1) ⋯]
  split<;>rfl
noncomputable def TupsAt (H:Hp) (l:Addr) (rs:List (List Int)):Prop:=∃as:List Addr,H l=some (.lst (as.map V.ref))/\as.length=rs.length/\∀i (h1:i<as.length) (h2:i<rs.length),H as[i]=some (.tup (rs[i].map V.int))
theorem TupsAt.same {H H':Hp}{l:Addr}{rs:List (List Int)} (R:TupsAt H l rs) (s:Zd H H'):TupsAt H' l rs:=by
 obtain⟨as,h1,h2,h3⟩:=R
 exact⟨as,s _ _ h1,h2,λi i1 i2=>s _ _ (h3 i i1 i2)⟩
theorem TupsAt.nil {H:Hp}{l:Addr} (h:H l=some (.lst [])):TupsAt H l []:=⟨[],h,rfl,λi i1=>absurd i1 (by simp)⟩
theorem TupsAt.push {H:Hp}{l t:Addr}{rs:List (List Int)}{r:List Int}{as:List Addr} (e:H l=some (.lst (as.map V.ref))) (hl:as.length=rs.length) (h:∀i (h1:i<as.length) (h2:i<rs.length),H as[i]=some (.tup (rs[i].map V.int))) (ht:H t=some (.tup (r.map V.int))) :
  TupsAt (upd H l (.lst (as.map V.ref++[V.ref t]))) l (rs++[r]):=by
 refine⟨as++[t],by rw[Zc];simp,by simp[hl],λi i1 i2=>?_⟩
 have ne:∀(a:Addr) (xs:List V),H a=some (.tup xs)->a≠l:=λa xs h1 z=>by rw[z,e]at h1;cases h1
 by_cases z:i<as.length
 .have h3:=h i z ⋯
  rw[Jd z,Jd (show i<rs.length by omega),Zh (ne _ _ h3)]
  exact h3
 .have e1:i=as.length:=by simp at i1;omega
  subst e1
  rw[Zh (by simpa using ne _ _ ht)]
  simp[hl,ht]
noncomputable def Once (k:Nat) (ss ls:List Int):Prop:=ss=((List.range k).map λ(j:Nat)=>(j:Int)).filter (λj=>decide (j∉ls))/\ls=((List.range k).map λ(j:Nat)=>(j:Int)).filter (λj=>decide (j∈ls))
noncomputable instance (k:Nat) (ss ls:List Int):Decidable (Once k ss ls):=inferInstanceAs (Decidable (_/\_))
theorem TupsAt.walk {K:Frag}{H1:Hp}{d:Addr}{rs:List (List Int)} (R:TupsAt H1 d rs):(∀i H,Zd H1 H->i<rs.length->(Itl K d).go i H)/\(∀H,Zd H1 H->(Itl K d).stop rs.length H) /\
  ∀i x H H' (h:i<rs.length),Zd H1 H->(Itl K d).yld i H x H'->H'=H/\∃a,x=.ref a/\H a=some (.tup (rs[i].map V.int)):=by
 obtain⟨as,e,hl,hh⟩:=R
 refine⟨λi H s hi=>⟨_,V.ref (as[i]'⋯),SqL.of (s _ _ e),by simp[show i<as.length by omega]⟩,λH s=>⟨_,SqL.of (s _ _ e),by simp[hl]⟩,λi x H H' hi s y=>?_⟩
 obtain⟨e1,y⟩:=y
 have h1:=y _ (SqL.of (s _ _ e))
 rw[YG,Yf (show i<as.length by omega)]at h1
 cases h1
 exact⟨e1,_,rfl,s _ _ (hh i ⋯ hi)⟩
theorem TupsAt.sq {K:Frag}{H:Hp}{l:Addr}{rs:List (List Int)} (R:TupsAt H l rs):∃xs,SqL K H l xs:=by
 obtain⟨as,e,_⟩:=R
 exact⟨_,SqL.of e⟩
theorem ZiL {K:Frag}{H:Hp}{n:Nat}{a c:Addr}{xs:List V} (h1:H a=some (.lst xs)) (h2:H c=some (.lst [])):EqD K H (n+1) (.ref a) (.ref c) (decide (xs=[])):=by
 cases xs with
 |nil =>
  have:=EqD.lst (K:=K) (H:=H) (n:=n) (λ_=>true) (SqL.of h1) (SqL.of h2) rfl λj x y e1 e2=>by simp at e1
  simpa using this
 |cons x xs =>
  have:=EqD.len (K:=K) (H:=H) (n:=n) (SqL.of h1) (SqL.of h2) (by simp)
  simpa using this
theorem Zke {l m:List Int} (p:l.Perm m) (s:l.Pairwise (·<=·)) (t:m.Pairwise (·<=·)):l=m :=
 p.eq_of_pairwise (λa b _ _ h1 h2=>Int.le_antisymm h1 h2) s t
section
variable {N:Nat}{k:Nat->Int}{cmp:Nat->Nat->(Bool->Shared->Prop)->Shared->Prop}{s:Shared}{p:Array Nat}
noncomputable def kk (k:Nat->Int) (p:Array Nat) (i:Nat):Int:=k (p.getD i 0)
noncomputable def SoT (k:Nat->Int) (p:Array Nat) (m:Nat):Prop:=∀i j,i<=j->j<m->kk k p i<=kk k p j
noncomputable def DeT (k:Nat->Int) (p:Array Nat) (m:Nat):Prop:=∀i j,i<=j->j<m->kk k p j<=kk k p i
noncomputable def Bd (N:Nat) (p:Array Nat):Prop:=p.Perm (List.range N).toArray
theorem ZdZ {p q:Array Nat}{i j:Nat} (h:p[i]?=q[j]?):kk k p i=kk k q j:=by
 unfold kk;rw[YN,YN,h]
theorem Bd.size (h:Bd N p):p.size=N:=by
 have:=(Array.perm_iff_toList_perm.mp h).length_eq
 simpa using this
theorem Bd.lt (h:Bd N p) (hN:0<N) (i:Nat):p.getD i 0<N:=by
 rw[YN]
 by_cases hi:i<p.size
 .rw[getElem?_pos p i hi]
  have:=(Array.Perm.mem_iff h (a:=p[i])).mp (Array.getElem_mem hi)
  simpa using this
 .rw[getElem?_neg p i hi];exact hN
theorem Bd.rev (h:Bd N p) (i j:Nat):Bd N (kas_rev p i j):=(mirror_perm p i j _).trans h
theorem Bd.bub (h:Bd N p) (i j:Nat):Bd N (bubble p i j):=(bubble_perm p i j).trans h
theorem Zk9 {i j:Nat} (hj:j<=p.size) (x:Nat):kk k (kas_rev p i j) x=if i<=x/\x<j then kk k p (i+j-1-x)else kk k p x:=by
 have e:=getElem?_mirror_all (xs:=p) (i:=i) hj x
 by_cases h:i<=x/\x<j
 .rw[Yd h]at e⊢;exact ZdZ e
 .rw[Yb h]at e⊢;exact ZdZ e
theorem Zgc {i j:Nat} (hj:j<=p.size) (heq:∀x,i<=x->x<j->kk k p x=kk k p (j-1)) (x:Nat):kk k (kas_rev p i j) x=kk k p x:=by
 rw[Zk9 hj]
 split
 .rw[heq _ ⋯ ⋯,heq x ⋯ ⋯]
 .rfl
theorem Zol {src d:Nat} (hs:src<p.size) (hd:d<=src) (x:Nat):kk k (bubble p src d) x=if x=src-d then kk k p src else if src-d<x/\x<=src then kk k p (x-1)else kk k p x:=by
 have e:=getElem?_bubble hs d hd x
 by_cases h1:x=src-d
 .rw[Yd h1]at e⊢;exact ZdZ e
 .rw[Yb h1]at e⊢
  by_cases h2:src-d<x/\x<=src
  .rw[Yd h2]at e⊢;exact ZdZ e
  .rw[Yb h2]at e⊢;exact ZdZ e
noncomputable def ZeO (N:Nat) (k:Nat->Int) (cmp:Nat->Nat->(Bool->Shared->Prop)->Shared->Prop) (s:Shared):Prop:=∀i j C,i<N->j<N->C (decide (k i<k j)) s->cmp i j C s
theorem SoT.next {m:Nat} (h:SoT k p m) (h1:1<=m) (h2:kk k p (m-1)<=kk k p m):SoT k p (m+1):=by
 intro i j hij hj
 by_cases e:j=m
 .subst e
  by_cases e2:i=j
  .rw[e2];exact Int.le_refl _
  .exact Int.le_trans (h i (j-1) ⋯ ⋯) h2
 .exact h i j hij ⋯
theorem DeT.next {m:Nat} (h:DeT k p m) (h1:1<=m) (h2:kk k p m<=kk k p (m-1)):DeT k p (m+1):=by
 intro i j hij hj
 by_cases e:j=m
 .subst e
  by_cases e2:i=j
  .rw[e2];exact Int.le_refl _
  .exact Int.le_trans h2 (h i (j-1) ⋯ ⋯)
 .exact h i j hij ⋯
theorem Zla (hc:ZeO N k cmp s) (hN:0<N) (hB:Bd N p) {Q:Nat->Shared->Prop}:∀f n,1<=n->SoT k p n->(∀m,n<=m->m<=n+f->SoT k p m->(m<n+f->kk k p m<kk k p (m-1))->Q m s)->(kas_asc p f n).kasWp cmp Q s
 |0,n,h1,hS,h=>h n (Ye _) ⋯ hS (λz=>⋯)
 |f+1,n,h1,hS,h=>by
  refine hc _ _ _ (hB.lt hN n) (hB.lt hN (n-1)) ?_
  by_cases z:kk k p n<kk k p (n-1)
  .have:decide (k (p.getD n 0)<k (p.getD (n-1) 0))=true:=Yu z
   rw[this]
   exact h n (Ye _) ⋯ hS λ_=>z
  .have:decide (k (p.getD n 0)<k (p.getD (n-1) 0))=false:=Yt z
   rw[this]
   exact Zla hc hN hB f (n+1) ⋯ (hS.next h1 ⋯) λm m1 m2 hm hl=>h m ⋯ ⋯ hm λy=>hl ⋯
theorem Zha (hc:ZeO N k cmp s) (hN:0<N) {Q:Array Nat×Nat×Nat->Shared->Prop}:∀f (p:Array Nat) n q,Bd N p->1<=n->n+f<=N->q<n->DeT k p n->(∀x,n-(q+1)<=x->x<n->kk k p x=kk k p (n-1)) ->
  (∀p' n' q',Bd N p'->n<=n'->n'<=n+f->q'<n'->DeT k p' n'->(∀x,n'-(q'+1)<=x->x<n'->kk k p' x=kk k p' (n'-1))->Q (p',n',q') s)->(kas_desc f p n q).kasWp cmp Q s
 |0,p,n,q,hB,h1,hn,hq,hD,he,h=>h p n q hB (Ye _) ⋯ hq hD he
 |f+1,p,n,q,hB,h1,hn,hq,hD,he,h=>by
  refine hc _ _ _ (hB.lt hN n) (hB.lt hN (n-1)) ?_
  have hz:=hB.size
  by_cases z:kk k p n<kk k p (n-1)
  .have:decide (k (p.getD n 0)<k (p.getD (n-1) 0))=true:=Yu z
   rw[this]
   show KasT.kasWp cmp (if q>0 then kas_desc f (kas_rev p (n-(q+1)) n) (n+1) 0 else kas_desc f p (n+1) 0) Q s
   by_cases y:q>0
   .rw[Yd y]
    have ke:=Zgc (k:=k) (p:=p) (i:=n-(q+1)) (j:=n) ⋯ he
    refine Zha hc hN f _ (n+1) 0 (hB.rev _ _) ⋯ ⋯ ⋯ ?_ (λx x1 x2=>by rw[show x=n+1-1 by omega]) λp' n' q' b1 b2 b3=>h p' n' q' b1 ⋯ ⋯
    refine DeT.next (λi j i1 j1=>by rw[ke,ke];exact hD i j i1 j1) h1 (by rw[ke,ke];omega)
   .rw[Yb y]
    exact Zha hc hN f p (n+1) 0 hB ⋯ ⋯ ⋯ (hD.next h1 ⋯) (λx x1 x2=>by rw[show x=n+1-1 by omega]) λp' n' q' b1 b2 b3=>h p' n' q' b1 ⋯ ⋯
  .have:decide (k (p.getD n 0)<k (p.getD (n-1) 0))=false:=Yt z
   rw[this]
   refine hc _ _ _ (hB.lt hN (n-1)) (hB.lt hN n) ?_
   by_cases y:kk k p (n-1)<kk k p n
   .have:decide (k (p.getD (n-1) 0)<k (p.getD n 0))=true:=Yu y
    rw[this]
    exact h p n q hB (Ye _) ⋯ hq hD he
   .have:decide (k (p.getD (n-1) 0)<k (p.getD n 0))=false:=Yt y
    rw[this]
    have e:kk k p n=kk k p (n-1):= ⋯
    refine Zha hc hN f p (n+1) (q+1) hB ⋯ ⋯ ⋯ (hD.next h1 ⋯) (λx x1 x2=>?_) λp' n' q' b1 b2 b3=>h p' n' q' b1 ⋯ ⋯
    rw[Nat.add_sub_cancel]
    by_cases w:x=n
    .rw[w]
    .rw[e];exact he x ⋯ ⋯
theorem Zkf (hc:ZeO N k cmp s) (hN:0<N) {Q:Nat×Array Nat->Shared->Prop}{n nrem:Nat} (hB:Bd N p) (h1:1<=n) (hn:n<=nrem) (hr:nrem<=N) (hD:DeT k p n)
  (h:∀m p',Bd N p'->n<=m->m<=nrem->SoT k p' m->Q (m,p') s):(kas_tail3 n nrem p).kasWp cmp Q s:=by
 unfold kas_tail3
 rw[KasT.kasWp_bind]
 have hz:=hB.size
 refine Zla hc hN (hB.rev 0 n) _ n h1 (λi j hij hj=>?_) λm m1 m2 hS _=>h m _ (hB.rev 0 n) m1 ⋯ hS
 rw[Zk9 ⋯,Zk9 ⋯,Yd ⋯,Yd ⋯]
 exact hD _ _ ⋯ ⋯
theorem ZgB (hc:ZeO N k cmp s) (hN:0<N) {Q:Nat×Array Nat->Shared->Prop}{n nrem:Nat} (hB:Bd N p) (hn:n+1<=nrem) (hr:nrem<=N) (hD:DeT k p (n+1))
  (h:∀m p',Bd N p'->1<=m->m<=nrem->SoT k p' m->Q (m,p') s):(kas_descPart n nrem p).kasWp cmp Q s:=by
 unfold kas_descPart
 rw[KasT.kasWp_bind]
 refine Zha hc hN _ p (n+1) 0 hB ⋯ ⋯ ⋯ hD (λx x1 x2=>by rw[show x=n+1-1 by omega]) λp' n' q' b1 b2 b3 b4 hD' he=>?_
 show KasT.kasWp cmp (if q'>0 then kas_tail3 n' nrem (kas_rev p' (n'-(q'+1)) n')else kas_tail3 n' nrem p') Q s
 have hz:=b1.size
 by_cases y:q'>0
 .rw[Yd y]
  have ke:=Zgc (k:=k) (p:=p') (i:=n'-(q'+1)) (j:=n') ⋯ he
  exact Zkf hc hN (b1.rev _ _) ⋯ ⋯ hr (λi j i1 j1=>by rw[ke,ke];exact hD' i j i1 j1) λm p2 c1 c2 c3=>h m p2 c1 ⋯ c3
 .rw[Yb y]
  exact Zkf hc hN b1 ⋯ ⋯ hr hD' λm p2 c1 c2 c3=>h m p2 c1 ⋯ c3
theorem Zom (hc:ZeO N k cmp s) (hN:0<N) {Q:Nat×Array Nat->Shared->Prop}{nrem:Nat} (hB:Bd N p) (h0:1<=nrem) (hr:nrem<=N)
  (h:∀m p',Bd N p'->1<=m->m<=nrem->SoT k p' m->Q (m,p') s):(kas_count nrem p).kasWp cmp Q s:=by
 unfold kas_count
 rw[KasT.kasWp_bind]
 have hz:=hB.size
 refine Zla hc hN hB _ 1 (Ye _) (λi j hij hj=>by rw[show i=j by omega];exact Int.le_refl _) λn n1 n2 hS hl=>?_
 by_cases e:(n==nrem)=true
 .rw[Yd e]
  exact h n p hB n1 ⋯ hS
 .rw[Yb e]
  have ne:n≠nrem:=λz=>e (by rw[z];exact beq_self_eq_true _)
  have hlt:=hl ⋯
  by_cases y:n>1
  .rw[Yd y]
   refine hc _ _ _ (hB.lt hN 0) (hB.lt hN (n-1)) ?_
   by_cases z:kk k p 0<kk k p (n-1)
   .have:decide (k (p.getD 0 0)<k (p.getD (n-1) 0))=true:=Yu z
    rw[this]
    exact h n p hB n1 ⋯ hS
   .have:decide (k (p.getD 0 0)<k (p.getD (n-1) 0))=false:=Yt z
    rw[this]
    have alle:∀x,0<=x->x<n->kk k p x=kk k p (n-1):=λx _ hx=>by
     have a:=hS 0 x ⋯ hx
     have b:=hS x (n-1) ⋯ ⋯
     omega
    have ke:=Zgc (k:=k) (p:=p) (i:=0) (j:=n) ⋯ alle
    refine ZgB hc hN (hB.rev 0 n) ⋯ hr (DeT.next (λi j i1 j1=>?_) ⋯ (by rw[ke,ke];omega)) h
    rw[ke,ke,alle i ⋯ ⋯,alle j ⋯ ⋯]
    exact Int.le_refl _
  .rw[Yb y]
   have:n=1:= ⋯
   subst this
   exact ZgB hc hN hB ⋯ hr (DeT.next (λi j i1 j1=>by rw[show i=j by omega];exact Int.le_refl _) (Ye _) ⋯) h
theorem Zhw (hc:ZeO N k cmp s) (hN:0<N) (hB:Bd N p) {x:Nat}{Q:Nat->Shared->Prop} (hS:SoT k p x):∀f l r,l<=r->r<=x->r-l<=f->(∀i,i<l->kk k p i<=kk k p x)->(∀i,r<=i->i<x->kk k p x<kk k p i) ->
  (∀l,l<=x->(∀i,i<l->kk k p i<=kk k p x)->(∀i,l<=i->i<x->kk k p x<kk k p i)->Q l s)->(kas_place p x f l r).kasWp cmp Q s
 |0,l,r,h1,h2,h3,hlo,hhi,h=>h l ⋯ hlo (λi i1 i2=>hhi i ⋯ i2)
 |f+1,l,r,h1,h2,h3,hlo,hhi,h=>by
  show KasT.kasWp cmp (if l ≥ r then .ret l else .ask (p.getD x 0) (p.getD ((l+r) / 2) 0) λc=>if c=true then kas_place p x f l ((l+r) / 2)else kas_place p x f ((l+r) / 2+1) r) Q s
  by_cases y:l ≥ r
  .rw[Yd y]
   exact h l ⋯ hlo (λi i1 i2=>hhi i ⋯ i2)
  .rw[Yb y]
   refine hc _ _ _ (hB.lt hN x) (hB.lt hN _) ?_
   by_cases z:kk k p x<kk k p ((l+r) / 2)
   .have:decide (k (p.getD x 0)<k (p.getD ((l+r) / 2) 0))=true:=Yu z
    rw[this]
    exact Zhw hc hN hB hS f l ((l+r) / 2) ⋯ ⋯ ⋯ hlo (λi i1 i2=>Int.lt_of_lt_of_le z (hS _ _ i1 i2)) h
   .have:decide (k (p.getD x 0)<k (p.getD ((l+r) / 2) 0))=false:=Yt z
    rw[this]
    exact Zhw hc hN hB hS f ((l+r) / 2+1) r ⋯ ⋯ ⋯ (λi i1=>Int.le_trans (hS i ((l+r) / 2) ⋯ ⋯) (Int.not_lt.mp z)) hhi h
theorem Zon (hc:ZeO N k cmp s) (hN:0<N) {Q:Array Nat->Shared->Prop}:∀f (p:Array Nat) x,Bd N p->x+f<=N->SoT k p x->(∀p',Bd N p'->SoT k p' (x+f)->Q p' s)->(kas_bin f p x).kasWp cmp Q s
 |0,p,x,hB,hx,hS,h=>h p hB hS
 |f+1,p,x,hB,hx,hS,h=>by
  show KasT.kasWp cmp ((kas_place p x x 0 x).bind λl=>kas_bin f (bubble p x (x-l)) (x+1)) Q s
  rw[KasT.kasWp_bind]
  have hz:=hB.size
  refine Zhw hc hN hB hS x 0 x ⋯ (Ye _) ⋯ (λi hi=>⋯) (λi i1 i2=>⋯) λl hl hlo hhi=>?_
  refine Zon hc hN f _ (x+1) (hB.bub _ _) ⋯ (λi j hij hj=>?_) λp' b1 b2=>h p' b1 (by rw[show x+(f+1)=x+1+f by omega];exact b2)
  rw[Zol ⋯ ⋯,Zol ⋯ ⋯,show x-(x-l)=l by omega]
  repeat' split
  all_goals first
   |(exfalso;omega)
   |exact Int.le_refl _
   |exact hlo _ ⋯
   |exact Int.le_of_lt (hhi _ ⋯ ⋯)
   |exact hS _ _ ⋯ ⋯
theorem Zrh (hN:0<N) (hc:ZeO N k cmp s) {Q:Array Nat->Shared->Prop} (h:∀p,Bd N p->SoT k p N->Q p s):(kas_sort N).kasWp cmp Q s:=by
 unfold kas_sort
 rw[KasT.kasWp_bind]
 refine Zom hc hN (show Bd N (List.toArray (List.range N))from Array.Perm.refl _) ⋯ (Ye _) λm p' b1 b2 b3 b4=>?_
 show KasT.kasWp cmp (if m<N then kas_bin (N-max m 1) p' (max m 1)else .ret p') Q s
 by_cases y:m<N
 .rw[Yd y]
  have e:max m 1=m:= ⋯
  rw[e]
  exact Zon hc hN _ p' m b1 ⋯ b4 λp2 c1 c2=>h p2 c1 (by rw[show m+(N-m)=N by omega]at c2;exact c2)
 .rw[Yb y]
  have:m=N:= ⋯
  subst this
  exact h p' b1 b4
end
section
variable {prog:Program}{w:World}{E:Value->Shared->Prop}{s:Shared}
noncomputable def ZgC (vs:List Value) (p:Array Nat):Array Value:=List.toArray (p.toList.map λi=>vs.getD i Value.none)
theorem Zlb {A:Around}{κ:SortKind}{key:Nat->Int}{a:Addr}{vs:List Value}{n:Nat}{P:PySem.Fin->Shared->Prop} (ho:s.heap.get? a=some (seqObj "list" vs.toArray n)) (h64:vs.length<64)
  (hk:∀s':Shared,(∀b o,b≠a->s.heap.get? b=some o->s'.heap.get? b=some o)->2<=vs.length->(∀Q:SortKind->Shared->Prop,Q κ s'->wpAny (model prog w) A (keyKind' vs.toArray) Q E s')/\ZeO vs.length key (kas_ask prog w A κ vs) s')
  (fin:∀p:Array Nat,Bd vs.length p->SoT key p vs.length->P (.done (.ret .none)) {s with heap:=sortedHeap s.heap a vs (ZgC vs p)}):wpAny (model prog w) A (Builtin.«list.sort» ⟨[.ref a],[]⟩) P E s:=by
 have lt:=Yj ho
 obtain⟨c1,oc1⟩:∃c1,(s.heap.update a (Obj.mapSeq λ_=>#[])).get? a=some (seqObj "list" #[] c1):=⟨_,get?_update_seq ho λ_=>#[]⟩
 have oc6:(((s.heap.update a (Obj.mapSeq λ_=>#[])).push (seqObj "tuple" vs.toArray 0)).push (seqObj "list" #[] 0)).get? a=some (seqObj "list" #[] c1):=Yk _ (Yk _ oc1)
 have kp:∀b o,b≠a->s.heap.get? b=some o->(((s.heap.update a (Obj.mapSeq λ_=>#[])).push (seqObj "tuple" vs.toArray 0)).push (seqObj "list" #[] 0)).get? b=some o:=λb o nb e =>
  Yk _ (Yk _ (by rw[Heap.get?_update_ne _ _ _ _ nb];exact e))
 have z1:vs.toArray.size=vs.length:=Yp ..
 have za:∀p:Array Nat,Bd vs.length p->(ZgC vs p).size<=sizeLine:=λp hp=>by
  have:=hp.size
  unfold ZgC
  rw[Yp,Yh,Ys,this,sizeLine_eq];omega
 rw[list_sort_plain]
 have hob:=ho
 refine Ya (listItems_at hob rfl (Ya ?_))
 refine listUpdate_at hob rfl (Ya (seqEpoch_at oc1 rfl (Ya ?_))) (by rw[z1,sizeLine_eq];omega) (Yo _)
 refine wpAny_newTuple (Ya ?_) (Yn (show vs.length<=64 by omega) nofun)
 refine wpAny_newList (YE ?_) (Yo _)
 show wpAny (model prog w) A _ P E {s with heap:=(((s.heap.update a (Obj.mapSeq λ_=>#[])).push (seqObj "tuple" vs.toArray 0)).push (seqObj "list" #[] 0))}
 dsimp only
 by_cases h2:vs.toArray.size<2
 .rw[Yd h2,Yd h2]
  refine Ya (Yc ?_)
  rw[StateT.run_pure]
  refine Ya (Yc ?_)
  have hB:Bd vs.length (List.range vs.length).toArray:=Array.Perm.refl _
  have e:=kas_range (vs.toArray.zip vs.toArray)
  rw[show(vs.toArray.zip vs.toArray).size=vs.length by simp]at e
  have eo:(arrOf (SortSt.mk' general' (vs.toArray.zip vs.toArray) #[] 7 none)).map (·.2)=ZgC vs (List.range vs.length).toArray:=kat_snds (ks:=vs) (vs:=vs) rfl e.symm
  dsimp only
  rw[eo]
  refine Ya (seqEpoch_at oc6 rfl (Ya (listUpdate_at oc6 rfl ?_ (Yo _) (Nat.le_succ_of_le (za _ hB)))))
  simp only[bne_self_eq_false,Bool.false_eq_true,if_false]
  exact Yc (fin _ hB λi j h1 hj=>by rw[show i=j by omega];exact Int.le_refl _)
 .rw[Yb h2,Yb h2]
  have h2':2<=vs.length:= ⋯
  obtain⟨hk1,hk2⟩:=hk {s with heap:=(((s.heap.update a (Obj.mapSeq λ_=>#[])).push (seqObj "tuple" vs.toArray 0)).push (seqObj "list" #[] 0))} kp h2'
  refine Ya (hk1 _ (Ya (YM (kat_run (ks:=vs) (vs:=vs) (Q:=λst s'=>∃p:Array Nat,Bd vs.length p/\SoT key p vs.length/\arrOf st=p.map (kas_item (vs.toArray.zip vs.toArray))/\failedOf st=none/\s'={s with heap:=(((s.heap.update a (Obj.mapSeq λ_=>#[])).push (seqObj "tuple" vs.toArray 0)).push (seqObj "list" #[] 0))})
   (G:=λp s'=>Bd vs.length p/\SoT key p vs.length/\s'={s with heap:=(((s.heap.update a (Obj.mapSeq λ_=>#[])).push (seqObj "tuple" vs.toArray 0)).push (seqObj "list" #[] 0))}) rfl h2' h64 (λp st s' _ a2 a3 a4=>⟨p,a4.1,a4.2.1,a2,a3,a4.2.2⟩) (Zrh ⋯ hk2 λp b1 b2=>⟨b1,b2,rfl⟩)) ?_ λ_ _ z=>z)))
  rintro⟨⟨⟩,st⟩ s' ⟨p,b1,b2,har,hf,rfl⟩
  have eo:(arrOf st).map (·.2)=ZgC vs p:=kat_snds (ks:=vs) (vs:=vs) rfl har
  dsimp only
  rw[eo]
  refine Ya (seqEpoch_at oc6 rfl (Ya (listUpdate_at oc6 rfl ?_ (Yo _) (Nat.le_succ_of_le (za _ b1)))))
  rw[hf]
  simp only[bne_self_eq_false,Bool.false_eq_true,if_false]
  exact Yc (fin p b1 b2)
theorem Zri {A:Around}{κ:SortKind}{key:Nat->Int}{l:Addr}{vs:List Value}{Q:Value->Shared->Prop} (hl:s.heap.IsList l vs.toArray) (h64:vs.length<64)
  (hk:∀(A':Around) (E':Value->Shared->Prop) (s':Shared),(∀b o,s.heap.get? b=some o->s'.heap.get? b=some o)->2<=vs.length->(∀Q:SortKind->Shared->Prop,Q κ s'->wpAny (model prog w) A' (keyKind' vs.toArray) Q E' s')/\ZeO vs.length key (kas_ask prog w A' κ vs) s')
  (fin:∀p:Array Nat,Bd vs.length p->SoT key p vs.length->Q (.ref (s.heap.objs.size+1)) {s with heap:=sortedAll s.heap vs (ZgC vs p)}):wpAny (model prog w) A (call (.builtin "sorted") [.ref l]) Q E s:=by
 refine Calls.call_function_entry kind_sorted plain_sorted entry_sorted (args_sorted1 _) ?_
 unfold Builtin.«sorted»
 refine Ya (m:=checkCount "sorted" 1 1 _) (Yc (Ya (collect_list hl (Ya (wpAny_newList ?_ (by rw[sizeLine_eq];omega))) (by rw[sizeLine_eq];omega))))
 have z5:((s.heap.push (seqObj "list" #[] 0)).update s.heap.objs.size (Obj.mapSeq (·++vs.toArray))).objs.size=s.heap.objs.size+1:=(Heap.size_update ..).trans (size_push' ..)
 have o5:(((s.heap.push (seqObj "list" #[] 0)).update s.heap.objs.size (Obj.mapSeq (·++vs.toArray))).push (seqObj "list" vs.toArray 0)).get? (s.heap.objs.size+1)=some (seqObj "list" vs.toArray 0):=z5▸Yv _ rfl
 have kp:∀b o,s.heap.get? b=some o->(((s.heap.push (seqObj "list" #[] 0)).update s.heap.objs.size (Obj.mapSeq (·++vs.toArray))).push (seqObj "list" vs.toArray 0)).get? b=some o:=λb o e=>by
  have hlt:=Yj e
  refine Yk _ ?_
  rw[Heap.get?_update_ne _ _ _ _ (Yl hlt)]
  exact Yk _ e
 show wpAny _ _ _ _ _ {s with heap:=(((s.heap.push (seqObj "list" #[] 0)).update s.heap.objs.size (Obj.mapSeq (·++vs.toArray))).push (seqObj "list" vs.toArray 0))}
 rw[z5]
 refine Ya (YE (wpAny_call_entry slot_list_sort ⟨_,o5,rfl⟩ entry_list_sort (Zlb (κ:=κ) (key:=key) o5 h64 (λs' k6 h2=>hk _ _ s' (λb o e=>k6 b o (Yl (YR (Yj e))) (kp b o e)) h2) λp b1 b2=>⟨_,rfl,?_⟩) (args_list_sort _)))
 exact Yc ⟨_,rfl,fin p b1 b2⟩
noncomputable def Pr (h:Heap) (v:Value) (x y:Int):Prop:=∃a o n t u,v=.ref a/\h.get? a=some o/\o.cls=.type "tuple"/\o.data=.seq #[.int x t,.int y u] n
theorem Pr.keep {h h':Heap}{v:Value}{x y:Int} (p:Pr h v x y) (k:∀b o,h.get? b=some o->h'.get? b=some o):Pr h' v x y:=by
 obtain⟨a,o,n,t,u,e,g,r⟩:=p
 exact⟨a,o,n,t,u,e,k _ _ g,r⟩
theorem Zl4 {h:Heap}:∀{vs:List Value},(∀v∈vs,∃x y,Pr h v x y)->∃fs,KatTups h vs fs/\fs.length=vs.length/\∀f∈fs,∃x t,f=Value.int x t
 |[],_=>⟨[],trivial,rfl,λf hf=>by cases hf⟩
 |v::vs,hv=>by
  obtain⟨fs,h1,h2,h3⟩:=Zl4 (λu hu=>hv u (Yz _ hu))
  obtain⟨x,y,a,o,n,t,u,rfl,e,c,d⟩:=hv v Yy
  refine⟨.int x t::fs,KatTups.cons e c d rfl h1,by simp[h2],λf hf=>?_⟩
  rcases Yi.mp hf with rfl|hf
  .exact⟨x,t,rfl⟩
  .exact h3 f hf
theorem Zlc {A:Around}{vs:List Value}{Q:SortKind->Shared->Prop} (h2:2<=vs.length) (hv:∀v∈vs,∃x y,Pr s.heap v x y) (h:Q (tuples' true) s):wpAny (model prog w) A (keyKind' vs.toArray) Q E s:=by
 obtain⟨fs,h1,hl,h3⟩:=Zl4 hv
 refine kat_kind h1 ⋯ (T:=.type "int") (λf hf=>?_) nofun ?_
 .obtain⟨x,t,rfl⟩:=h3 f hf
  exact .now
 .rw[show(Value.type "int" != Value.type "tuple")=true by decide];exact h
theorem Zoo {A:Around}{v v':Value}{x y x' y':Int}{C:Bool->Shared->Prop} (p:Pr s.heap v x y) (p':Pr s.heap v' x' y') (h:C (decide (x<x'\/(x=x'/\y<y'))) s):wpAny (model prog w) A (keyLt' (tuples' true) v v') C E s:=by
 obtain⟨a,o,n,t,u,rfl,e,c,d⟩:=p
 obtain⟨a',o',n',t',u',rfl,e',c',d'⟩:=p'
 refine kat_lt e d e' d' ?_
 show KatLex prog w A true _ C [(.int x t,.int x' t'),(.int y u,.int y' u')] 0 s
 refine kat_cons (wpAny_eqBool_int ?_)
 by_cases ex:x=x'
 .rw[show(x==x')=true from beq_iff_eq.mpr ex]
  refine kat_yes (kat_cons (wpAny_eqBool_int ?_))
  by_cases ey:y=y'
  .rw[show(y==y')=true from beq_iff_eq.mpr ey]
   refine kat_yes (kat_nil ?_)
   have:decide (x<x'\/(x=x'/\y<y'))=false:=Yt ⋯
   rw[this]at h
   exact h
  .rw[show(y==y')=false from beq_eq_false_iff_ne.mpr ey]
   refine kat_no (kat_one _ _ (PyProof.Rows.lt_int (show C (decide (y<y')) s from ?_)))
   have:decide (x<x'\/(x=x'/\y<y'))=decide (y<y'):=decide_eq_decide.mpr ⋯
   rw[this]at h
   exact h
 .rw[show(x==x')=false from beq_eq_false_iff_ne.mpr ex]
  refine kat_no (oneLt_int ?_)
  have:decide (x<x'\/(x=x'/\y<y'))=decide (x<x'):=decide_eq_decide.mpr ⋯
  rw[this]at h
  exact h
end
section
variable {X:Cx}
noncomputable def ZcH (r:List Int):Int:=r.getD 0 0*100000+r.getD 1 0
noncomputable def rSortT (K:Frag):List V->Hp->VK->Prop:=λxs H Q=>∃(p:Addr) (rs:List (List Int)),xs=[.ref p]/\TupsAt H p rs/\(∀r∈rs,∃x y,r=[x,y]/\0<=y/\y<100000)/\rs.length<64/\∀(rs':List (List Int)) (l:Addr) (H':Hp),rs'.Perm rs->rs'.Pairwise (λr r'=>ZcH r<=ZcH r')->H l=none->Zd H H'->TupsAt H' l rs'->Q (.ref l) H'
theorem Zjm {K:Frag} (hK:X.K=K):Zax X (.builtin "sorted") (rSortT K):=by
 subst hK
 intro pins s σ H xs us Q I r h
 obtain⟨p,rs,rfl,⟨as,hp,hla,hT⟩,hR,hn,q⟩:=h
 obtain⟨u,rfl,ru⟩:=r.one
 cases(show u=Value.ref p from ru)
 obtain⟨its,rv,pl,hz⟩:=I.list (SqL.of hp)
 have hl:its.length=rs.length:=by have:=rv.length;rw[Yh]at this;omega
 have hits:∀i (h1:i<its.length) (h2:i<as.length),its[i]=Value.ref as[i]:=λi h1 h2=>by
  obtain⟨v,e1,e2⟩:=rv.get (i:=i) (x:=V.ref as[i]) (by rw[YG,Yf h2];rfl)
  rw[Yf h1]at e1
  cases e1
  exact e2
 have hPr:∀i (h1:i<its.length) (h2:i<rs.length),∃x y,rs[i]=[x,y]/\0<=y/\y<100000/\Pr s.heap its[i] x y:=λi h1 h2=>by
  obtain⟨x,y,e,y0,y1⟩:=hR _ (YK h2)
  obtain⟨_,tv,hv,o,g,c,n,d⟩:=I.hok _ _ (hT i ⋯ h2)
  rw[e]at hv
  obtain⟨v1,v2,rfl,⟨t1,rfl⟩,⟨t2,rfl⟩⟩:=hv.two
  exact⟨x,y,e,y0,y1,as[i]'⋯,o,n,t1,t2,hits i h1 ⋯,g,c,d⟩
 have hPm:∀v∈its,∃x y,Pr s.heap v x y:=λv hv=>by
  obtain⟨i,h1,rfl⟩:=YU hv
  obtain⟨x,y,_,_,_,hp⟩:=hPr i h1 ⋯
  exact⟨x,y,hp⟩
 refine Zri (κ:=tuples' true) (key:=λi=>ZcH (rs.getD i [])) pl.isList ⋯ (λA' E' s' kp h2=>⟨λQ' hq=>Zlc h2 (λv hv=>?_) hq,λi j C hi hj hC=>?_⟩) λp' hB hS=>?_
 .obtain⟨x,y,hp⟩:=hPm v hv
  exact⟨x,y,hp.keep kp⟩
 .obtain⟨x,y,e,y0,y1,hp1⟩:=hPr i hi ⋯
  obtain⟨x',y',e',y0',y1',hp2⟩:=hPr j hj ⋯
  unfold kas_ask
  rw[show its.getD i Value.none=its[i] by simp[hi],show its.getD j Value.none=its[j] by simp[hj]]
  refine Zoo (hp1.keep kp) (hp2.keep kp) ?_
  have ei:ZcH (rs.getD i [])=x*100000+y:=by simp[ZcH,Yg,show i<rs.length by omega,e]
  have ej:ZcH (rs.getD j [])=x'*100000+y':=by simp[ZcH,Yg,show j<rs.length by omega,e']
  have:decide (ZcH (rs.getD i [])<ZcH (rs.getD j []))=decide (x<x'\/(x=x'/\y<y')):=by rw[ei,ej];exact decide_eq_decide.mpr ⋯
  rw[<-this];exact hC
 .have hsz:p'.size=rs.length:=hB.size.trans hl
  have hlt:∀i∈p'.toList,i<rs.length:=λi hi=>by
   have:=(Array.perm_iff_toList_perm.mp hB).mem_iff.mp hi
   simpa[hl]using this
  have sm:Zd H (upd H (s.heap.objs.size+1) (.lst ((p'.toList.map λi=>as.getD i 0).map V.ref))):=(Zd.refl H).upd (I.hok.fresh (YY _))
  refine⟨.ref (s.heap.objs.size+1),_,I.laid (t':=s.toks) (a:=s.heap.objs.size+1) (o:=.lst ((p'.toList.map λi=>as.getD i 0).map V.ref)) (λb o e=>sortedAll_old e) (YY _) ?_,rfl,q (p'.toList.map λi=>rs.getD i []) _ _ ?_ ?_ (I.hok.fresh (YY _)) sm ⟨_,Zc,by simp,λi i1 i2=>sm _ _ ?_⟩⟩
  .obtain⟨n,e⟩:=sortedAll_at s.heap its (ZgC its p')
   refine⟨Yn (show _<=1000 by simp;omega) nofun,(ZgC its p').toList,n,?_,by rw[e]⟩
   have key:∀(l:List Nat),(∀i∈l,i<rs.length)->Vals ((l.map λi=>as.getD i 0).map V.ref) (l.map λi=>its.getD i Value.none):=by
    intro l
    induction l with
    |nil=>intro _;exact .nil
    |cons a l ih =>
     intro hl'
     refine .cons ?_ (ih λi hi=>hl' i (Yz _ hi))
     have ha:=hl' a Yy
     have h1:a<its.length:= ⋯
     have h2:a<as.length:= ⋯
     show its.getD a Value.none=Value.ref (as.getD a 0)
     rw[show its.getD a Value.none=its[a] by simp[h1],show as.getD a 0=as[a] by simp[h2]]
     exact hits a h1 h2
   exact key _ hlt
  .have:=(Array.perm_iff_toList_perm.mp hB).map λi=>rs.getD i []
   refine this.trans ?_
   have e:((List.range its.length).toArray.toList.map λi=>rs.getD i [])=rs:=by
    rw[hl]
    refine List.ext_getElem (by simp) λi i1 i2=>?_
    have:i<rs.length:=i2
    simp[Yg,this]
   rw[e]
  .rw[List.pairwise_iff_getElem]
   intro i j i1 j1 hij
   have i2:i<p'.size:=by simpa using i1
   have j2:j<p'.size:=by simpa using j1
   have:=hS i j ⋯ ⋯
   unfold kk at this
   rw[YN,YN,getElem?_pos p' i i2,getElem?_pos p' j j2]at this
   simpa using this
  .have i3:i<p'.toList.length:=by simpa using i1
   have hi:=hlt _ (YK i3)
   have h2:p'.toList[i]<as.length:= ⋯
   have:=hT _ h2 hi
   have e1:(p'.toList.map λi=>as.getD i 0)[i]'(by simpa using i1)=as[p'.toList[i]]:=by rw[List.getElem_map,Yg,Yf h2];rfl
   have e2:(p'.toList.map λi=>rs.getD i [])[i]'(by simpa using i2)=rs[p'.toList[i]]:=by rw[List.getElem_map,Yg,Yf hi];rfl
   rw[e1,e2];exact this
end
theorem TupsAt.keep {H H':Hp}{l:Addr}{rs:List (List Int)} (R:TupsAt H l rs) (h1:∀xs,H l=some (.lst xs)->H' l=some (.lst xs)) (h2:∀a xs,H a=some (.tup xs)->H' a=some (.tup xs)):TupsAt H' l rs:=by
 obtain⟨as,e,hl,h⟩:=R
 exact⟨as,h1 _ e,hl,λi i1 i2=>h2 _ _ (h i i1 i2)⟩
theorem ZiM {ns T:List Int} (hT:Zq ns T):∀k p o,p<ns.length->(way T p).length=k->o∈way T p->∃X,way T p=X++o::way T o:=by
 intro k
 induction k with
 |zero =>
  intro p o hp hk ho
  rw[List.length_eq_zero_iff.mp hk]at ho
  cases ho
 |succ k ih =>
  intro p o hp hk ho
  rcases ZaE hT hp with z|⟨q,e,hq,_,_⟩
  .rw[Zjj z]at ho;cases ho
  .have hw:=ZbN hT hp e
   rw[hw]at ho hk⊢
   rcases Yi.mp ho with rfl|ho
   .exact⟨[],rfl⟩
   .obtain⟨X,hX⟩:=ih q o hq (by simpa using hk) ho
    exact⟨q::X,by rw[hX];rfl⟩
theorem ZmS (Y:List Int) (m:Int):atI ((Y++[m]).map V.int) (-1)=some (V.int m):=atI_m1 (by simp) (by simp)
theorem Zrj (f:Nat->Int) (n p:Nat):ZaH f n p\/∃r,ZZ f n p r:=by
 by_cases h:∀j,j<n-(p+1)->f p<=f (p+1+j)
 .exact .inl λr h1 h2=>by
   have:=h (r-(p+1)) ⋯
   rwa [show p+1+(r-(p+1))=r by omega]at this
 .obtain⟨j,hj,h1,h2⟩:=ZiK _ h
  refine .inr ⟨p+1+j,⋯,⋯,⋯,λs s1 s2=>?_⟩
  have:=h2 (s-(p+1)) ⋯
  rwa [show p+1+(s-(p+1))=s by omega]at this
noncomputable def Zop (f:Nat->Int) (p k:Nat):Prop:=p<k/\f k<f p/\∀s,p<s->s<k->f p<=f s
open Classical in
noncomputable def Zjn (f:Nat->Int) (k:Nat):Nat:=(List.range k).countP λp=>decide (Zop f p k)
theorem ZmT {B:List Nat}{n:Nat} (hB:B.Nodup) (hlt:∀q∈B,q<n):(List.range n).countP (λp=>decide (p∈B))=B.length:=by
 rw[List.countP_eq_length_filter]
 refine List.Perm.length_eq ((List.perm_ext_iff_of_nodup (List.nodup_range.filter _) hB).mpr λa=>?_)
 rw[YO,Yq,decide_eq_true_iff]
 exact⟨λh=>h.2,λh=>⟨hlt a h,h⟩⟩
theorem Zld {f:Nat->Int}{i:Nat}{A B:List Nat} (hs:Zhn f i (A++B)) (hA:∀q∈A,f q<=f i) (hB:∀q∈B,f i<f q):Zjn f i=B.length:=by
 have hm:∀p,Zop f p i↔p∈B:=λp=>by
  constructor
  .rintro⟨h1,h2,h3⟩
   rcases Yw.mp ((hs.2 p).mpr ⟨h1,h3⟩)with z|z
   .have:=hA p z;omega
   .exact z
  .intro z
   obtain⟨h1,h2⟩:=(hs.2 p).mp (Ym _ z)
   exact⟨h1,hB p z,h2⟩
 have nd:B.Nodup:=(List.pairwise_append.mp hs.1).2.1.imp λh=>Yl h
 have hlt:∀q∈B,q<i:=λq hq=>((hs.2 q).mp (Ym _ hq)).1
 unfold Zjn
 rw[<-ZmT nd hlt]
 refine List.countP_congr λp _=>?_
 simp[hm p]
noncomputable def Z9 (ds:List Nat):Nat->List Nat×List Int
 |0=>([],List.replicate ds.length (-1))
 |i+1=>(((Z9 ds i).1.take ((Z9 ds i).1.length-ds.getD i 0))++[i],ZeL (Z9 ds i).2 ((Z9 ds i).1.take ((Z9 ds i).1.length-ds.getD i 0)) ((Z9 ds i).1.drop ((Z9 ds i).1.length-ds.getD i 0)) i)
theorem Zkg {ds:List Nat}{i:Nat}{A B:List Nat} (h:(Z9 ds i).1=A++B) (hB:B.length=ds.getD i 0):Z9 ds (i+1)=(A++[i],ZeL (Z9 ds i).2 A B i):=by
 have e:(Z9 ds i).1.length-ds.getD i 0=A.length:=by rw[h,YQ];omega
 show(((Z9 ds i).1.take ((Z9 ds i).1.length-ds.getD i 0))++[i],ZeL (Z9 ds i).2 ((Z9 ds i).1.take ((Z9 ds i).1.length-ds.getD i 0)) ((Z9 ds i).1.drop ((Z9 ds i).1.length-ds.getD i 0)) i)=_
 rw[e,h,List.take_left,List.drop_left]
noncomputable def Zd0 (f:Nat->Int) (n:Nat):List Nat:=(List.range n).map (Zjn f)
theorem Zhx (f:Nat->Int) (n:Nat):(Zd0 f n).length=n:=by simp[Zd0]
theorem ZmU {f:Nat->Int}{n k:Nat} (h:k<n):(Zd0 f n).getD k 0=Zjn f k:=by simp[Zd0,Yg,h]
noncomputable def goN:Nat->Nat->Int
 |0,_=>1
 |r+1,j=>((List.range (j+1)).map λi=>goN r (i+1)).sum
noncomputable def fewer (r st d:Nat):Int:=((List.range d).map λf=>goN r (st+1-f)).sum
end Lake
namespace Lake
open PySem PySem.Spec PyProof.Rows PySem.W
theorem Zhy (ns:List Int):∀i,i<=ns.length->∃S es,Z9 (Zd0 (nth ns) ns.length) i=(S,es)/\Zhn (nth ns) i S/\es.length=ns.length/\(∀p,p<i->ZC (nth ns) i p (es.getD p 0))/\∀p,i<=p->p<ns.length->es.getD p 0=-1
 |0,_=>⟨[],List.replicate (Zd0 (nth ns) ns.length).length (-1),rfl,⟨List.Pairwise.nil,λq=>by simp⟩,by simp[Zhx],λp hp=>⋯,λp _ hp=>by simp[Yg,Zhx,hp]⟩
 |i+1,hi=>by
  obtain⟨S,es,h1,hS,hl,hE,hE2⟩:=Zhy ns i ⋯
  obtain⟨A,B,rfl,hA,hB⟩:=Zkc (f:=nth ns) (nth ns i) S hS.mono
  have SS:=Zho hS hA hB
  have hB':B.length=(Zd0 (nth ns) ns.length).getD i 0:=by rw[ZmU ⋯,Zld hS hA hB]
  have st:=Zkg (ds:=Zd0 (nth ns) ns.length) (i:=i) (A:=A) (B:=B) (by rw[h1]) hB'
  rw[h1]at st
  have hmem:∀q∈A++B,q<i:=λq hq=>((hS.2 q).mp hq).1
  have hbi:∀b,B.head?=some b->b≠i:=λb hb=>by
   have:=hmem b (Ym _ (List.mem_of_head? hb));omega
  refine⟨A++[i],ZeL es A B i,st,SS.1,by rw[Zj6];exact hl,λp hp=>?_,λp hp1 hp2=>?_⟩
  .rw[Zg8 _ _ _ _ _ ⋯ hbi]
   by_cases z:p=i
   .subst z
    rw[Yd rfl,hE2 p (Ye _) ⋯]
    exact SS.2.1
   .rw[Yb z]
    exact SS.2.2 p _ ⋯ (hE p ⋯)
  .rw[Zg8 _ _ _ _ _ ⋯ hbi,Yb ⋯,Yb (λz=>?_)]
   .exact hE2 p ⋯ hp2
   .have:=hmem p (Ym _ (List.mem_of_head? z));omega
theorem Zl5 (ns:List Int):∃T,Zq ns T:=by
 obtain⟨S,es,_,_,hl,hE,_⟩:=Zhy ns ns.length (Ye _)
 exact⟨es,hl,λp hp=>hE p hp⟩
end Lake
namespace Lake
noncomputable def rk:Nat->List Nat->Int
 |_,[]=>0
 |st,d::ds=>fewer ds.length st d+rk (st-d+1) ds
noncomputable def Ok:Nat->List Nat->Prop
 |_,[]=>True
 |st,d::ds=>d<=st/\Ok (st-d+1) ds
end Lake
namespace Lake
open PySem PySem.Spec PyProof.Rows PySem.W
end Lake
namespace Lake
open PySem PySem.Spec PyProof.Rows
section
variable {κ:Type} [DecidableEq κ]
noncomputable def Zb1 (kvs:List (κ×V)) (k:κ):Option V:=(kvs.find? λkv=>decide (kv.1=k)).map (·.2)
noncomputable def putK (kvs:List (κ×V)) (k:κ) (v:V):List (κ×V) :=
 if (kvs.any λkv=>decide (kv.1=k))=true then kvs.map (λkv=>if kv.1=k then (kv.1,v)else kv)else kvs++[(k,v)]
theorem Zoq {k:κ}:Zb1 ([]:List (κ×V)) k=none:=rfl
theorem Zab {p:κ×V}{r:List (κ×V)}{k:κ} (e:p.1=k):Zb1 (p::r) k=some p.2:=by simp[Zb1,List.find?_cons,e]
theorem Zac {p:κ×V}{r:List (κ×V)}{k:κ} (e:¬ p.1=k):Zb1 (p::r) k=Zb1 r k:=by simp[Zb1,List.find?_cons,e]
theorem Zfu (k:κ):∀kvs:List (κ×V),(kvs.any λkv=>decide (kv.1=k))=(Zb1 kvs k).isSome
 |[]=>rfl
 |p::r=>by
  rw[List.any_cons]
  by_cases e:p.1=k
  .simp only[Zab e,Yu e,Bool.true_or,Option.isSome_some]
  .rw[Zac e,Yt e,Bool.false_or];exact Zfu k r
theorem Zkh (k j:κ) (y:V):∀kvs:List (κ×V),Zb1 (kvs.map λkv=>if kv.1=k then (kv.1,y)else kv) j=(Zb1 kvs j).map λx=>if j=k then y else x
 |[]=>rfl
 |p::r=>by
  have ih:=Zkh k j y r
  rw[YJ]
  by_cases h:p.1=k
  .rw[Yd h]
   by_cases e:p.1=j
   .rw[Zab (p:=(p.1,y)) e,Zab e,Option.map_some,Yd (e.symm.trans h)]
   .rw[Zac (p:=(p.1,y)) e,Zac e,ih]
  .rw[Yb h]
   by_cases e:p.1=j
   .rw[Zab (p:=p) e,Zab e,Option.map_some,Yb (λz=>h (e.trans z))]
   .rw[Zac (p:=p) e,Zac e,ih]
theorem ZiN (k j:κ) (y:V):∀kvs:List (κ×V),Zb1 kvs k=none->Zb1 (kvs++[(k,y)]) j=if j=k then some y else Zb1 kvs j
 |[],_=>by
  by_cases e:k=j
  .rw[Yd e.symm];exact Zab (p:=(k,y)) e
  .rw[Yb (λz=>e z.symm)];exact Zac (p:=(k,y)) e
 |p::r,hn=>by
  rw[List.cons_append]
  have hk:¬ p.1=k:=λz=>by rw[Zab z]at hn;cases hn
  rw[Zac hk]at hn
  have ih:=ZiN k j y r hn
  by_cases e:p.1=j
  .rw[Zab e,Zab e,Yb (λz=>hk (e.trans z))]
  .rw[Zac e,Zac e,ih]
theorem Zor (kvs:List (κ×V)) (k j:κ) (y:V):Zb1 (putK kvs k y) j=if j=k then some y else Zb1 kvs j:=by
 unfold putK
 by_cases a:(kvs.any λkv=>decide (kv.1=k))=true
 .rw[Yd a,Zkh]
  rw[Zfu]at a
  by_cases e:j=k
  .obtain⟨x,hx⟩:=Option.isSome_iff_exists.mp a
   rw[Yd e,e,hx,Option.map_some,Yd rfl]
  .rw[Yb e]
   cases Zb1 kvs j with
   |none=>rfl
   |some x=>rw[Option.map_some,Yb e]
 .rw[Yb a]
  refine ZiN k j y kvs ?_
  rw[Zfu]at a
  cases q:Zb1 kvs k with
  |none=>rfl
  |some x=>rw[q]at a;exact(a rfl).elim
theorem Zbi (kvs:List (κ×V)) (k:κ) (v:V):(putK kvs k v).length<=kvs.length+1:=by
 unfold putK
 split
 .rw[Yh];omega
 .rw[YQ,YI,List.length_nil];omega
theorem Zhd.ZmV {o:Option V}{u:Option Value} (r:Zhd o u):o.isSome=u.isSome:=by
 cases o with
 |none=>cases u with
  |none=>rfl
  |some _=>exact(show False from r).elim
 |some _=>cases u with
  |none=>exact(show False from r).elim
  |some _=>rfl
theorem KV.val {kvs:List (κ×V)}{vs:List (κ×Value)} (r:KV kvs vs) (k:κ):Zhd (Zb1 kvs k) (valueAt vs k):=by
 unfold KV at r
 induction r with
 |nil=>exact True.intro
 |@cons p q ps qs h t ih =>
  obtain⟨h1,h2⟩:=h
  by_cases e:p.1=k
  .have e':q.1=k:=h1.symm.trans e
   have b:valueAt (q::qs) k=some q.2:=by simp[valueAt,List.find?_cons,e']
   rw[Zab e,b];exact h2
  .have e':¬ q.1=k:=λz=>e (h1.trans z)
   have b:valueAt (q::qs) k=valueAt qs k:=by simp[valueAt,List.find?_cons,e']
   rw[Zac e,b];exact ih
theorem KV.any {kvs:List (κ×V)}{vs:List (κ×Value)} (r:KV kvs vs) (k:κ):(kvs.any λkv=>decide (kv.1=k))=vs.any λkv=>decide (kv.1=k):=by
 unfold KV at r
 induction r with
 |nil=>rfl
 |cons h t ih=>rw[List.any_cons,List.any_cons,ih,h.1]
theorem KV.repl {kvs:List (κ×V)}{vs:List (κ×Value)} (r:KV kvs vs) (k:κ) {y:V}{u:Value} (ry:RelV y u) :
  KV (kvs.map λkv=>if kv.1=k then (kv.1,y)else kv) (vs.map λkv=>if kv.1=k then (kv.1,u)else kv):=by
 unfold KV at r⊢
 induction r with
 |nil=>exact .nil
 |@cons p q ps qs h t ih =>
  rw[YJ,YJ]
  refine .cons ?_ ih
  obtain⟨h1,h2⟩:=h
  by_cases e:p.1=k
  .rw[Yd e,Yd (h1.symm.trans e)];exact⟨h1,ry⟩
  .rw[Yb e,Yb (λz=>e (h1.trans z))];exact⟨h1,h2⟩
theorem KV.put {kvs:List (κ×V)}{vs:List (κ×Value)} (r:KV kvs vs) (k:κ) {y:V}{u:Value} (ry:RelV y u):KV (putK kvs k y) (stored vs k u):=by
 unfold putK stored
 rw[r.any k]
 by_cases e:(vs.any λkv=>decide (kv.1=k))=true
 .rw[Yd e,Yd e];exact r.repl k ry
 .rw[Yb e,Yb e];exact Paired.snoc r ⟨rfl,ry⟩
theorem KV.length {kvs:List (κ×V)}{vs:List (κ×Value)} (r:KV kvs vs):kvs.length=vs.length:=Paired.length r
end
theorem Zl6 {P:Program}{w:World}{k:Key}{u:Value} (r:RelV (kV k) u):(Z6 P w).is k u=true:=by
 cases k with
 |inl i=>obtain⟨t,e⟩:=(show ∃t,u=Value.int i t from r);subst e;exact ZjR P w i t
 |inr x=>obtain⟨t,e⟩:=(show ∃t,u=Value.str x t from r);subst e;exact ZjS P w x t
theorem ZiO {P:Program}{w:World}:∀{ks:List Key}{us:List Value},Vals (ks.map kV) us->ItemsAre (Z6 P w) ks us
 |[],_,r=>by rw[List.map_nil]at r;cases r;exact .nil
 |k::ks,_,r=>by
  rw[YJ]at r
  cases r with
  |cons h t=>exact .cons (Zl6 h) (ZiO t)
noncomputable abbrev KT (H:Hp):List (List Key×V)->List (List Key×Addr×Value)->Prop:=Paired λp q=>p.1=q.1/\H q.2.1=some (.tup (p.1.map kV))/\RelV p.2 q.2.2
theorem KT.val {H:Hp}{kvs:List (List Key×V)}{xs:List (List Key×Addr×Value)} (r:KT H kvs xs) (k:List Key):Zhd (Zb1 kvs k) ((atKey xs k).map (·.2)):=by
 induction r with
 |nil=>exact True.intro
 |@cons p q ps qs h t ih =>
  obtain⟨h1,_,h2⟩:=h
  by_cases e:p.1=k
  .have e':q.1=k:=h1.symm.trans e
   have b:atKey (q::qs) k=some q.2:=by simp[atKey,List.find?_cons,e']
   rw[Zab e,b];exact h2
  .have e':¬ q.1=k:=λz=>e (h1.trans z)
   have b:atKey (q::qs) k=atKey qs k:=by simp[atKey,List.find?_cons,e']
   rw[Zac e,b];exact ih
theorem KT.repl {H:Hp}{kvs:List (List Key×V)}{xs:List (List Key×Addr×Value)} (r:KT H kvs xs) (k:List Key) {y:V}{u:Value} (ry:RelV y u) :
  KT H (kvs.map λkv=>if kv.1=k then (kv.1,y)else kv) (xs.map (putAt k u)):=by
 induction r with
 |nil=>exact .nil
 |@cons p q ps qs h t ih =>
  rw[YJ,YJ]
  refine .cons ?_ ih
  obtain⟨h1,h2,h3⟩:=h
  unfold putAt
  by_cases e:p.1=k
  .rw[Yd e,Yd (h1.symm.trans e)];exact⟨h1,h2,ry⟩
  .rw[Yb e,Yb (λz=>e (h1.trans z))];exact⟨h1,h2,h3⟩
theorem KT.put {H:Hp}{kvs:List (List Key×V)}{xs:List (List Key×Addr×Value)} (r:KT H kvs xs) (k:List Key) {b:Addr}{y:V}{u:Value} (hb:H b=some (.tup (k.map kV))) (ry:RelV y u) :
  KT H (putK kvs k y) (storedH xs k b u):=by
 have e:(kvs.any λkv=>decide (kv.1=k))=(atKey xs k).isSome:=by
  rw[Zfu,(r.val k).ZmV,Option.isSome_map]
 unfold putK storedH
 rw[e]
 by_cases q:(atKey xs k).isSome=true
 .rw[Yd q,Yd q];exact r.repl k ry
 .rw[Yb q,Yb q];exact Paired.snoc r ⟨rfl,hb,ry⟩
theorem KT.keeps {H H':Hp}{kvs:List (List Key×V)}{xs:List (List Key×Addr×Value)} (r:KT H kvs xs) (ht:∀b ys,H b=some (.tup ys)->H' b=some (.tup ys)):KT H' kvs xs :=
 Paired.mapP r λ_ _ z=>⟨z.1,ht _ _ z.2.1,z.2.2⟩
section
variable {P:Program}{w:World}{H:Hp}{h:Heap}{a:Addr}
theorem rd_of {u:HO} (ok:HOk P w H h) (e:Rd H a u):ZO P w H h a u:=e.ok ok
theorem Zos {kvs:List (Key×V)} (ok:HOk P w H h) (e:Rd H a (.dK kvs)):kvs.length<=sizeLine/\(a==sysModules)=false/\∃vs,KV kvs vs/\h.DictOf (Z6 P w) a vs :=
 show ZO P w H h a (.dK kvs)from rd_of ok e
theorem dk_of {kvs:List (Key×V)} (ok:HOk P w H h) (e:H a=some (.dK kvs)):kvs.length<=sizeLine/\(a==sysModules)=false/\∃vs,KV kvs vs/\h.DictOf (Z6 P w) a vs:=Zos ok (.inl e)
theorem Zle {ks:List Key} (ok:HOk P w H h) (e:H a=some (.tup (ks.map kV))):(tupleKind (Z6 P w)).is h ks a:=by
 obtain⟨_,its,r,o,h1,h2,n,h3⟩:=(show ZO P w H h a (.tup (ks.map kV))from ok a _ e)
 exact⟨o,its.toArray,n,h1,h2,h3,by simpa using ZiO r⟩
theorem Zot {kvs:List (List Key×V)} (ok:HOk P w H h) (e:Rd H a (.dT kvs)):kvs.length<=sizeLine/\(a==sysModules)=false /\
  ∃xs,KT H kvs xs/\h.DictOfH (tupleKind (Z6 P w)) a xs:=by
 obtain⟨z,y,xs,r,o,es,ep,h1,h2,h3,h4,h5⟩:=(show ZO P w H h a (.dT kvs)from rd_of ok e)
 refine⟨z,y,xs,r,o,es,ep,h1,h2,h3,h4,λx hx=>?_,h5⟩
 have all:∀{l:List (List Key×V)}{m:List (List Key×Addr×Value)},KT H l m->∀x∈m,(tupleKind (Z6 P w)).is h x.1 x.2.1:=by
  intro l m q
  induction q with
  |nil=>intro x hx;exact nomatch hx
  |@cons p q ps qs hq t ih =>
   intro x hx
   rcases Yi.mp hx with e|hx
   .subst e
    exact Zle ok (by rw[<-hq.1];exact hq.2.1)
   .exact ih x hx
 exact all r x hx
theorem dt_of {kvs:List (List Key×V)} (ok:HOk P w H h) (e:H a=some (.dT kvs)):kvs.length<=sizeLine/\(a==sysModules)=false /\
  ∃xs,KT H kvs xs/\h.DictOfH (tupleKind (Z6 P w)) a xs:=Zot ok (.inl e)
end
noncomputable def Zhz (H:Hp) (a:Addr) (y:V) (r:Option V):Prop :=
 (∃kvs k,Rd H a (.dK kvs)/\y=kV k/\r=Zb1 kvs k)\/∃kvs k b,Rd H a (.dT kvs)/\y=.ref b/\H b=some (.tup (k.map kV))/\r=Zb1 kvs k
noncomputable def Zlf (H:Hp) (a:Addr) (y v:V) (H':Hp):Prop :=
 (∃kvs k,H a=some (.dK kvs)/\y=kV k/\kvs.length<sizeLine/\H'=upd H a (.dK (putK kvs k v))) \/
 ∃kvs k b,H a=some (.dT kvs)/\y=.ref b/\H b=some (.tup (k.map kV))/\kvs.length<sizeLine/\H'=upd H a (.dT (putK kvs k v))
theorem Zhz.k {H:Hp}{a:Addr}{kvs:List (Key×V)}{k:Key} (e:H a=some (.dK kvs)):Zhz H a (kV k) (Zb1 kvs k):=.inl ⟨kvs,k,.inl e,rfl,rfl⟩
theorem Zlf.k {H:Hp}{a:Addr}{kvs:List (Key×V)}{k:Key}{v:V} (e:H a=some (.dK kvs)) (hl:kvs.length<sizeLine):Zlf H a (kV k) v (upd H a (.dK (putK kvs k v))):=.inl ⟨kvs,k,e,rfl,hl,rfl⟩
section
variable {X:Cx}{pins:List (Addr×Obj)}{σ:St}{H:Hp}{s:Shared}{a:Addr}{y v:V}{u r:Value}{o:Option V}{A:Around}{E:Value->Shared->Prop}
theorem Inv.big (I:Inv X pins σ H s):sysModules<s.heap.objs.size:=by
 have h:mainGlobals<s.heap.objs.size:=(I.mod.glob.keeps I.bk).lt
 exact Nat.lt_trans nofun h
theorem ZmW {Q:Value->Shared->Prop} (hu:A.units+1<cLine) (I:Inv X pins σ H s) (g:Zhz H a y (some v)) (ry:RelV y u) (h:∀w' s',Inv X pins σ H s'->RelV v w'->Q w' s') :
  wpAny (model X.prog X.w) A (getItem (.ref a) u) Q E s:=by
 rcases g with⟨kvs,k,e,ey,l⟩|⟨kvs,k,b,e,ey,eb,l⟩
 .subst ey
  obtain⟨z,hd,vs,rel,dd⟩:=Zos I.hok e
  obtain⟨w',hw,rw'⟩:=Zhd.some_of (v:=v) (o:=valueAt vs k) (by rw[l];exact rel.val k)
  exact wpAny_getItem_of (Zl6 ry) dd.mapOf hw (h w' _ (I.tok _) rw')
 .subst ey
  cases(show u=Value.ref b from ry)
  obtain⟨z,hd,xs,rel,dd⟩:=Zot I.hok e
  obtain⟨w',hw,rw'⟩:=Zhd.some_of (v:=v) (o:=(atKey xs k).map (·.2)) (by rw[l];exact rel.val k)
  obtain⟨p,hp,hp2⟩:=Option.map_eq_some_iff.mp hw
  refine wpAny_getItem_heap (tupleKind_room_in1 hu) (Zle I.hok eb) dd hp ?_
  rw[hp2]
  exact h w' _ (I.tok _) rw'
theorem Zjo {h':Heap}{t':Nat}{ob:HO} (I:Inv X pins σ H s) (mu:Mut (H a)) (hs:Heap.SameBut a s.heap h') (he:∃q,h'.get? a=some q) (new:ZO X.prog X.w (upd H a ob) h' a ob) :
  Inv X pins σ (upd H a ob) {s with heap:=h',toks:=t'} :=
 I.write (x:=a) (e:=a) mu (.inl rfl) (λb q hb z=>(hs.2 b hb).trans z) he new
theorem Zou {P:Program}{w:World}{H':Hp}{h':Heap}{kvs:List (Key×V)}{vs:List (Key×Value)} (z:kvs.length<=sizeLine) (hd:(a==sysModules)=false) (rel:KV kvs vs) (dd:h'.DictOf (Z6 P w) a vs) :
  ZO P w H' h' a (.dK kvs):=⟨z,hd,vs,rel,dd⟩
theorem ZmX {H':Hp}{Q:Unit->Shared->Prop} (hu:A.units+1<cLine) (I:Inv X pins σ H s) (g:Zlf H a y v H') (ry:RelV y u) (rv:RelV v r) (h:∀s',Inv X pins σ H' s'->Q () s') :
  wpAny (model X.prog X.w) A (setItem (.ref a) u r) Q E s:=by
 rcases g with⟨kvs,k,e,ey,l,eH⟩|⟨kvs,k,b,e,ey,eb,l,eH⟩
 .subst ey eH
  obtain⟨z,hd,vs,rel,dd⟩:=dk_of I.hok e
  have hz:vs.length<=sizeLine:=by rw[<-rel.length];exact z
  have hl:(putK kvs k v).length<=sizeLine:=by have:=Zbi kvs k v;omega
  refine wpAny_setItem_pairs (hsz:=hz) (Zl6 ry) dd λh' dd' hs=>h _ ?_
  have he:∃q,h'.get? a=some q:=let ⟨q,_,_,hq,_⟩:=dd';⟨q,hq⟩
  exact Zjo I (by rw[e];exact True.intro) hs he (Zou hl hd (rel.put k rv) dd')
 .subst ey eH
  cases(show u=Value.ref b from ry)
  obtain⟨z,hd,xs,rel,dd⟩:=dt_of I.hok e
  have hz:xs.length<=sizeLine:=by rw[<-Paired.length rel];exact z
  have hl:(putK kvs k v).length<=sizeLine:=by have:=Zbi kvs k v;omega
  refine wpAny_setItem_heap (hsz:=hz) (tupleKind_room_in1 hu) (Zle I.hok eb) dd λh' dd' hs=>h _ ?_
  obtain⟨q,es,ep,hq,h2,h3,h4,_,h5⟩:=dd'
  refine Zjo I (by rw[e];exact True.intro) hs ⟨q,hq⟩ ⟨hl,hd,_,(rel.put k eb rv).keeps λc ys ec=>?_,q,es,ep,hq,h2,h3,h4,h5⟩
  rw[Zh (ne_of ec e (λz=>nomatch z))]
  exact ec
end
noncomputable def NoSl (i:Expr):Prop:=∀ov iv,subscripted i false ov iv=operate [ov,iv] (getItem ov iv)
theorem Zrk {prog:Program}{w:World}{A:Around}{E:Value->Shared->Prop}{s:Shared}{env:Env}{value slice:Expr}{pos:Pos}{T id:String}{Q:Value->Shared->Prop}
  (hl:typeLookup (.type T) "__getitem__"=pure (some (.builtin id))) (hs:NoSl slice)
  (h:wpAny (model prog w) A (eval value env) (λo s₁=>wpAny (model prog w) A (eval slice env) (λi s₂=>s₂.TypeIs o T/\wpAny (model prog w) A (getItem o i) Q E s₂) E s₁) E s) :
  wpAny (model prog w) A (eval (.Subscript value slice pos) env) Q E s:=by
 refine Subscript_ (YM h (λo s₁ h₁=>YM h₁ (λi s₂ h₂=>?_) λ_ _ x=>x) λ_ _ x=>x)
 obtain⟨hT,h₂⟩:=h₂
 unfold subscriptTail
 refine Ya ?_
 rw[getitemInPython_of_ne hT.not_modules]
 refine Ya (wpAny_specialOf hT hl ?_)
 have fin:wpAny (model prog w) A (subscripted slice false o i) (λr s₃=>wpAny (model prog w) A (letTemporaryGo value o r >>= λ_=>pure r) Q E s₃) E s₂:=by
  rw[hs o i]
  exact wpAny_operating (YM h₂ (λr s₃ h₃=>Ya (wpAny_letTemporaryGo (Yc h₃))) λ_ _ x=>x)
 first
  |exact Yc (Ya fin)
  |exact Ya (Yc (Ya fin))
  |exact Ya fin
theorem Zki {X:Cx}{pins:List (Addr×Obj)}{σ:St}{H:Hp}{s:Shared}{a:Addr}{y:V}{o:Option V} (I:Inv X pins σ H s) (g:Zhz H a y o):s.TypeIs (.ref a) "dict":=by
 rcases g with⟨kvs,k,e,_,_⟩|⟨kvs,k,b,e,_,_,_⟩
 .obtain⟨_,_,vs,_,dd⟩:=Zos I.hok e
  exact dd.typeIs
 .obtain⟨_,_,xs,_,dd⟩:=Zot I.hok e
  exact dd.typeIs
noncomputable def tDGet (td ty:TE):TE:=fun σ H Q=>td σ H λx H1=>ty σ H1 λy H2=>∃a v,x=.ref a/\Zhz H2 a y (some v)/\Q v H2
noncomputable def sDPut (td ty tv:TE):TS:=λD σ H=>tv σ H λv H1=>td σ H1 λx H2=>ty σ H2 λy H3=>∃a H4,x=.ref a/\Zlf H3 a y v H4/\D.nx σ H4
section
variable {X:Cx}{o i e value:Expr}{pos pos' tpos:Pos}{td ty tv:TE}
theorem Zjp (hu:X.A.units+1<cLine) (ho:PE X o td) (hi:PE X i ty) (hs:NoSl i):PE X (.Subscript o i pos) (tDGet td ty):=by
 intro pins s σ H Q I h
 refine Zrk PySem.F.slot_dict_getitem.lookup hs (thn (ho pins s σ H _ I h) λu s1 ⟨x,H1,I1,rx,q1⟩=>thn (hi pins s1 σ H1 _ I1 q1) λiv s2 ⟨y,H2,I2,ry,a,v,ex,g,q2⟩=>?_)
 subst ex
 obtain rfl:u=Value.ref a:=rx
 exact⟨Zki I2 g,ZmW hu I2 g ry λw' s3 I3 rw'=>⟨v,H2,I3,rw',q2⟩⟩
theorem Zl7 (hu:X.A.units+1<cLine) (ho:PE X o td) (hi:PE X i ty) (hv:PE X value tv) (hs:swapsWith value (some (.Subscript o i pos')) pos.line X.env=pure false) :
  PS X (.Assign [.Subscript o i pos'] value pos) (sDPut td ty tv):=by
 intro pins s σ H D I h
 refine wpAny_Assign_Subscript (thn (hv pins s σ H _ I h) λr s1 ⟨v,H1,I1,rv,q1⟩=>thn (ho pins s1 σ H1 _ I1 q1) λu s2 ⟨x,H2,I2,rx,q2⟩=>thn (hi pins s2 σ H2 _ I2 q2) λiv s3 ⟨y,H3,I3,ry,a,H4,ex,g,q3⟩=>?_) hs
 subst ex
 obtain rfl:u=Value.ref a:=rx
 exact ZmX hu I3 g ry rv λs4 I4=>⟨σ,H4,I4,q3⟩
end
theorem Zov {P:Program}{w:World}{H:Hp} (h:Heap) (hb:sysModules<h.objs.size):ZO P w H (h.push {cls:=.type "dict",data:=.dict #[]}) h.objs.size (.dK []) :=
 ⟨Yo _,beq_eq_false_iff_ne.mpr (Ne.symm (Yl hb)),[],.nil,Heap.DictOf.new h⟩
noncomputable def tPairs:List (TE×TE)->St->Hp->(List (V×V)->Hp->Prop)->Prop
 |[],_,H,Q=>Q [] H
 |(tk,tv)::r,σ,H,Q=>tk σ H λx H1=>tv σ H1 λy H2=>tPairs r σ H2 λps H3=>Q ((x,y)::ps) H3
noncomputable abbrev VV:List (V×V)->List (Value×Value)->Prop:=Paired λp q=>RelV p.1 q.1/\RelV p.2 q.2
noncomputable def PPs (X:Cx) (pos:Pos) (keys:List (Option Expr)) (values:List Expr) (trs:List (TE×TE)):Prop :=
 ∀(pins:List (Addr×Obj)) (s:Shared) (σ:St) (H:Hp) (Q:List (V×V)->Hp->Prop),Inv X pins σ H s->tPairs trs σ H Q ->
  wpAny (model X.prog X.w) X.A (evalPairs (pairTrees keys values X.env pos)) (λvs s'=>∃ps H',Inv X pins σ H' s'/\VV ps vs/\Q ps H') X.xe s
theorem Zrl {X:Cx}{pos:Pos}:PPs X pos [] [] []:=λpins s σ H Q I h=>pairTrees_nil_walk ⟨[],H,I,.nil,h⟩
theorem Zow {X:Cx}{pos:Pos}{k v:Expr}{ks:List (Option Expr)}{vs:List Expr}{tk tv:TE}{trs:List (TE×TE)} (hk:PE X k tk) (hv:PE X v tv) (hr:PPs X pos ks vs trs) :
  PPs X pos (some k::ks) (v::vs) ((tk,tv)::trs):=λpins s σ H Q I h =>
 pairTrees_cons_walk (thn (hk pins s σ H _ I h) λu s1 ⟨x,H1,I1,rx,q1⟩=>thn (hv pins s1 σ H1 _ I1 q1) λw2 s2 ⟨y,H2,I2,ry,q2⟩ =>
  thn (hr pins s2 σ H2 _ I2 q2) λws s3 ⟨ps,H3,I3,rel,q3⟩=>⟨(x,y)::ps,H3,I3,.cons ⟨rx,ry⟩ rel,q3⟩)
noncomputable def Zgd (kvs more:List (Key×V)):List (Key×V):=more.foldl (λacc kv=>putK acc kv.1 kv.2) kvs
theorem KV.merge:∀{more:List (Key×V)}{rs:List (Key×Value)}{kvs:List (Key×V)}{vs:List (Key×Value)},KV more rs->KV kvs vs->KV (Zgd kvs more) (merged vs rs):=by
 intro more rs kvs vs r
 unfold KV at r
 induction r generalizing kvs vs with
 |nil=>intro q;exact q
 |@cons p q ps qs h t ih =>
  intro r0
  have e:KV (putK kvs p.1 p.2) (stored vs q.1 q.2):=by
   have:=r0.put p.1 h.2
   rw[<-h.1];exact this
  exact ih e
theorem ZeP:∀(more kvs:List (Key×V)),(Zgd kvs more).length<=kvs.length+more.length
 |[],kvs=>by show kvs.length<=kvs.length+0;omega
 |p::r,kvs=>by
  have h1:=ZeP r (putK kvs p.1 p.2)
  have h2:=Zbi kvs p.1 p.2
  show(Zgd (putK kvs p.1 p.2) r).length<=_
  rw[YI];omega
theorem ZhA {P:Program}{w:World}:∀{kvs:List (Key×V)}{ws:List (Value×Value)},VV (kvs.map λkv=>(kV kv.1,kv.2)) ws->∃rs,Carries (Z6 P w) ws rs/\KV kvs rs
 |[],_,r=>by rw[List.map_nil]at r;cases r;exact⟨[],True.intro,.nil⟩
 |p::kvs,_,r=>by
  rw[YJ]at r
  cases r with
  |@cons a b as bs h t =>
   obtain⟨rs,c,q⟩:=ZhA (P:=P) (w:=w) t
   obtain⟨b1,b2⟩:=b
   exact⟨(p.1,b2)::rs,⟨Zl6 h.1,rfl,c⟩,.cons ⟨rfl,h.2⟩ q⟩
noncomputable def tDisp (trs:List (TE×TE)):TE:=fun σ H Q=>∀p,H p=none->tPairs trs σ (upd H p (.dK [])) λps H2=>H2 p=some (.dK [])/\∃kvs:List (Key×V),ps=kvs.map (λkv=>(kV kv.1,kv.2))/\kvs.length<=15/\Q (.ref p) (upd H2 p (.dK (Zgd [] kvs)))
theorem Zrm {X:Cx}{pos:Pos}{keys:List (Option Expr)}{values:List Expr}{trs:List (TE×TE)} (h:PPs X pos keys values trs) (hall:keys.all (·.isSome)=true) (hl:keys.length=values.length) (h0:keys≠[])
  (h15:keys.length<=15):PE X (.Dict keys values pos) (tDisp trs):=by
 intro pins s σ H Q I q
 have hn:=I.hok.fresh (Ye s.heap.objs.size)
 have I1:=I.laid (a:=s.heap.objs.size) (o:=.dK []) (h':=s.heap.push {cls:=.type "dict",data:=.dict #[]}) (t':=s.toks) (λ_ _ q=>Yk _ q) (Ye _) (Zov s.heap I.big)
 refine wpAny_Dict_walk (knd:=Z6 X.prog X.w) hall hl h0 h15 (thn (h pins _ σ _ _ I1 (q _ hn)) λws s2 ⟨ps,H2,I2,rel,e,kvs,ep,lk,q2⟩=>?_)
 subst ep
 obtain⟨rs,c,rk⟩:=ZhA (P:=X.prog) (w:=X.w) rel
 obtain⟨z,hd,vs0,r0,dd⟩:=dk_of I2.hok e
 cases r0
 refine⟨rs,c,dd,λh' dd' hs=>⟨.ref s.heap.objs.size,_,?_,rfl,q2⟩⟩
 have hz:(Zgd [] kvs).length<=sizeLine:=by
  have h1:=ZeP kvs []
  rw[List.length_nil]at h1
  rw[sizeLine_eq];omega
 have he:∃q,h'.get? s.heap.objs.size=some q:=let ⟨q,_,_,hq,_⟩:=dd';⟨q,hq⟩
 exact Zjo I2 (by rw[e];exact True.intro) hs he (Zou hz hd (rk.merge .nil) dd')
end Lake
namespace Lake
open PySem PySem.Spec PyProof.Rows PySem.W PySem.Calls
theorem ZhB:∀{vs:List Value}{ns:List Int},vs.length=ns.length->(∀(j:Nat) (v:Value),vs[j]?=some v->∃(n:Int) (t:Tok),ns[j]?=some n/\v=Value.int n t)->IntsAre vs ns
 |[],[],_,_=>.nil
 |[],_::_,h,_=>by simp at h
 |_::_,[],h,_=>by simp at h
 |v::vs,n::ns,h,k=>by
  obtain⟨m,t,e1,e2⟩:=k 0 v rfl
  have e1:some n=some m:=e1
  cases e1
  subst e2
  exact .cons _ _ (ZhB (by simpa using h) λj u hu=>k (j+1) u hu)
theorem Zjq {prog:Program}{w:World}{A:Around}{E:Value->Shared->Prop}{s:Shared}{T:String}{r d:Addr}{n:Nat}{P:Nat->Value->Prop}{OK:Heap->Prop}{R:List Value->Shared->Prop} (S:KdlSrc prog w T r d n P OK) (hh:A.handled=none) (ok:OK s.heap) (hn:n<=sizeLine)
  (k:∀(h':Heap) (tk:Nat) (acc:Array Value),(∀b o,s.heap.get? b=some o->h'.get? b=some o)->s.heap.objs.size<h'.objs.size->ItemsOf P acc n->R acc.toList {s with heap:=h',toks:=tk}):wpAny (model prog w) A (collect (.ref r)) R E s:=by
 obtain⟨lr,ld⟩:=S.there _ ok
 unfold collect;refine Ya (wpAny_runValue (codeAny_builtin entry_proto_collect' ?_));rw[Around.under_plainId PySem.F.plain_proto_collect _]
 show wpAny _ A.in1 (newList [] >>= λz=>again (.builtin "list.__iadd__" ⟨[z,.ref r],[]⟩)) _ _ s
 refine Ya (wpAny_newObj_type (Yc ⟨plainId_quiet PySem.F.plain_list_iadd _,codeAny_builtin entry_list_iadd' ?_⟩));rw[Around.under_plainId PySem.F.plain_list_iadd _]
 have g0:(s.heap.push {cls:=.type "list",data:=.seq ([]:List Value).toArray}).get? s.heap.objs.size=some {cls:=.type "list",data:=.seq #[]} :=
  Yv _ rfl
 show wpAny _ A.in1 (Builtin.List.listExtendWith (.ref s.heap.objs.size) (.ref r) (.ref s.heap.objs.size)) _ E
  {s with heap:=s.heap.push {cls:=.type "list",data:=.seq ([]:List Value).toArray}}
 have main:=kdl_extend (A:=A) (s:={s with heap:=s.heap.push {cls:=.type "list",data:=.seq ([]:List Value).toArray}}) (R:=λ(q:Result) (z:Shared)=>∃(h':Heap) (tk:Nat) (acc:Array Value) (c:Nat),q=.ok (.ret (.ref s.heap.objs.size))/\z={s with heap:=h',toks:=tk}/\(∀b o,s.heap.get? b=some o->h'.get? b=some o)/\h'.get? s.heap.objs.size=some {cls:=.type "list",dict:=none,data:=.seq acc c,slots:=#[]}/\ItemsOf P acc n)
  S hh (S.keep _ _ ok λb _ o e=>Yk _ e) s.heap.objs.size (Nat.ne_of_gt lr) (Nat.ne_of_gt ld) (.ref s.heap.objs.size) 0 g0 (λh' tk acc c e1 e2 e3=>⟨h',tk,acc,c,rfl,rfl,λb o e=>e1 b o (Yl (Yj e)) (Yk _ e),e2,e3⟩) hn
 refine YM main (λfin z x=>?_) λe z x=>by obtain⟨_,_,_,_,q,_⟩:=x;cases q
 cases fin with
 |done f =>
  obtain⟨h',tk,acc,c,e,rfl,e1,e2,e3⟩:=x;cases e
  exact Ya (m:=load s.heap.objs.size) (wpAny_load e2 (Yc (k h' tk acc e1 (Yj e2) e3)))
 |again c₁ =>
  refine⟨x.1,codeAny_mono x.2 λq z y=>?_⟩
  obtain⟨h',tk,acc,c,rfl,rfl,e1,e2,e3⟩:=y
  exact Ya (m:=load s.heap.objs.size) (wpAny_load e2 (Yc (k h' tk acc e1 (Yj e2) e3)))
end Lake
namespace Lake
open PySem PySem.Spec PyProof.Rows PySem.W
section
variable {X:Cx}
noncomputable def rCatK (K:Frag):R2:=λx y H Q=>∃(a b:Addr) (xs ys:List V),x=.ref a/\y=.ref b/\SqL K H a xs/\SqL K H b ys/\xs.length+ys.length<=sizeLine/\∀p,H p=none->Q (.ref p) (upd H p (.lst (xs++ys)))
theorem Zrn {K:Frag} (hK:X.K=K):OpR X (binaryOp .Add) (rCatK K):=by
 subst hK
 intro pins s σ H x y v u Q I rx ry h
 obtain⟨a,b,xs,ys,rfl,rfl,ha,hb,hz,q⟩:=h
 cases rx
 cases ry
 obtain⟨its,r1,p1,_⟩:=I.list ha
 obtain⟨its2,r2,p2,_⟩:=I.list hb
 obtain⟨⟨c1,d1,x1,l1⟩,e1,k1,n1,y1⟩:=p1.isList
 obtain⟨⟨c2,d2,x2,l2⟩,e2,k2,n2,y2⟩:=p2.isList
 simp only at k1 y1 k2 y2
 subst k1 y1 k2 y2
 refine concat_meets ⟨_,e1,rfl⟩ ⟨_,e2,rfl⟩ noFill_list_add seq_list_add PySem.F.slot_list_add PySem.F.entry_list_add (PySem.F.args_list_add_2 _ _) (list_addW a b its.toArray its2.toArray n1 n2 d1 d2 l1 l2 (by rw[Yp,Yp,<-r1.length,<-r2.length];exact hz)) ⟨e1,e2,?_⟩
 have ea:its.toArray++its2.toArray=(its++its2).toArray:=by simp
 rw[ea]
 exact⟨.ref _,_,I.lnew (t':=s.toks) (r1.append r2) (by rw[YQ];exact hz),rfl,q _ I.fresh⟩
end
noncomputable def sF (r:Addr) (f:Int) (t:Addr):List (Str×V):=putF "tree" (.ref t) (putF "first" (.int f) (putF "row" (.ref r) []))
noncomputable abbrev itO (l:Addr):Obj:={cls:=.type "list_iterator",data:=.fields #[.ref l,.int 0 0]}
noncomputable abbrev zA (h:Heap) (a:Addr):Heap:=h.push (itO a)
noncomputable abbrev zB (h:Heap) (a b:Addr):Heap:=(zA h a).push (itO b)
section
variable {X:Cx}
theorem ZmY (hc:X.calm=true):Zax X (.builtin "max") (λxs H Q=>∃(p:Addr) (ns:List Int),xs=[.ref p]/\SqL X.K H p (ns.map V.int)/\ns≠[]/\∀m,m∈ns->(∀a∈ns,a<=m)->Q (.int m) H):=by
 intro pins s σ H xs us Q I r h
 obtain⟨p,ns,rfl,hp,hne,q⟩:=h
 obtain⟨u,rfl,ru⟩:=r.one
 cases(show u=Value.ref p from ru)
 obtain⟨its,rv,pl,hz⟩:=I.list hp
 obtain⟨ys,e1,e2⟩:=Zjd rv
 have hsz:0<ys.size:=by
  have:=congrArg List.length e2
  rw[Yh,Ys]at this
  cases ns with
  |nil=>exact absurd rfl hne
  |cons=>simp at this;omega
 refine max_intList (xs:=ys) (I.ok.hd hc) (e1▸pl.isList) hsz λv h' tk hv k=>?_
 obtain⟨tq,rfl⟩:=intItems_at hv
 obtain⟨h1,h2⟩:=argBest_gt (numAt ys) (ys.size-1)
 refine⟨.int _,H,I.kept k,⟨tq,rfl⟩,q _ ?_ λa ha=>?_⟩
 .rw[numAt_eq,e2];exact getD_mem (by rw[<-e2,Yh,Ys];omega)
 .obtain⟨jq,hj,rfl⟩:=mem_getD ha
  rw[<-e2,Yh,Ys]at hj
  rw[<-e2,<-numAt_eq];exact h2 jq ⋯
end
section
variable {X:Cx}
theorem pe_bmK {K:Frag}{T:String}{id:String}{name:Str}{r:V->List V->Hp->VK->Prop}{o e:Expr}{es:List Expr}{to:TE}{t:TA}{apos cpos:Pos} (hK:X.K=K) (pa:PlainAttrs T) (slot:Slot T name id) (hty:typeOf (.builtin id)=pure (.type "method_descriptor")) (hm:MtM X id r) (ho:PE X o to) (ha:PA X (e::es) t)
  (hbase:attributeBase o name X.env (eval o X.env)=eval o X.env:=by rfl)
  (hfew:((backTo cpos (starEach (e::es) X.env)).all (λx=>!x.1)&&(backToKw cpos (keywordEach [] X.env)).all (λx=>x.1.isSome)
   && decide ((e::es).length+([]:List Keyword).length+(if ([]:List Keyword).isEmpty then 0 else 1)<30))=true:=by rfl)
  (hline:(apos.endLine==cpos.line)=true:=by rfl) (hs:starEach (e::es) X.env=(false,eval e X.env)::starEach es X.env:=by rfl) (hplain:(backTo cpos (starEach es X.env)).any (·.1)=false:=by rfl) :
  PE X (.Call (.Attribute o name apos) (e::es) [] cpos) (tBM K T r to t):=by
 subst hK
 exact Zb4 pa slot hty hm ho ha hbase hfew hline hs hplain
end
end Lake
namespace Lake
open PySem PySem.Spec PyProof.Rows PySem.W PySem.Calls
noncomputable def rNInD (K:Frag):R2:=λx y H Q=>∃(q p:Addr) (as:List Addr) (e:Addr->Bool),x=.ref q/\y=.ref p/\SqL K H p (as.map V.ref)/\(∀a∈as,EqD K H 3 (.ref a) x (e a))/\Q (.bl (!as.any e)) H
theorem ZmZ {X:Cx}{K:Frag} (hK:X.K=K) {k:Nat} (hr:Room k X.A):OpR X (compareOp .NotIn) (rNInD K):=by
 subst hK
 have hu0:=hr.un
 intro pins s σ H x y v u Q I rx ry h
 obtain⟨q,p,as,e,rfl,rfl,hp,he,hQ⟩:=h
 cases rx
 cases ry
 obtain⟨its,r,pl,hz⟩:=I.list hp
 have hi:=Zgb r
 subst hi
 refine SeqAt.notIn_listAt (eU e) pl.isList (λw hw=>?_) ⟨.bl _,H,I,rfl,?_⟩
 .have hw':w∈as.map Value.ref:=by simpa using hw
  obtain⟨a,ha,rfl⟩:=YH.mp hw'
  exact Zf3 I (he a ha) X.A.in1 _ _ (by show X.A.units+1+3<cLine;omega) rfl rfl
 .have:(as.map Value.ref).toArray.any (eU e)=as.any e:=by
   simp[List.any_map,Function.comp_def,eU]
  rw[this];exact hQ
end Lake
namespace Lake
open PySem PySem.Spec PyProof.Rows PySem.W
noncomputable def Zm0 (K:Frag) (f:Addr):Option Addr:=match K.lookup f with
 |some ⟨_,_,.func fd,_⟩=>(match fd.code with|.ref c=>some c|_=>none)
 |_=>none
noncomputable def tabOf (K:Frag) (c:Addr):Addr:=match K.lookup c with
 |some ⟨_,_,.fields vs,_⟩=>(match (vs[11]?:Option Value)with|some (.ref P)=>P|_=>0)
 |_=>0
noncomputable def Zd1 (K:Frag) (mg:Str->Option Value) (x:Str):Addr:=match mg x with
 |some (.ref f)=>(match Zm0 K f with|some c=>tabOf K c|none=>0)
 |_=>0
noncomputable def ZhC (q:Str):HO:=.tbl #[.str q 0]
noncomputable def BM (mg:Str->Option Value) (base:Heap):Prop :=
 ∃bm o,mg "__builtins__"=some (.ref bm)/\bm≠builtinsNs/\bm≠mainGlobals/\base.get? bm=some o/\o.cls=.type "module"/\o.dict=some builtinsNs/\o.data=.plain
noncomputable def Zic (env:Env) (P:Addr) (q:Str) (params:Arguments) (body:Expr) (scope:Scope) (H:Hp) (f:Addr):Prop :=
 ∃c oc vs t cl pm ctv,H f=some (.frz (kla_obj "<lambda>" q params body scope cl pm c ctv) (.own f))/\H c=some (.frz oc (.own P))/\oc.data=.fields vs/\vs[1]?=some (.str q t) /\
  (∀x c,cl.lookup x=some c->env.cells.lookup x=some c)/\(∀y∈scope.names,y.2=.free->∃c,cl.lookup y.1=some c/\env.cells.lookup y.1=some c)
theorem Zic.same {env:Env}{P:Addr}{q:Str}{params:Arguments}{body:Expr}{scope:Scope}{H H':Hp}{f:Addr} (h:Zic env P q params body scope H f) (s:Zd H H'):Zic env P q params body scope H' f:=by
 obtain⟨c,oc,vs,t,cl,pm,ctv,e1,e2,r⟩:=h
 exact⟨c,oc,vs,t,cl,pm,ctv,s _ _ e1,s _ _ e2,r⟩
structure LamIn (X:Cx) (P:Addr) (q:Str):Prop where
 code:∃c,X.env.code=.ref c/\codeHdIn X.K c P=true
 bm:BM X.mg X.base
 ql:X.env.qual++"<lambda>"=q
theorem Zlg {pos:Pos}{a b:Int}{c cv:Value}:∀(l:List Value),TriplesOk l->codeAmong pos (l++[rawInt a,rawInt b,c])=some cv->codeAmong pos l=some cv\/cv=c:=by
 intro l h e
 fun_induction TriplesOk l with
 |case1 =>
  simp only[List.nil_append,codeAmong,rawInt]at e
  split at e
  .cases e;exact .inr rfl
  .cases e
 |case2 a' t b' u x rest ih =>
  simp only[List.cons_append,codeAmong]at e⊢
  split at e
  .rename_i hc;rw[Yd hc];exact .inl e
  .rename_i hc;rw[Yb hc];exact ih h e
 |case3 l h1 h2=>exact h.elim
section
variable {X:Cx}
theorem Inv.lam {pins:List (Addr×Obj)}{σ:St}{H:Hp}{s:Shared}{h':Heap}{t':Nat}{P c f:Addr}{q:Str}{oc fo:Obj}{ts:Array Value}{vs:Array Value}{tq:Tok}
  (I:Inv X pins σ H s) (hP:H P=some (ZhC q)) (k:∀b o,b≠P->s.heap.get? b=some o->h'.get? b=some o) (hts:h'.get? P=some (tabObj ts)) (h3:TriplesOk ts.toList)
  (hc:H c=some (.frz oc (.own P))\/s.heap.objs.size<=c) (hcP:c≠P) (hoc:h'.get? c=some oc) (hd:oc.data=.fields vs) (hv:vs[1]?=some (.str q tq)) (hf:s.heap.objs.size<=f) (hfc:f≠c) (hfo:h'.get? f=some fo)
  (hcodes:∀pos cv,codeAmong pos ts.toList=some cv->cv=.ref c\/∃c2 oc vs t t',cv=.ref c2/\H c2=some (.frz oc (.own P))/\oc.data=.fields vs/\vs[1]?=some (.str q t)/\t'=(0:Tok)) :
  Inv X pins σ (upd (upd H c (.frz oc (.own P))) f (.frz fo (.own f))) {s with heap:=h',toks:=t'}:=by
 have hPlt:P<s.heap.objs.size:=I.hok.lt hP
 have hfP:f≠P:=λz=>by rw[z]at hf;exact absurd (YD hPlt hf) (YB _)
 have hfn:H f=none:=I.hok.fresh hf
 have up:∀b o,H b=some o->upd (upd H c (.frz oc (.own P))) f (.frz fo (.own f)) b=some o:=λb o e=>by
  have nf:b≠f:=Zz e hfn
  rw[Zh nf]
  rcases hc with hc|hc
  .by_cases z:b=c
   .subst z;rw[Zc,<-e,hc]
   .rw[Zh z];exact e
  .rw[Zh (Zz e (I.hok.fresh hc))];exact e
 have un:Un X.fs [] H (upd (upd H c (.frz oc (.own P))) f (.frz fo (.own f))) s.heap h':=by
  have nP:∀b,H b=none->b≠P:=λb n z=>by rw[z,hP]at n;cases n
  refine⟨λb o e n _ _=>k b o (nP b n) e,λb o e n _ _=>⟨o.slots,k b o (nP b n) e⟩,λb o e n _=>?_,λb o e _=>?_,λb xs e=>up _ _ e,λb o u e=>up _ _ e,λb ps e=>⟨#[],by rw[up _ _ e];simp⟩⟩
  .have lt:=Yj e
   have nf:b≠f:=λz=>by rw[z]at lt;exact absurd (YD lt hf) (YB _)
   have nc:b≠c:=λz=>by
    rcases hc with hc|hc
    .rw[z,hc]at n;cases n
    .rw[z]at lt;exact absurd (YD lt hc) (YB _)
   rw[Zh nf,Zh nc];exact n
  .by_cases z:b=P
   .subst z;exact⟨_,hts⟩
   .exact⟨o,k b o z e⟩
 refine I.un un λb o e=>?_
 by_cases zf:b=f
 .subst zf
  rw[Zc]at e;cases e
  exact⟨hfo,_,hfo⟩
 rw[Zh zf]at e
 by_cases zc:b=c
 .subst zc
  rw[Zc]at e;cases e
  exact⟨hoc,_,hoc⟩
 rw[Zh zc]at e
 by_cases zP:b=P
 .subst zP
  rw[hP]at e;cases e
  refine⟨ts,hts,h3,λpos cv hcv=>?_⟩
  rcases hcodes pos cv hcv with rfl|⟨c2,oc2,vs2,t2,t2',e1,e2,e3,e4,_⟩
  .exact⟨c,oc,vs,q,0,tq,rfl,by rw[Zh (Ne.symm hfc),Zc],hd,rfl,hv⟩
  .exact⟨c2,oc2,vs2,q,0,t2,e1,up _ _ e2,e3,rfl,e4⟩
 .refine(I.hok b o e).ZfW (λb2 u hb z=>k b2 u ?_ z) (λb2 z=>up _ _ z) (λb2 xs z=>up _ _ z) λb2 o2 u2 z=>up _ _ z
  rcases hb with rfl|hb
  .exact zP
  .intro z;rw[z,hP]at hb;cases hb
noncomputable def tLam (env:Env) (P:Addr) (q:Str) (params:Arguments) (body:Expr) (scope:Scope):TE:=λ_ H Q=>H P=some (ZhC q)/\∀f H',H f=none->Zd H H'->Zic env P q params body scope H' f->Q (.ref f) H'
theorem Zjr {P:Addr}{q:Str}{params:Arguments}{body:Expr}{scope:Scope}{pos:Pos} (L:LamIn X P q) (hok:compOk X.env.scope scope=true) (hdef:defaultsOf params X.env=([],[]):=by rfl) :
  PE X (.Lambda params body scope pos) (tLam X.env P q params body scope):=by
 intro pins s σ H Q I h
 obtain⟨hP,h⟩:=h
 obtain⟨c0,hc0,hcd⟩:=L.code
 have C:CodeHd s.heap c0 P:=codeHd_of_K I.kIn hcd
 obtain⟨bm,ob,b1,b2,b3,b4,b5,b6,b7⟩:=L.bm
 have hbm:=I.bs bm ob b4
 have bP:bm≠P:=λz=>by rw[z,hP]at hbm;cases hbm.2
 have gP:mainGlobals≠P:=λz=>by
  obtain⟨o,es,ep,e,_⟩:=I.ok.mod.glob
  have:=(I.bs _ _ e).2
  rw[z,hP]at this;cases this
 have hg:s.heap.Ns mainGlobals X.mg:=I.ok.mod.glob.keeps I.bk
 have hb:s.heap.BuiltinsAt X.mg P:=⟨bm,ob,b1,b2,b3,bP,hbm.1,b5,b6,b7⟩
 obtain⟨ts,hts,h3,hco⟩:=I.hok P _ hP
 obtain⟨cl,hcl,up,hfr⟩:=ZkU (env:=X.env) (scope:=scope) λy hy hf=>I.ok.has y.1 ((Zgw hok y hy hf).elim (λz=>.inl z) λz=>.inr z)
 have hco':∀pos cv,codeAmong pos ts.toList=some cv->∃c2 oc vs t t',cv=.ref c2/\H c2=some (.frz oc (.own P))/\oc.data=.fields vs/\vs[1]?=some (.str q t)/\t'=(0:Tok):=λpos cv e=>by
  obtain⟨c,oc,vs,q',t,t',e1,e2,e3,e4,e5⟩:=hco pos cv e
  have e4':some (Value.str q (0:Tok))=some (Value.str q' t):=e4
  cases e4'
  exact⟨c,oc,vs,t',0,e1,e2,e3,e5,rfl⟩
 refine kla_eval hdef ?_
 rw[L.ql]
 cases hca:codeAmong pos ts.toList with
 |some cv =>
  obtain⟨c,oc,vs,tq,t',rfl,e2,e3,e4,_⟩:=hco' pos cv hca
  refine kla_makeFunctionHit (mg:=X.mg) hcl I.ok.glob hg hc0 C hts h3 hca hb λctv h' tk hk hsz=>?_
  have hoc:s.heap.get? c=some oc:=(I.hok c _ e2).1
  have hcP:c≠P:=λz=>by rw[z,hP]at e2;cases e2
  have lt:=Yj hoc
  have kk:∀b o,s.heap.get? b=some o->(h'.push {cls:=.type "function",data:=.func (kla_fn "<lambda>" q params body scope cl ((X.mg "__name__").getD .none) (.ref c) ctv)}).get? b=some o:=λb o e=>Yk _ (hk b o e)
  have J:=I.lam (t':=tk) (f:=h'.objs.size) hP (λb o _ e=>kk b o e) (kk _ _ hts) h3 (.inl e2) hcP (kk _ _ hoc) e3 e4 hsz (λz=>by rw[<-z]at lt;exact absurd (YD lt hsz) (YB _)) (Yv _ rfl) λp2 cv2 z=>.inr (hco' p2 cv2 z)
  have hfn:H h'.objs.size=none:=I.hok.fresh hsz
  have ne:c≠h'.objs.size:=Yl (YD lt hsz)
  refine⟨.ref h'.objs.size,_,J,rfl,h _ _ hfn (λb o e=>?_) ⟨c,oc,vs,tq,cl,_,ctv,Zc,by rw[Zh ne,Zc],e3,e4,up,hfr⟩⟩
  rw[Zh (Zz e hfn)]
  by_cases z:b=c
  .subst z;rw[Zc,<-e,e2]
  .rw[Zh z];exact e
 |none =>
  refine kla_makeFunction (mg:=X.mg) hcl I.ok.glob hg hc0 C hts h3 hca gP hb λc ctv h' tk hx hge hlt hrec htb=>?_
  obtain⟨c2,oc,vs,tq,e2,hoc,e3,e4⟩:=hrec
  cases e2
  have hsz:s.heap.objs.size<=h'.objs.size:=Yn hge (Y3 hlt)
  have kk:∀b o,h'.get? b=some o->(h'.push (kla_obj "<lambda>" q params body scope cl ((X.mg "__name__").getD .none) c ctv)).get? b=some o:=λb o e=>Yk _ e
  have hPlt:P<s.heap.objs.size:=I.hok.lt hP
  have hcP:c≠P:=λz=>by rw[z]at hge;exact absurd (YD hPlt hge) (YB _)
  have tl:(ts++#[rawInt pos.line,rawInt pos.col,Value.ref c]).toList=ts.toList++[rawInt pos.line,rawInt pos.col,Value.ref c]:=by simp
  have J:=I.lam (t':=tk) (f:=h'.objs.size) (ts:=ts++#[rawInt pos.line,rawInt pos.col,.ref c]) hP (λb o nb e=>kk b o (hx b o nb e)) (kk _ _ htb) (by rw[tl];exact TriplesOk_snoc _ _ _ _ h3) (.inr hge) hcP (kk _ _ hoc) e3 e4 hsz (Nat.ne_of_gt hlt) (Yv _ rfl) λp2 cv2 z=>by
   rw[tl]at z
   rcases Zlg ts.toList h3 z with y|y
   .exact .inr (hco' p2 cv2 y)
   .exact .inl y
  have hfn:H h'.objs.size=none:=I.hok.fresh hsz
  have hcn:H c=none:=I.hok.fresh hge
  refine⟨.ref h'.objs.size,_,J,rfl,h _ _ hfn (λb o e=>?_) ⟨c,oc,vs,tq,cl,_,ctv,Zc,by rw[Zh (Yl hlt),Zc],e3,e4,up,hfr⟩⟩
  rw[Zh (Zz e hfn),Zh (Zz e hcn)];exact e
end
noncomputable def ZgD (X:Cx) (A':Around) (Nc:List Str) (q:Str) (scope:Scope) (cl:List (Str×Addr)) (L f c:Addr) (s:Shared) (H:Hp):Cx where
 prog:=X.prog
 w:=X.w
 K:=X.K
 mg:=X.mg
 base:=X.base
 A:=A'.deeper (envX q scope L f (.ref c) cl)
 N:=Nc
 s₀:=s
 H₀:=H
 env:=envX q scope L f (.ref c) cl
 outer:=X.stack
 stack:=envX q scope L f (.ref c) cl::X.stack
 ex:=[]
 fn:=λ_=>false
 calm:=X.calm
 pn:=[]
 xe:=λ_ _=>False
section
variable {X:Cx}
theorem Zm1 {pins:List (Addr×Obj)}{σ:St}{H:Hp}{s:Shared}{A':Around}{Nc:List Str}{js:List (Option Nat)}{q pn:Str}{scope:Scope}{cl:List (Str×Addr)}{h1:Heap}{tk:Nat}{f c:Addr}{v:V}{u:Value}
  (I:Inv X pins σ H s) (hA:A'.frames=some X.stack) (hh:X.calm=true->A'.handled=none) (hok:compOk X.env.scope scope=true) (htk:takesC X.N Nc scope js 0=true) (hp0:Nc[0]?=some pn) (hj0:js[0]?=some none) (hpl:scope.names.lookup pn=some .local)
  (up:∀x c,cl.lookup x=some c->X.env.cells.lookup x=some c) (hfr:∀y∈scope.names,y.2=.free->∃c,cl.lookup y.1=some c/\X.env.cells.lookup y.1=some c)
  (r:RelV v u) (old:∀b o,s.heap.get? b=some o->h1.get? b=some o) (hns:h1.Ns s.heap.objs.size λy=>[(pn,u)].reverse.lookup y) :
  Inv (ZgD X A' Nc q scope cl s.heap.objs.size f c s H) [] ((iniC js σ).set 0 (some v)) H {s with heap:=h1,toks:=tk}:=by
 have noA:∀b:Addr,b∉(ZgD X A' Nc q scope cl s.heap.objs.size f c s H).ex:=λb z=>absurd (show b∈([]:List Addr)from z) (by simp)
 have kf:∀x,((envX q scope s.heap.objs.size f (.ref c) cl).kindOf x=some .cell\/(envX q scope s.heap.objs.size f (.ref c) cl).kindOf x=some .free)->∃c,cl.lookup x=some c:=λx hx=>by
  rcases hx with z|z
  .exact absurd rfl (Zgv hok _ (lookup_mem (show scope.names.lookup x=some .cell from z)))
  .obtain⟨c,q,_⟩:=hfr _ (lookup_mem (show scope.names.lookup x=some .free from z)) rfl
   exact⟨c,q⟩
 refine⟨⟨I.ok.mod,Zgu hok,rfl,rfl,Ye _,λx y c e1 e2=>I.ok.inj x y c (up _ _ e1) (up _ _ e2),λx hx=>kf x hx,(λx c e=>nomatch e),hh,Around.frames_deeper hA,.inr ⟨rfl,rfl⟩,λb z=>absurd z (noA b),I.bs,Yn I.ok.bsz I.sz,λb _ _=>noA b,λb z=>absurd z (noA b),I.stack,I.Zg2⟩,
  rfl,I.bare,Un.kept old,⟨_,hns,λi x v' e1 e2 e3=>?_⟩,λx c e=>?_,I.hok.fresh (Ye _),λx c e=>I.freeC x c (up _ _ e),λp hp=>absurd (show p∈([]:List (Addr×Obj))from hp) (by simp),I.hok.kept old,?_⟩
 .by_cases hi:i=0
  .subst hi
   have ex:x=pn:=YF ((show Nc[0]?=some x from e1).symm.trans hp0)
   subst ex
   have hl:0<(iniC js σ).length:=by
    unfold iniC
    rw[Yh]
    exact(Yr.mp hj0).1
   rw[List.getElem?_set_self hl]at e2
   cases e2
   exact⟨u,r,.inl ⟨hpl,by simp⟩⟩
  .rw[List.getElem?_set_ne (Ne.symm hi)]at e2
   have e2':(iniC js σ)[i]?=some (some v'):=e2
   unfold iniC at e2'
   rw[YG]at e2'
   cases hq:js[i]? with
   |none=>rw[hq]at e2';cases e2'
   |some j0 =>
    cases j0 with
    |none=>rw[hq]at e2';cases e2'
    |some j =>
     rw[hq]at e2'
     simp only[Option.map_some,Option.some.injEq]at e2'
     have e4:σ[j]?=some (some v'):=by
      cases z:σ[j]? with
      |none=>rw[z]at e2';cases e2'
      |some o=>rw[z]at e2';simp only[Option.join_some]at e2';rw[e2']
     obtain⟨y,y1,y2,y3⟩:=ZeD htk hq
     rw[Nat.zero_add]at y1
     have:x=y:=YF ((show Nc[i]?=some x from e1).symm.trans y1)
     subst this
     have hm:=lookup_mem y3
     obtain⟨c1,h1',h2'⟩:=hfr _ hm rfl
     have hk:=Zgw hok _ hm rfl
     obtain⟨m0,hn0,hl0⟩:=I.loc
     obtain⟨u',r',l⟩:=hl0 j x v' y2 e4 (hk.elim (λz=>.inr (.inl z)) λz=>.inr (.inr z))
     refine⟨u',r',.inr ⟨.inr y3,c1,h1',?_⟩⟩
     rcases l with⟨lk,_⟩|⟨_,c',c3,c4⟩
     .rcases hk with z|z
      .rw[show X.env.kindOf x=some .cell from z]at lk;cases lk
      .rw[show X.env.kindOf x=some .free from z]at lk;cases lk
     .rw[h2']at c3;cases c3
      obtain⟨oc,w1,w2⟩:=c4
      exact⟨oc,old _ _ w1,w2⟩
 .obtain⟨v,oc,w1,w2⟩:=I.cell x c (up _ _ e)
  exact⟨v,oc,old _ _ w1,w2⟩
 .show((iniC js σ).set 0 (some v)).length=Nc.length
  unfold iniC
  have:=ZcR htk
  rw[List.length_set,Yh]
  omega
structure LamSc (X:Cx) (Nc:List Str) (js:List (Option Nat)) (params:Arguments) (body:Expr) (scope:Scope) (pn:Str):Prop where
 ok:compOk X.env.scope scope=true
 tk:takesC X.N Nc scope js 0=true
 p0:Nc[0]?=some pn
 j0:js[0]?=some none
 pl:scope.names.lookup pn=some .local
 co:scope.isCoroutine=false
 gen:scope.isGenerator=false
 bd:∀(q:Str) (cl:List (Str×Addr)) (pm cd ctv u:Value),bindArgs (kla_fn "<lambda>" q params body scope cl pm cd ctv) ⟨[u],[]⟩=pure [(pn,u)]
theorem ZhD {pins:List (Addr×Obj)}{σ:St}{H:Hp}{s:Shared}{A':Around}{Nc:List Str}{js:List (Option Nat)}{q pn:Str}{params:Arguments}{body:Expr}{scope:Scope}{P f:Addr}{v:V}{u:Value}{tb:TE}{Q:VK}{E:Value->Shared->Prop}
  (S:LamSc X Nc js params body scope pn) (hbody:∀cl L f c s H,PE (ZgD X A' Nc q scope cl L f c s H) body tb) (I:Inv X pins σ H s) (hA:A'.frames=some X.stack) (hh:X.calm=true->A'.handled=none) (hroom:A'.depth<recursionLimit) (L:Zic X.env P q params body scope H f)
  (r:RelV v u) (h:tb ((iniC js σ).set 0 (some v)) H Q):wpAny (model X.prog X.w) A' (call (.ref f) [u]) (EP X pins σ Q) E s:=by
 obtain⟨c,oc,vs,t,cl,pm,ctv,e1,e2,e3,e4,up,hfr⟩:=L
 have hfo:=(I.hok f _ e1).1
 have hoc:=(I.hok c _ e2).1
 refine wpAny_call (codeAny_mono (R:=λr s'=>∃u',r=.ok (.ret u')/\EP X pins σ Q u' s') (kla_callFunE hroom hfo rfl S.co S.gen rfl ⟨c,oc,vs,t,rfl,hoc,e3,e4⟩ ?_) λr s' ⟨u',hr,z⟩=>by subst hr;exact z)
 show wpAny _ _ (bindArgs (kla_fn "<lambda>" q params body scope cl pm (.ref c) ctv) ⟨[u],[]⟩) _ _ _
 rw[S.bd]
 refine Yc (wpAny_newFunctionEnv (λx hx=>Zgv S.ok x hx) (λx hx=>?_) (λh₁ hns hsb=>⟨I.nolimit.fresh _ hsb,?_⟩) (Zgu S.ok))
 .have:x=(pn,u):=by simpa using hx
  subst this;exact S.pl
 show codeAny _ _ (.expr body (envX q scope s.heap.objs.size f (.ref c) cl)) _ _
 have old:∀b o,s.heap.get? b=some o->h₁.get? b=some o:=λb o e=>hsb.extBut b o (Yl (Yj e)) (Yk _ e)
 have J:=Zm1 (q:=q) (f:=f) (c:=c) (tk:=s.toks+[(pn,u)].length) I hA hh S.ok S.tk S.p0 S.j0 S.pl up hfr r old hns
 refine kla_codeExpr (YM (hbody cl _ f c s H [] _ _ H Q J h) (λv' s' ⟨x,H',J',r',q'⟩=>⟨v',rfl,x,H',?_,r',q'⟩) λ_ _ z=>z.elim)
 exact I.ZnL (ch:=[]) J'.os J'.base J'.hok J'.bare λb z=>absurd z (by simp)
end
section
variable {prog:Program}{w:World}{A:Around}{E:Value->Shared->Prop}{s:Shared}
noncomputable def Zox (b:Bool) (st:SortSt):Array Value:=if b then ((arrOf st).map (·.2)).reverse else (arrOf st).map (·.2)
noncomputable def Zlh (h:Heap) (kS a:Addr) (out:Array Value):Heap:=(h.update kS (Obj.mapSeq λ_=>(#[]:Array Value))).update a (Obj.mapSeq λ_=>out)
theorem Zro {a kS:Addr}{b:Bool}{e e1:Nat}{keys:Array Value}{st:SortSt}{R:PySem.Fin->Shared->Prop} (ok:s.heap.get? kS=some (seqObj "list" keys e)) (oa:s.heap.get? a=some (seqObj "list" #[] e1)) (ne:a≠kS) (z1:keys.size<=1000) (z2:(arrOf st).size<=1000) (hf:failedOf st=none)
  (h:R (.done (.ret .none)) {s with heap:=Zlh s.heap kS a (Zox b st)}):wpAny (model prog w) A (ksk_tail a b e1 (.ref kS) st) R E s:=by
 have oa1:(s.heap.update kS (Obj.mapSeq λ_=>(#[]:Array Value))).get? a=some (seqObj "list" #[] e1):=(Heap.get?_update_ne _ _ _ _ ne).trans oa
 have zo:(Zox b st).size<=sizeLine+1:=by
  unfold Zox
  cases b
  .rw[Yb YL,Array.size_map];exact Nat.le_succ_of_le (Yn z2 nofun)
  .rw[Yd rfl,Array.size_reverse,Array.size_map];exact Nat.le_succ_of_le (Yn z2 nofun)
 unfold ksk_tail
 dsimp only
 refine Ya (listUpdate_at ok rfl (Ya (wpAny_letGo (Ya (seqEpoch_at oa1 rfl (Ya (listUpdate_at oa1 rfl ?_ (Yo _) zo)))))) (Yn z1 nofun) (Yo _))
 rw[hf]
 simp only[bne_self_eq_false,Bool.false_eq_true,if_false]
 exact Yc h
theorem sk_end {a kS:Addr}{b:Bool}{e e1:Nat}{keys:Array Value}{vs:List Value}{kz:List Int}{R:PySem.Fin->Shared->Prop} (ok:s.heap.get? kS=some (seqObj "list" keys e)) (oa:s.heap.get? a=some (seqObj "list" #[] e1)) (ne:a≠kS) (hk:IntsAre keys.toList kz) (hl:kz.length=vs.length) (h64:vs.length<64)
  (h:∀out:Array Value,KskOut b kz vs out.toList->R (.done (.ret .none)) {s with heap:=Zlh s.heap kS a out}):wpAny (model prog w) A (ksk_end a b vs.toArray e1 (.ref kS) keys) R E s:=by
 have hz:keys.size=vs.length:=by
  have q:=hk.length
  rw[Ys]at q;omega
 have hzz:(keys.zip vs.toArray).size=vs.length:=by rw[Array.size_zip,hz,Yp,Nat.min_self]
 have go:∀t:Sem PySem.Fin,wpAny (model prog w) A t R E s->wpAny (model prog w) A (if b=true then (rule "list.sort.reverse" >>= λ_=>t)else t) R E s:=λt ht=>by
  cases b
  .exact ht
  .exact Ya (wpAny_rule ht)
 have hst:(if b=true then (keys.zip vs.toArray).reverse else keys.zip vs.toArray).Perm (keys.zip vs.toArray):=by
  cases b
  .exact .refl _
  .exact Array.perm_iff_toList_perm.mpr (by rw[Yd rfl,Array.toList_reverse];exact List.reverse_perm _)
 have done:∀st:SortSt,(arrOf st).Perm (keys.zip vs.toArray)->failedOf st=none->SortedTo (arrOf st) (arrOf st).size->wpAny (model prog w) A (ksk_tail a b e1 (.ref kS) st) R E s:=λst q1 q2 q3 =>
  Zro ok oa ne ⋯ (by rw[q1.size_eq,hzz];omega) q2 (h _ (ksk_out hk q1 q3))
 unfold ksk_end
 refine go _ ?_
 by_cases h2:vs.length<2
 .have h2':vs.toArray.size<2:=by rw[Yp];exact h2
  rw[Yd h2',Yd h2']
  refine Ya (Yc ?_)
  dsimp only
  rw[StateT.run_pure]
  refine Ya (Yc (done (SortSt.mk' general' (if b=true then (keys.zip vs.toArray).reverse else keys.zip vs.toArray) #[] 7 none) hst rfl λi j hij hj=>?_))
  have hj':j<(if b=true then (keys.zip vs.toArray).reverse else keys.zip vs.toArray).size:=hj
  rw[hst.size_eq,hzz]at hj'
  rw[show i=j by omega]
  exact Int.le_refl _
 .have h2':¬ vs.toArray.size<2:=by rw[Yp];exact h2
  rw[Yb h2',Yb h2',ksk_kind hk ⋯]
  refine Ya (Yc (Ya (YM (wpS_sortRuns (a₀:=keys.zip vs.toArray) (st:=SortSt.mk' oneType' (if b=true then (keys.zip vs.toArray).reverse else keys.zip vs.toArray) #[] 7 none)
   (Q:=λ_ st=>(arrOf st).Perm (keys.zip vs.toArray)/\failedOf st=none/\SortedTo (arrOf st) (keys.zip vs.toArray).size) (ksk_intKeys hk) ⟨hst,rfl,rfl,rfl⟩ ⋯ ⋯ λst q1 q2 q3=>⟨q1,q2,q3⟩) ?_ λ_ _ z=>z)))
  rintro⟨⟨⟩,st⟩ s' ⟨rfl,q1,q2,q3⟩
  exact done st q1 q2 (by rw[q1.size_eq];exact q3)
end
section
variable {X:Cx}
theorem Inv.track {pins:List (Addr×Obj)}{σ:St}{H:Hp}{s:Shared}{a:Addr}{o:HO} (I:Inv X pins σ H s) (hn:H a=none) (hL:a≠X.env.locals) (h1:a∈X.ex\/X.s₀.heap.objs.size<=a) (h2:∀x c,X.env.cells.lookup x=some c->c≠a) (h3:∀p∈X.pn++pins,p.1≠a)
  (new:ZO X.prog X.w (upd H a o) s.heap a o):Inv X pins σ (upd H a o) s:=by
 have up:∀b u,H b=some u->upd H a o b=some u:=λb u e=>by rw[Zh (Zz e hn)];exact e
 have J:=I.step (g':=s.gens) (d':=s.drawn) (t':=s.toks) (h':=s.heap) (H':=upd H a o) (ch:=[a]) (λb hb=>?_) (λb o _ _ _ e _=>e) (λb o _ _ _ e _=>⟨o.slots,e⟩) (λb o hb e n=>?_) (λb o _ e=>⟨o,e⟩) (λb xs e=>up _ _ e) (λb o u e=>up _ _ e) (λb ps e=>⟨#[],by rw[up _ _ e];simp⟩) (λm hm=>hm) (λb u e=>?_) I.bare
 .exact J
 .have e:b=a:=by simpa using hb
  subst e
  exact⟨h1,hL,h2,h3⟩
 .rw[Zh (λz=>hb (by simp[z]))];exact n
 .by_cases z:b=a
  .subst z;rw[Zc]at e;cases e;exact new
  .rw[Zh z]at e
   exact(I.hok b u e).ZfW (λc v _ q=>q) (λc q=>up _ _ q) (λc xs q=>up _ _ q) λc o' u' q=>up _ _ q
theorem Zrp {pins:List (Addr×Obj)}{σ:St}{H:Hp}{s:Shared}{A':Around}{E:Value->Shared->Prop}{f:Value}{b:Bool}{a kS:Addr}{e1:Nat}{vs:List Value}{ns:List Int}{kz:Int->Int}{R:PySem.Fin->Shared->Prop}
  (I:Inv X ((kS,seqObj "list" #[] 0)::(a,seqObj "list" #[] e1)::pins) σ H s) (hk0:X.s₀.heap.objs.size<=kS) (ha0:X.s₀.heap.objs.size<=a) (ne:a≠kS) (hp:∀p∈X.pn++pins,p.1≠kS/\p.1≠a) (hv:IntsAre vs ns) (h64:vs.length<64)
  (turn:∀(H':Hp) (s':Shared) (pins':List (Addr×Obj)) (n:Int) (u:Value),n∈ns->Inv X pins' σ H' s'->Zd H H'->RelV (.int n) u->wpAny (model X.prog X.w) A' (call f [u]) (EP X pins' σ λv H2=>v=.int (kz n)/\Zd H' H2) (λ_ _=>False) s')
  (fin:∀(H':Hp) (s':Shared) (out:Array Value) (c:Nat),Inv X pins σ H' s'->Zd H H'->H' a=none->s'.heap.get? a=some (seqObj "list" out c)->KskOut b (ns.map kz) vs out.toList->R (.done (.ret .none)) s') :
  wpAny (model X.prog X.w) A' (ksk_rest a f b vs.toArray e1 (.ref kS)) R E s:=by
 have hlen:vs.length=ns.length:=hv.length
 have facts:∀{H':Hp}{s':Shared}{ps:List (Addr×Obj)}{x:Addr}{xs:Array Value}{c:Nat},Inv X ps σ H' s'->(x,seqObj "list" xs c)∈ps->s'.heap.get? x=some (seqObj "list" xs c)/\H' x=none/\x≠X.env.locals/\x∉X.fs/\∀y cc,X.env.cells.lookup y=some cc->cc≠x:=λ{H' s' ps x xs c} J hm=>by
  obtain⟨q1,q2,q3,q4,_⟩:=J.pin _ (Ym _ hm)
  refine⟨q1,q2,q3,q4,λy cc hc z=>?_⟩
  obtain⟨v,oc,w1,w2⟩:=J.cell y cc hc
  rw[z,q1]at w1;cases w1;cases w2
 unfold ksk_rest
 refine Ya (wpAny_rule ?_)
 first
  |rw[List.forIn_toArray]
  |(rw[<-Array.forIn_toList];simp only[List.toList_toArray])
 refine Ya (ksk_fold (λi s'=>∃H' kA e,Inv X ((kS,seqObj "list" kA e)::(a,seqObj "list" #[] e1)::pins) σ H' s'/\Zd H H'/\IntsAre kA.toList ((ns.take i).map kz)) vs 0 s ⟨H,#[],0,I,Zd.refl H,by simpa using IntsAre.nil⟩ ?step ?done)
 case step =>
  rintro j x s' hx ⟨H',kA,e,J,sm,hk⟩
  simp only[Nat.zero_add]at hk⊢
  have hj:j<vs.length:=(Yr.mp hx).1
  have hnj:ns[j]?=some ns[j]:=Yf ⋯
  obtain⟨t,ht⟩:=hv.get j _ hnj
  rw[hx]at ht
  cases ht
  have hz:kA.size<=64:=by
   have h1:=hk.length
   rw[Ys,Yh,Y4]at h1
   omega
  refine Ya (wpAny_attempt (YM (turn H' s' _ ns[j] _ (YK _) J sm ⟨t,rfl⟩) (λv s'' he=>?_) λ_ _ hF=>hF.elim))
  obtain⟨x2,H2,J2,r2,rfl,sm2⟩:=he
  obtain⟨t2,rfl⟩:=r2
  obtain⟨o1,n1,l1,_,c1⟩:=facts J2 (Yy ..)
  try dsimp only
  obtain⟨c2,hc2⟩:∃c2,(s''.heap.update kS (Obj.mapSeq (·.push (.int (kz ns[j]) t2)))).get? kS=some (seqObj "list" (kA.push (.int (kz ns[j]) t2)) c2):=⟨_,get?_update_seq o1 (·.push (.int (kz ns[j]) t2))⟩
  refine Ya (listUpdate_at o1 rfl ?_ (Yn hz nofun) (Yn (Ji (Array.size_push ..)) (Nat.le_succ_of_le (Yn (Nat.succ_le_succ hz) nofun))))
  have J3:Inv X ((a,seqObj "list" #[] e1)::pins) σ H2 s'':=J2.ZH λp hp'=>by
   obtain⟨q1,q2,q3,q4,q5⟩:=J2.pin p (Ym _ (Yz _ hp'))
   exact⟨q1,q2,q3,q4,q5⟩
  have J4:=J3.turned (t':=s''.toks) (h':=s''.heap.update kS (Obj.mapSeq (·.push (.int (kz ns[j]) t2)))) (it:=kS) (λb o nb e=>(Heap.get?_update_ne _ _ _ _ nb).trans e) n1 l1 (.inr hk0) c1 (λp hp'=>by
   rcases Yw.mp hp' with z|z
   .exact(hp p (YS _ z)).1
   .rcases Yi.mp z with rfl|z
    .exact ne
    .exact(hp p (Ym _ z)).1)
  have o1f:=(facts J2 (Yy ..)).2.2.2.1
  have J5:Inv X ((kS,seqObj "list" (kA.push (.int (kz ns[j]) t2)) c2)::(a,seqObj "list" #[] e1)::pins) σ H2 {s'' with heap:=s''.heap.update kS (Obj.mapSeq (·.push (.int (kz ns[j]) t2)))}:=J4.ZH λp hp'=>by
   rcases Yi.mp hp' with rfl|hp'
   .exact⟨hc2,n1,l1,o1f,λv z=>by cases z⟩
   .exact J4.pin p (Ym _ hp')
  refine Yc ⟨rfl,H2,_,_,J5,sm.trans sm2,?_⟩
  have ek:(ns.take (j+1)).map kz=(ns.take j).map kz++[kz ns[j]]:=by rw[Je,hnj,Jb];rfl
  have ea:(kA.push (Value.int (kz ns[j]) t2)).toList=kA.toList++[Value.int (kz ns[j]) t2]:=by simp
  rw[ea,ek];exact ksk_snoc hk
 case done =>
  rintro s' ⟨H',kA,e,J,sm,hk⟩
  have hk':IntsAre kA.toList (ns.map kz):=by
   rw[List.take_of_length_le ⋯]at hk
   exact hk
  obtain⟨o1,n1,l1,f1,c1⟩:=facts J (Yy ..)
  obtain⟨o2,n2,l2,f2,c2⟩:=facts J (Yz _ (Yy ..))
  refine Ya (listItems_at o1 rfl ?_)
  refine sk_end o1 o2 ne hk' (by rw[Yh];exact hlen.symm) h64 λout ho=>?_
  have J3:Inv X pins σ H' s':=J.ZH λp hp'=>J.pin p (Ym _ (Yz _ (Yz _ hp')))
  have J4:=J3.turned (t':=s'.toks) (h':=s'.heap.update kS (Obj.mapSeq λ_=>(#[]:Array Value))) (it:=kS) (λb o nb e=>(Heap.get?_update_ne _ _ _ _ nb).trans e) n1 l1 (.inr hk0) c1 λp hp'=>(hp p hp').1
  have J5:=J4.turned (t':=s'.toks) (h':=Zlh s'.heap kS a out) (it:=a) (λb o nb e=>(Heap.get?_update_ne _ _ _ _ nb).trans e) n2 l2 (.inr ha0) c2 λp hp'=>(hp p hp').2
  have o3:(s'.heap.update kS (Obj.mapSeq λ_=>(#[]:Array Value))).get? a=some (seqObj "list" #[] e1):=(Heap.get?_update_ne _ _ _ _ ne).trans o2
  exact fin H' _ out _ J5 sm n2 (get?_update_seq o3 λ_=>out) ho
theorem Zrq {pins:List (Addr×Obj)}{σ:St}{H:Hp}{s:Shared}{A':Around}{E:Value->Shared->Prop}{f:Value}{b:Bool}{a:Addr}{e0:Nat}{vs:List Value}{ns:List Int}{kz:Int->Int}{R:PySem.Fin->Shared->Prop}
  (I:Inv X ((a,seqObj "list" vs.toArray e0)::pins) σ H s) (ha0:X.s₀.heap.objs.size<=a) (hp:∀p∈X.pn++pins,p.1≠a) (hv:IntsAre vs ns) (h64:vs.length<64)
  (turn:∀(H':Hp) (s':Shared) (pins':List (Addr×Obj)) (n:Int) (u:Value),n∈ns->Inv X pins' σ H' s'->Zd H H'->RelV (.int n) u->wpAny (model X.prog X.w) A' (call f [u]) (EP X pins' σ λv H2=>v=.int (kz n)/\Zd H' H2) (λ_ _=>False) s')
  (fin:∀(H':Hp) (s':Shared) (out:Array Value) (c:Nat),Inv X pins σ H' s'->Zd H H'->H' a=none->s'.heap.get? a=some (seqObj "list" out c)->KskOut b (ns.map kz) vs out.toList->R (.done (.ret .none)) s') :
  wpAny (model X.prog X.w) A' (ksk_tree a f b) R E s:=by
 obtain⟨oa,na,la,fa,da⟩:=I.pin _ (Ym _ (Yy ..))
 have ca:∀y cc,X.env.cells.lookup y=some cc->cc≠a:=λy cc hc z=>by
  obtain⟨v,oc,w1,w2⟩:=I.cell y cc hc
  rw[z,oa]at w1;cases w1;cases w2
 have lt:=Yj oa
 obtain⟨e1,oa1⟩:∃e1,(s.heap.update a (Obj.mapSeq λ_=>(#[]:Array Value))).get? a=some (seqObj "list" #[] e1):=⟨_,get?_update_seq oa λ_=>#[]⟩
 have I0:Inv X pins σ H s:=I.ZH λp hp'=>I.pin p (Ym _ (Yz _ hp'))
 have I1:=I0.turned (t':=s.toks) (h':=s.heap.update a (Obj.mapSeq λ_=>(#[]:Array Value))) (it:=a) (λb o nb e=>(Heap.get?_update_ne _ _ _ _ nb).trans e) na la (.inr ha0) ca hp
 have sz:(s.heap.update a (Obj.mapSeq λ_=>(#[]:Array Value))).objs.size=s.heap.objs.size:=Heap.size_update ..
 have I2:=I1.kept (h':=((s.heap.update a (Obj.mapSeq λ_=>(#[]:Array Value))).push (seqObj "tuple" vs.toArray 0)).push (seqObj "list" #[] 0)) (t':=s.toks) λb o e=>Yk _ (Yk _ e)
 have sz2:((s.heap.update a (Obj.mapSeq λ_=>(#[]:Array Value))).push (seqObj "tuple" vs.toArray 0)).objs.size=s.heap.objs.size+1:=(size_push' ..).trans (congrArg (·+1) sz)
 have hge:X.s₀.heap.objs.size<=s.heap.objs.size:=I.sz
 have hkL:X.env.locals<s.heap.objs.size:=I.lt
 have nk:H (s.heap.objs.size+1)=none:=I.hok.fresh (YY _)
 unfold ksk_tree
 refine Ya (listItems_at oa rfl (Ya (listUpdate_at oa rfl (Ya (seqEpoch_at oa1 rfl (Ya (wpAny_newTuple (Ya (wpAny_newList (YE ?_) (Yo _))) ?_)))) ?_ (Yo _))))
 .rw[sz2]
  refine Zrp (kS:=s.heap.objs.size+1) (e1:=e1) (I2.ZH λp hp'=>?_) (Nat.le_succ_of_le hge) ha0 (Yl (YR lt)) (λp hp'=>⟨?_,hp p hp'⟩) hv h64 turn fin
  .rcases Yi.mp hp' with rfl|hp'
   .exact⟨by rw[<-sz2];exact Yv _ rfl,nk,Nat.ne_of_gt (YR hkL),I.ZjT (YY _),λv z=>by cases z⟩
   .rcases Yi.mp hp' with rfl|hp'
    .exact⟨Yk _ (Yk _ oa1),na,la,fa,λv z=>by cases z⟩
    .exact I2.pin p (Ym _ hp')
  .have:=Yj (I0.pin p hp').1
   exact Yl (YR this)
 .exact Yn (show vs.length<=64 by omega) nofun
 .rw[Yp];exact Yn (show vs.length<=64 by omega) nofun
end
theorem Zoy {prog:Program}{w:World}{A:Around}{R:Result->Shared->Prop}{s:Shared}{r S:Addr}{a b c:Int}{t u v:Tok}{n c₀:Nat} (hh:A.handled=none) (hr:IsRange s.heap r a b c t u v) (hsmall:Builtin.Range.small a b c=true)
  (hn:Builtin.Range.rangeSize a b c=n) (hlen:n<=2 ^ 24) (hS:s.heap.get? S=some {cls:=.type "list",data:=.seq #[] c₀})
  (hR:∀h' tk acc' c',(∀b o,b≠S->s.heap.get? b=some o->h'.get? b=some o)->h'.get? S=some {cls:=.type "list",dict:=none,data:=.seq acc' c',slots:=#[]}->ItemsOf (λi v=>∃t,v=.int (a+i*c) t) acc' n->R (.ok (.ret (.ref S))) {s with heap:=h',toks:=tk}) :
  codeAny (model prog w) A (.builtin "list.__iadd__" ⟨[.ref S,.ref r],[]⟩) R s :=
 codeAny_builtin entry_list_iadd' (wpAny_extend_range hh hr hsmall hn hlen S (.ref S) c₀ hS hR)
theorem Zkj {prog:Program}{w:World}{A:Around}{E:Value->Shared->Prop}{s:Shared}{r:Addr}{a b c:Int}{t u v:Tok}{n:Nat}{Q:List Value->Shared->Prop} (hh:A.handled=none) (hr:IsRange s.heap r a b c t u v) (hsmall:Builtin.Range.small a b c=true)
  (hn:Builtin.Range.rangeSize a b c=n) (hlen:n<=2 ^ 24) (h:∀(h':Heap) (tk:Nat) (acc:Array Value),(∀b o,s.heap.get? b=some o->h'.get? b=some o)->ItemsOf (λi v=>∃t,v=.int (a+i*c) t) acc n->Q acc.toList {s with heap:=h',toks:=tk}) :
  wpAny (model prog w) A (collect (.ref r)) Q E s:=by
 unfold collect
 refine Ya (wpAny_runValue (codeAny_builtin entry_proto_collect' ?_))
 show wpAny _ _ (newList [] >>= λl=>again (.builtin "list.__iadd__" ⟨[l,.ref r],[]⟩)) _ _ s
 refine Ya (wpAny_newList (Yc ⟨Code.quiet_builtin _ (by decide +kernel),?_⟩))
 refine Zoy (s:={s with heap:=s.heap.push (seqObj "list" #[] 0)}) hh (Yk _ hr) hsmall hn hlen (Yv _ rfl) λh' tk acc c' hk hS hacc=>?_
 refine Ya (wpAny_load hS (Yc (h h' tk acc (λb o e=>hk b o (Yl (Yj e)) (Yk _ e)) hacc)))
theorem Zkk (g:Int->Int):∀vs:List Value,((vs.map numOf).map g).zip vs=vs.map λv=>(g (numOf v),v)
 |[]=>rfl
 |v::vs=>by
  simp only[YJ,List.zip_cons_cons]
  rw[Zkk g vs]
theorem Zli {b:Bool}{g:Int->Int}{vs out:List Value}{ns:List Int} (hv:IntsAre vs ns) (h:KskOut b (ns.map g) vs out):∃ns',IntsAre out ns'/\ns'.Perm ns/\ns'.Pairwise λx y=>if b then g y<=g x else g x<=g y:=by
 obtain⟨ps,hp,rfl,hs⟩:=h
 have en:ns=vs.map numOf:=hv.nums.symm
 rw[en,Zkk]at hp
 have mem:∀p∈ps,p.1=g (numOf p.2)/\p.2∈vs:=λp hp'=>by
  obtain⟨v,hv',rfl⟩:=YH.mp (hp.mem_iff.mp hp')
  exact⟨rfl,hv'⟩
 refine⟨(ps.map Prod.snd).map numOf,intsAre_map _ λv hv'=>?_,?_,?_⟩
 .obtain⟨p,hp',rfl⟩:=YH.mp hv'
  exact hv.all _ (mem p hp').2
 .have:=(hp.map Prod.snd).map numOf
  rw[YZ (l:=vs),show(Prod.snd ∘ λv=>(g (numOf v),v))=(id:Value->Value)from rfl,List.map_id]at this
  rw[en];exact this
 .rw[List.pairwise_map,List.pairwise_map]
  refine hs.imp_of_mem λ{p q} hp' hq' hr=>?_
  rw[<-(mem p hp').1,<-(mem q hq').1]
  exact hr
noncomputable def nats (n:Int):List Int:=(List.range n.toNat).map λ(i:Nat)=>(i:Int)
section
variable {X:Cx}
theorem ZhE {pins:List (Addr×Obj)}{σ:St}{H:Hp}{s:Shared}{kw:List (Str×Value)}{f:Value}{b:Bool}{p:Addr}{n:Int}{kz:Int->Int}{Q:VK} (I:Inv X pins σ H s) (hc:X.calm=true) (hp:H p=some (.rng 0 n)) (h0:0<=n) (h64:n<64)
  (ha1:argsOk "sorted" ⟨[.ref p],kw⟩) (ha2:∀x,argsOk "list.sort" ⟨[.ref x],kw⟩) (ht:∀x,Builtin.«list.sort» ⟨[.ref x],kw⟩=ksk_tree x f b)
  (turn:∀(H':Hp) (s':Shared) (pins':List (Addr×Obj)) (i:Int) (u:Value),0<=i->i<n->Inv X pins' σ H' s'->Zd H H'->RelV (.int i) u->wpAny (model X.prog X.w) X.A.in1.in1 (call f [u]) (EP X pins' σ λv H2=>v=.int (kz i)/\Zd H' H2) (λ_ _=>False) s')
  (fin:∀(ns:List Int) (l:Addr) (H':Hp),ns.Perm (nats n)->(ns.Pairwise λx y=>if b then kz y<=kz x else kz x<=kz y)->Zd H H'->H l=none->H' l=some (.lst (ns.map V.int))->Q (.ref l) H') :
  wpAny (model X.prog X.w) X.A (call (.builtin "sorted") [.ref p] kw) (EP X pins σ Q) X.xe s:=by
 obtain⟨t,u,v,hob⟩:=(show ∃t u v,s.heap.get? p=some {cls:=.type "range",data:=.fields #[.int 0 t,.int n u,.int 1 v]}from I.hok p _ hp)
 refine call_function_entry_kw kind_sorted plain_sorted entry_sorted ha1 ?_
 unfold Builtin.«sorted»
 refine Ya (m:=checkCount "sorted" 1 1 _) (Yc (Ya (Zkj (n:=n.toNat) (I.ok.hd hc) hob (small_one ⋯ ⋯ ⋯ ⋯) (by rw[rangeSize_one];split<;>omega) ⋯ λh1 tk acc k1 hacc=>Ya (wpAny_newList ?_ ?_))))
 case refine_2=>rw[Ys,hacc.1];exact Yn (show n.toNat<=1000 by omega) nofun
 have hia:IntsAre acc.toList (nats n):=by
  have hv:Vals ((nats n).map V.int) acc.toList:=by
   unfold nats
   rw[YZ]
   exact Zra (g:=λ(i:Nat)=>V.int (i:Int)) (P:=λ(i:Nat) v=>∃t,v=.int (0+(i:Int)*1) t) (λi v h=>by obtain⟨t,e⟩:=h;exact⟨t,by rw[e];simp⟩) _ _ (by rw[Ys];exact hacc.1) λk v hk=>hacc.2 k v (by simpa using hk)
  exact intsAre_of hv
 have I1:=I.kept (t':=tk) k1
 show wpAny _ _ _ _ _ {s with heap:=h1.push (seqObj "list" acc.toList.toArray 0),toks:=tk}
 have oa:(h1.push (seqObj "list" acc.toList.toArray 0)).get? h1.objs.size=some (seqObj "list" acc.toList.toArray 0):=Yv _ rfl
 have I2:=I1.kept (h':=h1.push (seqObj "list" acc.toList.toArray 0)) (t':=tk) λb o e=>Yk _ e
 have na:H h1.objs.size=none:=I1.hok.fresh (Ye _)
 have la:h1.objs.size≠X.env.locals:=Nat.ne_of_gt I1.lt
 have a0:X.s₀.heap.objs.size<=h1.objs.size:=I1.sz
 have hl:acc.toList.length<64:=by rw[Ys,hacc.1];omega
 refine Ya (YE (wpAny_call_entry_kw slot_list_sort ⟨_,oa,rfl⟩ entry_list_sort ?body (ha2 _)))
 case body =>
  show wpAny (model X.prog X.w) X.A.in1.in1 (Builtin.«list.sort» ⟨[.ref h1.objs.size],kw⟩) _ _ _
  rw[ht]
  refine Zrq (e0:=0) (pins:=pins) (ns:=nats n) (kz:=kz) (I2.ZH λq hq=>?_) a0 (λq hq=>?_) hia hl (λH' s' pins' i u hi J sm r=>?_) λH' s' out c J sm n2 o2 ko=>⟨_,rfl,Yc ⟨_,rfl,?_⟩⟩
  .rcases Yi.mp hq with rfl|hq
   .exact⟨oa,na,la,I1.ZjT (Ye _),λv z=>by cases z⟩
   .exact I2.pin q (Ym _ hq)
  .exact Yl (Yj (I1.pin q hq).1)
  .obtain⟨k,hk,rfl⟩:=YH.mp hi
   have:=Yq.mp hk
   exact turn H' s' pins' _ u ⋯ ⋯ J sm r
  .obtain⟨ns,hi,hpm,hpw⟩:=Zli hia ko
   have ca:∀y cc,X.env.cells.lookup y=some cc->cc≠h1.objs.size:=λy cc hc' z=>by
    obtain⟨v,oc,w1,w2⟩:=I1.cell y cc hc'
    exact absurd (Yj w1) (by rw[z];exact YB _)
   have K:=J.track (a:=h1.objs.size) (o:=.lst (ns.map V.int)) n2 la (.inr a0) ca (λq hq=>Yl (Yj (I1.pin q hq).1)) ⟨?_,out.toList,c,ZeC hi,by rw[Array.toArray_toList];exact o2⟩
   .exact⟨.ref h1.objs.size,_,K,rfl,fin ns _ _ hpm hpw (λb o e=>by rw[Zh (Zz e na)];exact sm _ _ e) na Zc⟩
   .rw[Yh,hpm.length_eq]
    unfold nats
    rw[Yh,YX]
    exact Yn (show n.toNat<=1000 by omega) nofun
noncomputable def tSortR1 (ta td:TA) (tb:TE) (js:List (Option Nat)) (env:Env) (P:Addr) (q:Str) (params:Arguments) (body:Expr) (scope:Scope):TE:=fun σ H Q=>ta σ H λvs H1=>td σ H1 λzs H2=>∃(p f:Addr) (n:Int) (kz:Int->Int),
 vs=[.ref p]/\zs=[.ref f]/\H2 p=some (.rng 0 n)/\0<=n/\n<64/\Zic env P q params body scope H2 f /\
 (∀i H3,0<=i->i<n->Zd H2 H3->tb ((iniC js σ).set 0 (some (.int i))) H3 λv H4=>v=.int (kz i)/\Zd H3 H4) /\
 ∀(ns:List Int) (l:Addr) (H3:Hp),ns.Perm (nats n)->(ns.Pairwise λx y=>kz x<=kz y)->Zd H2 H3->H2 l=none->H3 l=some (.lst (ns.map V.int))->Q (.ref l) H3
noncomputable def tSortR2 (ta td:TA) (tb:TE) (js:List (Option Nat)) (env:Env) (P:Addr) (q:Str) (params:Arguments) (body:Expr) (scope:Scope):TE:=fun σ H Q=>ta σ H λvs H1=>td σ H1 λzs H2=>∃(p f:Addr) (n:Int) (kz:Int->Int),
 vs=[.ref p]/\zs=[.ref f,.bl true]/\H2 p=some (.rng 0 n)/\0<=n/\n<64/\Zic env P q params body scope H2 f /\
 (∀i H3,0<=i->i<n->Zd H2 H3->tb ((iniC js σ).set 0 (some (.int i))) H3 λv H4=>v=.int (kz i)/\Zd H3 H4) /\
 ∀(ns:List Int) (l:Addr) (H3:Hp),ns.Perm (nats n)->(ns.Pairwise λx y=>kz y<=kz x)->Zd H2 H3->H2 l=none->H3 l=some (.lst (ns.map V.int))->Q (.ref l) H3
theorem Zkl {pins':List (Addr×Obj)}{σ:St}{H':Hp}{s':Shared}{Nc:List Str}{js:List (Option Nat)}{q pn:Str}{params:Arguments}{body:Expr}{scope:Scope}{P f:Addr}{tb:TE}{Q:VK}{m:Nat}{i:Int}{u:Value} (hr:Room m X.A)
  (S:LamSc X Nc js params body scope pn) (hbody:∀cl L f c s H,PE (ZgD X X.A.in1.in1 Nc q scope cl L f c s H) body tb) (J:Inv X pins' σ H' s') (L:Zic X.env P q params body scope H' f) (r:RelV (.int i) u)
  (h:tb ((iniC js σ).set 0 (some (.int i))) H' Q):wpAny (model X.prog X.w) X.A.in1.in1 (call (.ref f) [u]) (EP X pins' σ Q) (λ_ _=>False) s' :=
 ZhD S hbody J J.ok.frames J.ok.hd hr.depth L r h
theorem Zm2 {Nc:List Str}{js:List (Option Nat)}{q pn:Str}{params:Arguments}{body:Expr}{scope:Scope}{P:Addr}{ta td:TA}{tb:TE}{m:Nat}{e:Expr}{p pos lpos kp1:Pos} (hc:X.calm=true) (hr:Room m X.A) (S:LamSc X Nc js params body scope pn)
  (hbody:∀cl L f c s H,PE (ZgD X X.A.in1.in1 Nc q scope cl L f c s H) body tb) (hg:Gl X "sorted") (hm:X.mg "sorted"=none) (ha:PA X [e] ta) (hd:PK X [⟨some (Str.ofString "key"),.Lambda params body scope lpos,kp1⟩] td)
  (hpl:(backTo pos (starEach [e] X.env)).any (·.1)=false:=by rfl) (hall:(backToKw pos (keywordEach [⟨some (Str.ofString "key"),.Lambda params body scope lpos,kp1⟩] X.env)).all (·.1.isSome)=true:=by rfl)
  (hnn:(backToKw pos (keywordEach [⟨some (Str.ofString "key"),.Lambda params body scope lpos,kp1⟩] X.env)).any (·.1.isNone)=false:=by rfl) (hks:(backToKw pos (keywordEach [⟨some (Str.ofString "key"),.Lambda params body scope lpos,kp1⟩] X.env)).filterMap (·.1)=[Str.ofString "key"]:=by rfl) (hb:backTo pos (starEach [e] X.env)=(false,eval e X.env)::backTo pos (starEach [] X.env):=by rfl) :
  PE X (.Call (.Name "sorted" p) [e] [⟨some (Str.ofString "key"),.Lambda params body scope lpos,kp1⟩] pos) (tSortR1 ta td tb js X.env P q params body scope):=by
 intro pins s σ H Q I h
 refine wpAny_Call_Name_kw (ZaF I hg hm ZeG ?_)
 refine PyProof.Rows.callWith_kw (thn (ha pos pins s σ H _ I h) λus s1 ⟨vs,H1,I1,r1,q1⟩=>?_) hb hpl hall hnn
 refine thn (hd pos pins s1 σ H1 _ I1 q1) λws s2 ⟨zs,H2,I2,r2,pp,f,n,kz,e1,e2,hp,h0,h64,L,tn,fin⟩=>?_
 subst e1 e2
 obtain⟨u,rfl,ru⟩:=r1.one
 cases(show u=Value.ref pp from ru)
 rw[hks]
 obtain⟨v,rfl,rv⟩:=r2.one
 cases(show v=Value.ref f from rv)
 exact ZhE (f:=.ref f) (b:=false) (kz:=kz) I2 hc hp h0 h64 (ksk_s1 _ _) (λx=>ksk_l1 _ _) (λx=>ksk_t1 _ _) (λH' s' pins' i u hi0 hi1 J sm r=>Zkl hr S hbody J (L.same sm) r (tn i H' hi0 hi1 sm)) (λns l H' a1 a2=>fin ns l H' a1 a2)
theorem Zm3 {Nc:List Str}{js:List (Option Nat)}{q pn:Str}{params:Arguments}{body:Expr}{scope:Scope}{P:Addr}{ta td:TA}{tb:TE}{m:Nat}{e:Expr}{e2:Expr}{p pos lpos kp1 kp2:Pos} (hc:X.calm=true) (hr:Room m X.A) (S:LamSc X Nc js params body scope pn)
  (hbody:∀cl L f c s H,PE (ZgD X X.A.in1.in1 Nc q scope cl L f c s H) body tb) (hg:Gl X "sorted") (hm:X.mg "sorted"=none) (ha:PA X [e] ta) (hd:PK X [⟨some (Str.ofString "key"),.Lambda params body scope lpos,kp1⟩,⟨some (Str.ofString "reverse"),e2,kp2⟩] td)
  (hpl:(backTo pos (starEach [e] X.env)).any (·.1)=false:=by rfl) (hall:(backToKw pos (keywordEach [⟨some (Str.ofString "key"),.Lambda params body scope lpos,kp1⟩,⟨some (Str.ofString "reverse"),e2,kp2⟩] X.env)).all (·.1.isSome)=true:=by rfl)
  (hnn:(backToKw pos (keywordEach [⟨some (Str.ofString "key"),.Lambda params body scope lpos,kp1⟩,⟨some (Str.ofString "reverse"),e2,kp2⟩] X.env)).any (·.1.isNone)=false:=by rfl) (hks:(backToKw pos (keywordEach [⟨some (Str.ofString "key"),.Lambda params body scope lpos,kp1⟩,⟨some (Str.ofString "reverse"),e2,kp2⟩] X.env)).filterMap (·.1)=[Str.ofString "key",Str.ofString "reverse"]:=by rfl) (hb:backTo pos (starEach [e] X.env)=(false,eval e X.env)::backTo pos (starEach [] X.env):=by rfl) :
  PE X (.Call (.Name "sorted" p) [e] [⟨some (Str.ofString "key"),.Lambda params body scope lpos,kp1⟩,⟨some (Str.ofString "reverse"),e2,kp2⟩] pos) (tSortR2 ta td tb js X.env P q params body scope):=by
 intro pins s σ H Q I h
 refine wpAny_Call_Name_kw (ZaF I hg hm ZeG ?_)
 refine PyProof.Rows.callWith_kw (thn (ha pos pins s σ H _ I h) λus s1 ⟨vs,H1,I1,r1,q1⟩=>?_) hb hpl hall hnn
 refine thn (hd pos pins s1 σ H1 _ I1 q1) λws s2 ⟨zs,H2,I2,r2,pp,f,n,kz,e1,e2,hp,h0,h64,L,tn,fin⟩=>?_
 subst e1 e2
 obtain⟨u,rfl,ru⟩:=r1.one
 cases(show u=Value.ref pp from ru)
 rw[hks]
 obtain⟨v,v2,rfl,rv,rv2⟩:=r2.two
 cases(show v=Value.ref f from rv)
 cases(show v2=Value.bool true from rv2)
 exact ZhE (f:=.ref f) (b:=true) (kz:=kz) I2 hc hp h0 h64 (ksk_s2 _ _ _) (λx=>ksk_l2 _ _ _) (λx=>ksk_t2 _ _ _) (λH' s' pins' i u hi0 hi1 J sm r=>Zkl hr S hbody J (L.same sm) r (tn i H' hi0 hi1 sm)) (λns l H' a1 a2=>fin ns l H' a1 a2)
end
noncomputable def Zfv (x:Str):Str:=(x++".<locals>.")++"<lambda>"
noncomputable def Z4 (K:Frag) (mg:Str->Option Value) (x:Str) (H:Hp):Prop:=H (Zd1 K mg x)=some (ZhC (Zfv x))
theorem Z4.same {K:Frag}{mg:Str->Option Value}{x:Str}{H H':Hp} (h:Z4 K mg x H) (s:Zd H H'):Z4 K mg x H':=s _ _ h
noncomputable def Zjs (K:Frag) (mg:Str->Option Value) (x:Str) (f:Addr):Prop:=∃c,Zm0 K f=some c/\codeHdIn K c (Zd1 K mg x)=true
section
variable {P:Program}{w:World}{K:Frag}{mg:Str->Option Value}{base:Heap}
theorem Fun.okL {x qual:Str}{st:Stmt}{f:Addr}{fd:FuncData}{N ps:List Str}{k:Nat}{sp:Sp} (F:Fun K x qual st f fd) (L:Zjs K mg qual f) (B:BM mg base) (S:FnScope N ps (defScope st)) (len:∀vs H Q E,sp vs H Q E->vs.length=ps.length)
  (hbody:∀(cdv:Value) (A:Around) (outer:List Env) (s:Shared) (H:Hp) (vs:List V) (Q:VK) (E:XK),LamIn (ZeX (CXE P w) P w K mg base N qual (defScope st) f cdv A outer s H E) (Zd1 K mg qual) (Zfv qual)->Room k (A.deeper (envOfC qual (defScope st) s.heap.objs.size f cdv))->sp vs H Q E ->
   ∃t,PSs (ZeX (CXE P w) P w K mg base N qual (defScope st) f cdv A outer s H E) (defBody st) t/\t {nx:=λ_ H'=>Q .non H',rt:=Q} (start N vs) H):FnOk P w K mg base (CXE P w) (k+1) f fd ps sp:=by
 obtain⟨oc,od,kV,doc,pm,an,cdv,ct,osl,rfl,lk,hcd⟩:=F.ex
 obtain⟨c,h1,h2⟩:=L
 have e:cdv=.ref c:=by
  unfold Zm0 at h1
  rw[lk]at h1
  dsimp only at h1
  cases cdv<;>first|(cases h1;rfl)|(cases h1;done)
 exact ZnQ lk hcd S len λA outer s H vs Q E hr hsp=>hbody cdv A outer s H vs Q E ⟨⟨c,e,h2⟩,B,rfl⟩ hr hsp
end
theorem Zoz {b:Addr}{q:Str}:∀{l:List (Addr×Str)},l.lookup b=some q->(b,q)∈l
 |[],e=>by cases e
 |(c,y)::r,e=>by
  rw[List.lookup_cons]at e
  cases hb:b==c with
  |true=>rw[hb]at e;cases e;rw[eq_of_beq hb];exact Yy
  |false=>rw[hb]at e;exact Yz _ (Zoz e)
theorem Zhb {K:Frag}{mg:Str->Option Value}{x:Str}{f c T:Addr}{oc1 oc2:Value}{od1 od2:Option Addr}{fd:FuncData}{sl1 sl2:Array (Option Value)}{vs:Array Value} (hm:mg x=some (.ref f)) (l1:K.lookup f=some ⟨oc1,od1,.func fd,sl1⟩) (e:fd.code=.ref c) (l2:K.lookup c=some ⟨oc2,od2,.fields vs,sl2⟩) (h11:vs[11]?=some (.ref T)):Zd1 K mg x=T/\Zm0 K f=some c:=by
 have h1:Zm0 K f=some c:=by
  unfold Zm0
  rw[l1]
  dsimp only
  rw[e]
 refine⟨?_,h1⟩
 unfold Zd1
 rw[hm]
 dsimp only
 rw[h1]
 dsimp only
 unfold tabOf
 rw[l2]
 dsimp only
 rw[h11]
theorem Zm4 {P:Program}{w:World}{K:Frag}{mg mb:Str->Option Value}{CX:CXT}{k:Nat}{fa a:Addr}{fd:FuncData}{x:Str}{sp:Sp}{s₁:Shared}{vs:List Value}{ns:List Int}{tabs:List (Addr×Str)}
  (KX:K.In s₁.heap) (hns:s₁.heap.Ns mainGlobals mg) (hb:s₁.heap.Ns builtinsNs mb) (hbb:∀x:Str,x≠"__name__"->mb x=bootBuiltins x) (hlim:s₁.heap.NoLimit) (hg:s₁.gens=#[]) (hbm:BM mg s₁.heap)
  (ha:s₁.heap.get? a=some {cls:=.type "list",data:=.seq vs.toArray}) (hi:IntsAre vs ns) (hl:ns.length<=sizeLine) (hr:Room k callerA)
  (hT:∀p∈tabs,s₁.heap.get? p.1=some (tabObj #[])/\K.lookup p.1=none/\∃c,codeHdIn K c p.1=true) (nd:(tabs.map (·.1)).Nodup)
  (F:∀base:Heap,K.In base->base.Ns mainGlobals mg->BM mg base->FnOk P w K mg base CX k fa fd [x] sp) (hbind:∀(s:Shared) (u:Value),BindsTo s fd ⟨[u],[]⟩ [(x,u)])
  (hsp:∀H:Hp,SqL K H a (ns.map V.int)->(∀p∈tabs,H p.1=some (ZhC p.2))->sp [.ref a] H (λv _=>v=.bl true) λ_ _ _=>False)
  (hCX:∀H e s',CX [] H s₁ (λ_ _ _=>False) e s'->False) :
  codeAny (model P w) callerA (.call (.ref fa) ⟨[.ref a],[]⟩) (λr s'=>r=.ok (.ret (.bool true))/\OldK s₁.heap s'.heap/\s'.os=s₁.os/\AllBare s'.gens) s₁:=by
 have rv:=ZeC hi
 have lenV:=hi.length
 have tmem:∀b q,tabs.lookup b=some q->(b,q)∈tabs:=λb q e=>Zoz e
 have tlook:∀p∈tabs,tabs.lookup p.1=some p.2:=by
  clear hT hsp tmem
  induction tabs with
  |nil=>intro p hp;cases hp
  |cons t r ih =>
   intro p hp
   rw[YJ,List.nodup_cons]at nd
   rcases Yi.mp hp with rfl|hp
   .rw[List.lookup_cons,beq_self_eq_true]
   .have:(p.1==t.1)=false:=beq_eq_false_iff_ne.mpr λz=>nd.1 (YH.mpr ⟨p,hp,z⟩)
    rw[List.lookup_cons,this]
    exact ih nd.2 p hp
 have core:∀H:Hp,SqL K H a (ns.map V.int)->HOk P w H s₁.heap->(∀b,H b=none\/(b=a/\K.lookup a=none/\∃o xs,H b=some (.frz o (.lst xs)))\/∃q,(b,q)∈tabs/\H b=some (ZhC q))->(∀p∈tabs,H p.1=some (ZhC p.2)) ->
   codeAny (model P w) callerA (.call (.ref fa) ⟨[.ref a],[]⟩) (λr s'=>r=.ok (.ret (.bool true))/\OldK s₁.heap s'.heap/\s'.os=s₁.os/\AllBare s'.gens) s₁:=by
  intro H hS hok hA hTb
  have base_of:∀{b:Addr}{o:Obj},s₁.heap.get? b=some o->H b=none->(Zh5 s₁.heap H).get? b=some o:=λe n=>ZnK e n
  have noA:∀{b:Addr}{o:Obj},s₁.heap.get? b=some o->o.cls≠.type "list"->o.cls≠.none->H b=none:=λ{b o} e d1 d2=>by
   rcases hA b with z|⟨z,_⟩|⟨q,z,_⟩
   .exact z
   .subst z;rw[ha]at e;cases e;exact absurd rfl d1
   .rw[(hT _ z).1]at e;cases e;exact absurd rfl d2
  have noD:∀{b:Addr}{o:Obj}{es:Array DictEntry}{ep:Nat},s₁.heap.get? b=some o->o.data=.dict es ep->H b=none:=λ{b o es ep} e d=>by
   rcases hA b with z|⟨z,_⟩|⟨q,z,_⟩
   .exact z
   .subst z;rw[ha]at e;cases e;cases d
   .rw[(hT _ z).1]at e;cases e;cases d
  have nsK:∀{b:Addr}{m:Str->Option Value},s₁.heap.Ns b m->(Zh5 s₁.heap H).Ns b m:=λ{b m} ⟨o,es,ep,e,d,r⟩=>⟨o,es,ep,base_of e (noD e d),d,r⟩
  have hKb:K.In (Zh5 s₁.heap H):=λb o e=>base_of (KX b o e) (by
   rcases hA b with z|⟨z,zk,_⟩|⟨q,z,_⟩
   .exact z
   .subst z;rw[zk]at e;cases e
   .rw[(hT _ z).2.1]at e;cases e)
  have hM:Mod K mg (Zh5 s₁.heap H):=⟨hKb,nsK hns,⟨mb,nsK hb,hbb⟩,let ⟨mc,h1,h2⟩:=hlim;⟨mc,nsK h1,h2⟩⟩
  have hB:BM mg (Zh5 s₁.heap H):=by
   obtain⟨bm,ob,b1,b2,b3,b4,b5,b6,b7⟩:=hbm
   exact⟨bm,ob,b1,b2,b3,base_of b4 (noA b4 (by rw[b5];decide) (by rw[b5];exact λh=>nomatch h)),b5,b6,b7⟩
  have e0:Env0 P w K mg (Zh5 s₁.heap H) callerA [] s₁ H:=⟨rfl,hM,λb o e=>Zq2 e,Ji (Zmp _ _),trivial,λb hb=>absurd (show b∈([]:List Addr)from hb) (by simp),hok,.of_eq hg⟩
  refine codeAny_mono ((F _ hKb (nsK hns) hB).run callerA [] s₁ H ⟨[.ref a],[]⟩ [.ref a] [.ref a] _ _ hr e0 (hbind s₁ (.ref a)) (.cons rfl .nil) (hsp H hS hTb)) λr s' h=>?_
  cases r with
  |error e=>exact(hCX H e s' h).elim
  |ok fl =>
   cases fl with
   |next=>exact False.elim h
   |brk=>exact False.elim h
   |cont=>exact False.elim h
   |ret u =>
    obtain⟨v,H',os,bare,un,hok',r',q⟩:=h
    have q':v=.bl true:=q
    subst q'
    obtain rfl:u=Value.bool true:=r'
    have old:∀b o,s₁.heap.get? b=some o->asItWas s₁.heap s'.heap b o/\∃o',s'.heap.get? b=some o':=λb o e=>by
     rcases hA b with z|⟨_,_,ob,xs,z⟩|⟨q,zm,z⟩
     .have:=un.keep b o e z (by intro y;exact absurd (show b∈([]:List Addr)from y) (by simp)) (by simp)
      exact⟨.inl this,o,this⟩
     .have z2:=un.frzs b ob _ z
      obtain⟨e1,_⟩:=hok b _ z
      obtain⟨e2,_⟩:=hok' b _ z2
      rw[e]at e1;cases e1
      exact⟨.inl e2,o,e2⟩
     .obtain⟨more,z2⟩:=un.tbls b _ z
      obtain⟨ts,e2,_⟩:=hok' b _ z2
      obtain⟨t1,_,c,t3⟩:=hT _ zm
      have t1':s₁.heap.get? b=some (tabObj #[]):=t1
      rw[e]at t1';cases t1'
      refine⟨.inr (.inl ⟨((codeHd_of_K KX t3).tab t1).isCodeTable,rfl,#[],ts,rfl,by rw[Array.empty_append];exact e2⟩),_,e2⟩
    exact⟨rfl,⟨λb o e=>(old b o e).1,λb o e=>(old b o e).2⟩,os,bare⟩
 have neA:∀q,(a,q)∉tabs:=λq z=>by
  have:=(hT _ z).1
  rw[show((a,q):Addr×Str).1=a from rfl,ha]at this;cases this
 have tabok:∀(H:Hp) (b:Addr) (q:Str),(b,q)∈tabs->ZO P w H s₁.heap b (ZhC q):=λH b q z=>⟨#[],(hT _ z).1,trivial,λpos cv e=>by cases e⟩
 cases hk:K.lookup a with
 |some o =>
  have e:=KX a o hk
  rw[ha]at e
  cases e
  refine core (λb=>(tabs.lookup b).map ZhC) (.inr ⟨_,vs.toArray,_,hk,rfl,rfl,rfl,by rw[Yp,lenV];exact hl,by simpa using rv⟩) (λb u z=>?_) (λb=>?_) λp hp=>by rw[tlook p hp];rfl
  .dsimp only at z
   cases q:tabs.lookup b with
   |none=>rw[q]at z;cases z
   |some y=>rw[q]at z;cases z;exact tabok _ b y (tmem b y q)
  .cases q:tabs.lookup b with
   |none=>exact .inl rfl
   |some y=>exact .inr (.inr ⟨y,tmem b y q,rfl⟩)
 |none =>
  refine core (λb=>if b=a then some (.frz {cls:=.type "list",data:=.seq vs.toArray} (.lst (ns.map V.int)))else (tabs.lookup b).map ZhC) (.inl (.inr ⟨{cls:=.type "list",data:=.seq vs.toArray},Yd rfl⟩)) (λb u z=>?_) (λb=>?_) λp hp=>?_
  .by_cases hb:b=a
   .have z':=(Yd hb).symm.trans z
    cases z'
    subst hb
    exact⟨ha,by rw[Yh];exact hl,vs,_,rv,ha⟩
   .have z':=(Yb hb).symm.trans z
    cases q:tabs.lookup b with
    |none=>rw[q]at z';cases z'
    |some y=>rw[q]at z';cases z';exact tabok _ b y (tmem b y q)
  .by_cases hb:b=a
   .exact .inr (.inl ⟨hb,hk,_,_,Yd hb⟩)
   .cases q:tabs.lookup b with
    |none=>exact .inl (by rw[Yb hb];rfl)
    |some y=>exact .inr (.inr ⟨y,tmem b y q,by rw[Yb hb];rfl⟩)
  .have:p.1≠a:=λz=>neA p.2 (by rw[<-z];exact hp)
   rw[Yb this,tlook p hp];rfl
theorem ZoA {l:OpenLaw}{n k:Nat}{q:Program}{loose:List Str}{XP:(Str->Option Value)->Heap->Prop}{YP:World->Heap->Prop}{d:DefRec}{K:Params->Frag}{CX:World->CXT}{sp:World->(Str->Option Value)->Sp}{x:Str}{ts:List Addr}{tabs:Frag->(Str->Option Value)->List (Addr×Str)}
  (hn:l.most=some n) (hn2:n<=sizeLine) (hdf:d.params.defaults=[]) (hr:Room k callerA)
  (hY:∀(w:World) (h:Heap),YP w h->(K w.params).In h) (hY2:∀(w:World) (h:Heap),YP w h->∀P∈ts,h.get? P=some (tabObj #[]))
  (F:∀(w:World) (mg:Str->Option Value) (fa:Addr) (h:Heap),(K w.params).In h->h.Ns mainGlobals mg->mg d.name=some (.ref fa) ->
   ∃fd:FuncData,(∀(s:Shared) (u:Value),BindsTo s fd ⟨[u],[]⟩ [(x,u)])/\(∀p∈tabs (K w.params) mg,p.1∈ts/\(K w.params).lookup p.1=none/\∃c,codeHdIn (K w.params) c p.1=true)/\((tabs (K w.params) mg).map (·.1)).Nodup /\
    ∀base:Heap,(K w.params).In base->base.Ns mainGlobals mg->BM mg base->FnOk l.prog w (K w.params) mg base (CX w) k fa fd [x] (sp w mg))
  (hsp:∀(w:World) (mg:Str->Option Value) (H:Hp) (a:Addr) (ns:List Int),ns.length<=n->SqL (K w.params) H a (ns.map V.int)->(∀p∈tabs (K w.params) mg,H p.1=some (ZhC p.2))->sp w mg [.ref a] H (λv _=>v=.bl true) λ_ _ _=>False)
  (hCX:∀(w:World) (H:Hp) (s:Shared) (e:Value) (s':Shared),CX w [] H s (λ_ _ _=>False) e s'->False) :
  WalkO q loose XP YP l.row.toRowW d [] (λf vs=>PySem.call f vs):=by
 refine Att.ZjY hn hdf λw s₀ s₁ mg mb fa o pm cd doc a vs ns G Y ho hd hcd hmg hobj hints hlen hg=>?_
 have KX:=hY w _ Y
 have TX:=hY2 w _ Y
 obtain⟨fd,hb,hT,nd,hF⟩:=F w mg fa _ KX G.T.g hmg
 have hbm:BM mg s₁.heap:=by
  obtain⟨bm,ob,b1,b2,b3,b4,b5,b6⟩:=G.T.bmain
  have bG:bm≠mainGlobals:=λz=>by
   obtain⟨o,es,ep,e,hd,_⟩:=G.T.g
   rw[z,e]at b3;cases b3;rw[hd]at b6;cases b6
  exact⟨bm,ob,b1,b2,bG,b3,b4,b5,b6⟩
 exact Zm4 KX G.T.g G.T.b G.T.builtins G.T.nolimit hg hbm hobj hints (Yn hlen hn2) hr (λp hp=>⟨TX _ (hT p hp).1,(hT p hp).2⟩) nd hF hb (λH hS hTb=>hsp w mg H a ns hlen hS hTb) λH e s'=>hCX w H s₁ e s'
theorem Zlj (a v d:Value):argsOk "max" ⟨[a],[(Str.ofString "key",v),(Str.ofString "default",d)]⟩:=by unfold argsOk;kernel_rfl
noncomputable def ZcI (kz:Int->Int) (ns:List Int) (m i:Nat):Prop:=∀j,j<m->kz (nth ns j)<=kz (nth ns i)/\(j<i->kz (nth ns j)<kz (nth ns i))
theorem ZcI.one (kz:Int->Int) (ns:List Int):ZcI kz ns 1 0:=λj hj=>⟨by rw[show j=0 by omega];exact Int.le_refl _,λh=>absurd h ⋯⟩
theorem ZcI.take {kz:Int->Int}{ns:List Int}{m i:Nat} (h:ZcI kz ns m i) (hi:i<m) (c:kz (nth ns m)>kz (nth ns i)):ZcI kz ns (m+1) m:=λj hj=>by
 by_cases e:j=m
 .subst e;exact⟨Int.le_refl _,λh=>absurd h ⋯⟩
 .have:=(h j ⋯).1
  exact⟨⋯,λ_=>⋯⟩
theorem ZcI.keep {kz:Int->Int}{ns:List Int}{m i:Nat} (h:ZcI kz ns m i) (hi:i<m) (c:¬ kz (nth ns m)>kz (nth ns i)):ZcI kz ns (m+1) i:=λj hj=>by
 by_cases e:j=m
 .subst e;exact⟨⋯,λz=>absurd z ⋯⟩
 .exact h j ⋯
section
variable {X:Cx}
theorem ZF {σ:St}{H':Hp}{s':Shared}{ps:List (Addr×Obj)}{x:Addr}{o:Obj} (J:Inv X ps σ H' s') (hm:(x,o)∈ps):s'.heap.get? x=some o/\H' x=none/\x≠X.env.locals/\x∉X.fs/\(∀v,o.data≠.cell v)/\∀y cc,X.env.cells.lookup y=some cc->cc≠x:=by
 obtain⟨q1,q2,q3,q4,q5⟩:=J.pin _ (Ym _ hm)
 refine⟨q1,q2,q3,q4,q5,λy cc hc z=>?_⟩
 obtain⟨v,oc,w1,w2⟩:=J.cell y cc hc
 rw[z,q1]at w1;cases w1;exact q5 _ w2
theorem Zm5 {pins:List (Addr×Obj)}{σ:St}{H:Hp}{A:Around}{R:Result->Shared->Prop}{d:Value}{dk:Str}{l I S q:Addr}{ns:List Int}{kz:Int->Int}
  (hh:A.handled=none) (hlI:l≠I) (hSI:S≠I) (hI0:X.s₀.heap.objs.size<=I) (hS0:X.s₀.heap.objs.size<=S) (hp:∀p∈X.pn++pins,p.1≠I/\p.1≠S) (hl:H l=some (.lst (ns.map V.int)))
  (turn:∀(H':Hp) (s':Shared) (pins':List (Addr×Obj)) (n:Int) (u:Value),n∈ns->Inv X pins' σ H' s'->Zd H H'->RelV (.int n) u->wpAny (model X.prog X.w) A.in1 (call (.ref q) [u]) (EP X pins' σ λv H2=>v=.int (kz n)/\Zd H' H2) (λ_ _=>False) s')
  (hR0:ns=[]->∀H' s',Inv X pins σ H' s'->Zd H H'->R (.ok (.ret d)) s')
  (hR:∀(i:Nat) (v:Value) H' s',i<ns.length->RelV (.int (nth ns i)) v->ZcI kz ns ns.length i->Inv X pins σ H' s'->Zd H H'->R (.ok (.ret v)) s') :
  ∀(r j:Nat) (H':Hp) (s':Shared) (buf:Array Value) (c:Nat) (oI:Obj),ns.length-j=r->j<=ns.length->Inv X ((S,seqObj "list" buf c)::(I,oI)::pins) σ H' s'->Zd H H'->s'.heap.IsListIter I l j ->
   ((j=0/\buf=#[])\/∃(i:Nat) (vb:Value) (tb:Tok),i<j/\buf=#[vb,.int (kz (nth ns i)) tb]/\RelV (.int (nth ns i)) vb/\ZcI kz ns j i) ->
   codeAny (model X.prog X.w) A (.builtin "max.loop" ⟨[.ref I,.ref q,.ref S],[(dk,d)]⟩) R s':=by
 have hname:(toString "max"++toString ".loop":String)="max.loop":=by decide
 intro r
 induction r with
 |zero =>
  intro j H' s' buf c oI hr hj J sm hit hb
  have hjn:j=ns.length:= ⋯
  obtain⟨oS,nS,lS,fS,_,cS⟩:=ZF J (Yy ..)
  obtain⟨oI',nI,lI,fI,dI,cI⟩:=ZF J (Yz _ (Yy ..))
  obtain⟨its,rv,pl,_⟩:=J.list (SqL.of (sm _ _ hl))
  have hlen:its.length=ns.length:=by have:=rv.length;rw[Yh]at this;omega
  have hsz:its.toArray.size=its.length:=Yp ..
  have W:=Walks.list (prog:=X.prog) (w:=X.w) (A:=A.in1) hh I l hlI its.toArray
  have J0:Inv X pins σ H' s':=J.ZH λp hp'=>J.pin p (Ym _ (Yz _ (Yz _ hp')))
  refine codeAny_builtin PySem.F.entry_max_loop ?_
  rw[Around.under_plainId PySem.F.plain_max_loop _]
  show wpAny _ A.in1 (seqItems? (.ref S) >>= _) _ _ _
  refine Ya (wpAny_seqItems oS rfl ?_)
  rcases hb with⟨hj0,rfl⟩|⟨i,vb,tb,hi,rfl,rvb,hB⟩
  .refine Ya (wpAny_tryCatch (W.done _ _ _ ⟨by rw[hsz,hlen,<-hjn];exact hit,pl.isList⟩ λh' tk' hk'=>?_))
   refine Ya (wpAny_rule (Yc ?_))
   exact hR0 (List.length_eq_zero_iff.mp ⋯) H' _ (J0.turned (it:=I) (λb o nb e=>hk' b o (by simpa using nb) e) nI lI (.inr hI0) cI λp hp'=>(hp p hp').1) sm
  .refine Ya (wpAny_tryCatch (W.done _ _ _ ⟨by rw[hsz,hlen,<-hjn];exact hit,pl.isList⟩ λh' tk' hk'=>?_))
   have hS':=hk' S _ (by simpa using hSI) oS
   have J1:=J0.turned (t':=tk') (h':=h') (it:=I) (λb o nb e=>hk' b o (by simpa using nb) e) nI lI (.inr hI0) cI λp hp'=>(hp p hp').1
   refine Ya (wpAny_updateSeq hS' rfl ?_ (show 2<=sizeLine by decide) (Yo _))
   refine Ya (wpAny_letGo (Yc ?_))
   have J2:=J1.turned (t':=tk') (h':=h'.update S (Obj.mapSeq λ_=>(#[]:Array Value))) (it:=S) (λb o nb e=>(Heap.get?_update_ne _ _ _ _ nb).trans e) nS lS (.inr hS0) cS λp hp'=>(hp p hp').2
   exact hR i vb H' _ ⋯ rvb (hjn▸hB) J2 sm
 |succ r ih =>
  intro j H' s' buf c oI hr hj J sm hit hb
  have hlt:j<ns.length:= ⋯
  obtain⟨oS,nS,lS,fS,_,cS⟩:=ZF J (Yy ..)
  obtain⟨oI',nI,lI,fI,dI,cI⟩:=ZF J (Yz _ (Yy ..))
  obtain⟨its,rv,pl,_⟩:=J.list (SqL.of (sm _ _ hl))
  have hlen:its.length=ns.length:=by have:=rv.length;rw[Yh]at this;omega
  have hsz:its.toArray.size=its.length:=Yp ..
  have W:=Walks.list (prog:=X.prog) (w:=X.w) (A:=A.in1) hh I l hlI its.toArray
  have J0:Inv X ((S,seqObj "list" buf c)::pins) σ H' s':=J.ZH λp hp'=>J.pin p (Ym _ (by
   rcases Yi.mp hp' with z|z
   .exact Yi.mpr (.inl z)
   .exact Yz _ (Yz _ z)))
  refine codeAny_builtin PySem.F.entry_max_loop ?_
  rw[Around.under_plainId PySem.F.plain_max_loop _]
  show wpAny _ A.in1 (seqItems? (.ref S) >>= _) _ _ _
  refine Ya (wpAny_seqItems oS rfl ?_)
  have step:∀(v:Value) (h':Heap) (tk':Nat),its.toArray[j]?=some v->h'.IsListIter I l (j+1)/\h'.IsList l its.toArray->(∀b o,b∉[I]->s'.heap.get? b=some o->h'.get? b=some o)->RelV (.int (nth ns j)) v/\∃oI2,h'.get? I=some oI2/\Inv X ((S,seqObj "list" buf c)::(I,oI2)::pins) σ H' {s' with heap:=h',toks:=tk'}:=λv h' tk' hP hst hk'=>by
   refine⟨?_,?_⟩
   .obtain⟨v',e1,e2⟩:=rv.get (i:=j) (x:=V.int (nth ns j)) (by unfold nth;rw[YG,Yg,Yf hlt];rfl)
    have:its[j]?=some v:=by simpa using hP
    rw[e1]at this;cases this;exact e2
   .obtain⟨oI2,g2,hcls,hdat⟩:=id hst.1
    have J1:=J0.turned (t':=tk') (h':=h') (it:=I) (λb o nb e=>hk' b o (by simpa using nb) e) nI lI (.inr hI0) cI λp hp'=>by
     rcases Yw.mp hp' with z|z
     .exact(hp p (YS _ z)).1
     .rcases Yi.mp z with rfl|z
      .exact hSI
      .exact(hp p (Ym _ z)).1
    refine⟨oI2,g2,J1.ZH λp hp'=>?_⟩
    rcases Yi.mp hp' with rfl|hp'
    .exact J1.pin _ (Ym _ (Yy ..))
    .rcases Yi.mp hp' with rfl|hp'
     .exact⟨g2,nI,lI,fI,λv z=>by rw[hdat]at z;cases z⟩
     .exact J1.pin _ (Ym _ (Yz _ hp'))
  have write:∀{H2:Hp}{s2:Shared}{oI2:Obj} (v:Value) (t2:Tok) (b2:Array Value) (c0:Nat),Inv X ((S,seqObj "list" b2 c0)::(I,oI2)::pins) σ H2 s2->∃c2,Inv X ((S,seqObj "list" #[v,.int (kz (nth ns j)) t2] c2)::(I,oI2)::pins) σ H2 {s2 with heap:=s2.heap.update S (Obj.mapSeq λ_=>#[v,.int (kz (nth ns j)) t2])}:=λ{H2 s2 oI2} v t2 b2 c0 K=>by
   obtain⟨o2,n2,l2,f2,_,cc2⟩:=ZF K (Yy ..)
   obtain⟨c2,hc2⟩:∃c2,(s2.heap.update S (Obj.mapSeq λ_=>#[v,.int (kz (nth ns j)) t2])).get? S=some (seqObj "list" #[v,.int (kz (nth ns j)) t2] c2):=⟨_,get?_update_seq o2 λ_=>#[v,.int (kz (nth ns j)) t2]⟩
   have K0:Inv X ((I,oI2)::pins) σ H2 s2:=K.ZH λp hp'=>K.pin p (Ym _ (Yz _ hp'))
   have K1:=K0.turned (t':=s2.toks) (h':=s2.heap.update S (Obj.mapSeq λ_=>#[v,.int (kz (nth ns j)) t2])) (it:=S) (λb o nb e=>(Heap.get?_update_ne _ _ _ _ nb).trans e) n2 l2 (.inr hS0) cc2 λp hp'=>by
    rcases Yw.mp hp' with z|z
    .exact(hp p (YS _ z)).2
    .rcases Yi.mp z with rfl|z
     .exact hSI.symm
     .exact(hp p (Ym _ z)).2
   refine⟨c2,K1.ZH λp hp'=>?_⟩
   rcases Yi.mp hp' with rfl|hp'
   .exact⟨hc2,n2,l2,f2,λv z=>by cases z⟩
   .exact K1.pin p (Ym _ hp')
  have mem:nth ns j∈ns:=by unfold nth;rw[Yg,Yf hlt];exact YK hlt
  rcases hb with⟨hj0,rfl⟩|⟨i,vb,tb,hi,rfl,rvb,hB⟩
  .refine Ya (wpAny_tryCatch (W.item j _ _ _ (by rw[hsz,hlen];exact hlt) ⟨hit,pl.isList⟩ λv h' tk' hP hst' hk'=>?_))
   obtain⟨rj,oI2,gI,J2⟩:=step v h' tk' hP hst' hk'
   obtain⟨oI3,gI3,hcls,hdat⟩:=id hst'.1
   rw[gI]at gI3;cases gI3
   refine Ya (wpAny_tryCatch (YE (YM (turn H' _ _ _ v mem J2 sm rj) (λx s'' he=>?_) λ_ _ hF=>hF.elim)))
   obtain⟨x2,H2,J3,r2,rfl,sm2⟩:=he
   obtain⟨t2,rfl⟩:=r2
   obtain⟨oS3,_⟩:=ZF J3 (Yy ..)
   obtain⟨oI4,_⟩:=ZF J3 (Yz _ (Yy ..))
   obtain⟨c2,J4⟩:=write v t2 _ _ J3
   refine Ya (wpAny_updateSeq oS3 rfl ?_ (Yo _) (show 2<=sizeLine+1 by decide))
   rw[hname]
   refine Yc ⟨plainId_quiet PySem.F.plain_max_loop _,ih (j+1) H2 _ _ c2 oI2 ⋯ hlt J4 (sm.trans sm2) ⟨oI2,(Heap.get?_update_ne _ _ _ _ hSI.symm).trans oI4,hcls,hdat⟩ (.inr ⟨j,v,t2,⋯,rfl,rj,?_⟩)⟩
   subst hj0;exact ZcI.one kz ns
  .refine Ya (wpAny_tryCatch (W.item j _ _ _ (by rw[hsz,hlen];exact hlt) ⟨hit,pl.isList⟩ λv h' tk' hP hst' hk'=>?_))
   obtain⟨rj,oI2,gI,J2⟩:=step v h' tk' hP hst' hk'
   obtain⟨oI3,gI3,hcls,hdat⟩:=id hst'.1
   rw[gI]at gI3;cases gI3
   refine Ya (wpAny_tryCatch (YE (YM (turn H' _ _ _ v mem J2 sm rj) (λx s'' he=>?_) λ_ _ hF=>hF.elim)))
   obtain⟨x2,H2,J3,r2,rfl,sm2⟩:=he
   obtain⟨t2,rfl⟩:=r2
   obtain⟨oS3,_⟩:=ZF J3 (Yy ..)
   obtain⟨oI4,_⟩:=ZF J3 (Yz _ (Yy ..))
   refine Ya (wpAny_tryCatch (YE (Ya (CmpOf.ints_gt (prog:=X.prog) (w:=X.w) (A:=A.in1) (P:=λi v=>∃t,v=.int (kz (nth ns i)) t) (λi=>kz (nth ns i)) (λi v h=>h) j i _ _ _ _ _ ⟨t2,rfl⟩ ⟨tb,rfl⟩ ?_))))
   refine Ya (YE (wpAny_truthy_bool ?_))
   refine Ya (wpAny_letGo (Yc ?_))
   by_cases hb':kz (nth ns j)>kz (nth ns i)
   .simp only[hb',decide_true,if_true]
    obtain⟨c2,J4⟩:=write v t2 _ _ J3
    refine Ya (wpAny_updateSeq oS3 rfl (Ya (wpAny_letGo ?_)) (show 2<=sizeLine by decide) (show 2<=sizeLine+1 by decide))
    rw[hname]
    exact Yc ⟨plainId_quiet PySem.F.plain_max_loop _,ih (j+1) H2 _ _ c2 oI2 ⋯ hlt J4 (sm.trans sm2) ⟨oI2,(Heap.get?_update_ne _ _ _ _ hSI.symm).trans oI4,hcls,hdat⟩ (.inr ⟨j,v,t2,⋯,rfl,rj,hB.take hi hb'⟩)⟩
   .simp only[hb',decide_false,Bool.false_eq_true,if_false]
    refine Ya (wpAny_letGo ?_)
    rw[hname]
    exact Yc ⟨plainId_quiet PySem.F.plain_max_loop _,ih (j+1) H2 _ _ c oI2 ⋯ hlt J3 (sm.trans sm2) ⟨oI2,oI4,hcls,hdat⟩ (.inr ⟨i,vb,tb,⋯,rfl,rvb,hB.keep hi hb'⟩)⟩
theorem maxKD {pins:List (Addr×Obj)}{σ:St}{H:Hp}{s:Shared}{l q:Addr}{ns:List Int}{kz:Int->Int}{d:Value}{dv:V}{Q:VK} (I:Inv X pins σ H s) (hc:X.calm=true) (hl:H l=some (.lst (ns.map V.int))) (rd:RelV dv d)
  (turn:∀(H':Hp) (s':Shared) (pins':List (Addr×Obj)) (n:Int) (u:Value),n∈ns->Inv X pins' σ H' s'->Zd H H'->RelV (.int n) u->wpAny (model X.prog X.w) X.A.in1 (call (.ref q) [u]) (EP X pins' σ λv H2=>v=.int (kz n)/\Zd H' H2) (λ_ _=>False) s')
  (fin0:ns=[]->∀H',Zd H H'->Q dv H') (fin:∀i H',i<ns.length->ZcI kz ns ns.length i->Zd H H'->Q (.int (nth ns i)) H') :
  wpAny (model X.prog X.w) X.A (call (.builtin "max") [.ref l] [(Str.ofString "key",.ref q),(Str.ofString "default",d)]) (EP X pins σ Q) X.xe s:=by
 have hname:(toString "max"++toString ".loop":String)="max.loop":=by decide
 obtain⟨its,rv,pl,_⟩:=I.list (SqL.of hl)
 obtain⟨ol,hol,_⟩:=id pl.isList
 have hll:l<s.heap.objs.size:=Yj hol
 refine kmk_tree PySem.F.kind_max PySem.F.plain_max PySem.F.entry_max (Zlj _ _ _) ?_
 show wpAny _ X.A.in1 (Builtin.Builtins.bindParams "max" ["key","default"] 0 ⟨[],[(Str.ofString "key",.ref q),(Str.ofString "default",d)]⟩ >>= _) _ _ s
 refine Ya (wpAny_of_eq (show Builtin.Builtins.bindParams "max" ["key","default"] 0 ⟨[],[(Str.ofString "key",.ref q),(Str.ofString "default",d)]⟩=pure [some (.ref q),some d]from rfl) ?_)
 refine Ya (Yc ?_)
 refine Ya (wpAny_pyIter_list pl.isList ?_)
 refine Ya (wpAny_newList ?_ (Yo _))
 rw[hname]
 refine Yc ⟨plainId_quiet PySem.F.plain_max_loop _,?_⟩
 have hS:(s.heap.push {cls:=.type "list_iterator",data:=.fields #[.ref l,.int 0 0]}).objs.size=s.heap.objs.size+1:=size_push' ..
 have I2:=I.kept (h':=(s.heap.push {cls:=.type "list_iterator",data:=.fields #[.ref l,.int 0 0]}).push (seqObj "list" #[] 0)) (t':=s.toks) λb o e=>Yk _ (Yk _ e)
 have gI:((s.heap.push {cls:=.type "list_iterator",data:=.fields #[.ref l,.int 0 0]}).push (seqObj "list" #[] 0)).get? s.heap.objs.size=some {cls:=.type "list_iterator",data:=.fields #[.ref l,.int 0 0]}:=Yk _ (Yv _ rfl)
 have gS:((s.heap.push {cls:=.type "list_iterator",data:=.fields #[.ref l,.int 0 0]}).push (seqObj "list" #[] 0)).get? (s.heap.objs.size+1)=some (seqObj "list" #[] 0):=by rw[<-hS];exact Yv _ rfl
 rw[hS]
 refine Zm5 (pins:=pins) (H:=H) (ns:=ns) (kz:=kz) (I.ok.hd hc) (Yl hll) (Nat.ne_of_gt (Nat.lt_succ_self _)) I.sz (Nat.le_succ_of_le I.sz) (λp hp=>?_) hl turn (λz H' s' J sm=>⟨dv,H',J,rd,fin0 z H' sm⟩) (λi v H' s' hi r hB J sm=>⟨.int (nth ns i),H',J,r,fin i H' hi hB sm⟩) _ 0 H _ #[] 0 {cls:=.type "list_iterator",data:=.fields #[.ref l,.int 0 0]} rfl (Yo _) (I2.ZH λp hp=>?_) (Zd.refl H) ⟨_,gI,rfl,rfl⟩ (.inl ⟨rfl,rfl⟩)
 .have:=Yj (I.pin p hp).1
  exact⟨Yl this,Yl (YR this)⟩
 .rcases Yi.mp hp with rfl|hp
  .exact⟨gS,I.hok.fresh (YY _),Nat.ne_of_gt (YR I.lt),I.ZjT (YY _),λv z=>by cases z⟩
  .rcases Yi.mp hp with rfl|hp
   .exact⟨gI,I.hok.fresh (Ye _),Nat.ne_of_gt I.lt,I.ZjT (Ye _),λv z=>by cases z⟩
   .exact I2.pin p (Ym _ hp)
noncomputable def tMaxKD (ta td:TA) (tb:TE) (js:List (Option Nat)) (env:Env) (P:Addr) (q:Str) (params:Arguments) (body:Expr) (scope:Scope):TE:=fun σ H Q=>ta σ H λvs H1=>td σ H1 λzs H2=>∃(p f:Addr) (dv:V) (ns:List Int) (kz:Int->Int),
 vs=[.ref p]/\zs=[.ref f,dv]/\H2 p=some (.lst (ns.map V.int))/\Zic env P q params body scope H2 f /\
 (∀n H3,n∈ns->Zd H2 H3->tb ((iniC js σ).set 0 (some (.int n))) H3 λv H4=>v=.int (kz n)/\Zd H3 H4) /\
 (ns=[]->∀H3,Zd H2 H3->Q dv H3)/\∀i H3,i<ns.length->ZcI kz ns ns.length i->Zd H2 H3->Q (.int (nth ns i)) H3
theorem ZoB {Nc:List Str}{js:List (Option Nat)}{q pn:Str}{params:Arguments}{body:Expr}{scope:Scope}{P:Addr}{ta td:TA}{tb:TE}{m:Nat}{e:Expr}{e2:Expr}{p pos lpos kp1 kp2:Pos} (hc:X.calm=true) (hr:Room m X.A) (S:LamSc X Nc js params body scope pn)
  (hbody:∀cl L f c s H,PE (ZgD X X.A.in1 Nc q scope cl L f c s H) body tb) (hg:Gl X "max") (hm:X.mg "max"=none) (ha:PA X [e] ta) (hd:PK X [⟨some (Str.ofString "key"),.Lambda params body scope lpos,kp1⟩,⟨some (Str.ofString "default"),e2,kp2⟩] td)
  (hpl:(backTo pos (starEach [e] X.env)).any (·.1)=false:=by rfl) (hall:(backToKw pos (keywordEach [⟨some (Str.ofString "key"),.Lambda params body scope lpos,kp1⟩,⟨some (Str.ofString "default"),e2,kp2⟩] X.env)).all (·.1.isSome)=true:=by rfl)
  (hnn:(backToKw pos (keywordEach [⟨some (Str.ofString "key"),.Lambda params body scope lpos,kp1⟩,⟨some (Str.ofString "default"),e2,kp2⟩] X.env)).any (·.1.isNone)=false:=by rfl) (hks:(backToKw pos (keywordEach [⟨some (Str.ofString "key"),.Lambda params body scope lpos,kp1⟩,⟨some (Str.ofString "default"),e2,kp2⟩] X.env)).filterMap (·.1)=[Str.ofString "key",Str.ofString "default"]:=by rfl) (hb:backTo pos (starEach [e] X.env)=(false,eval e X.env)::backTo pos (starEach [] X.env):=by rfl) :
  PE X (.Call (.Name "max" p) [e] [⟨some (Str.ofString "key"),.Lambda params body scope lpos,kp1⟩,⟨some (Str.ofString "default"),e2,kp2⟩] pos) (tMaxKD ta td tb js X.env P q params body scope):=by
 intro pins s σ H Q I h
 refine wpAny_Call_Name_kw (ZaF I hg hm ZkW ?_)
 refine PyProof.Rows.callWith_kw (thn (ha pos pins s σ H _ I h) λus s1 ⟨vs,H1,I1,r1,q1⟩=>?_) hb hpl hall hnn
 refine thn (hd pos pins s1 σ H1 _ I1 q1) λws s2 ⟨zs,H2,I2,r2,pp,f,dv,ns,kz,e1,e2,hp,L,tn,fin0,fin⟩=>?_
 subst e1 e2
 obtain⟨u,rfl,ru⟩:=r1.one
 cases(show u=Value.ref pp from ru)
 rw[hks]
 obtain⟨v,v2,rfl,rv,rv2⟩:=r2.two
 cases(show v=Value.ref f from rv)
 exact maxKD (kz:=kz) I2 hc hp rv2 (λH' s' pins' n u hn J sm r=>ZhD S hbody J J.ok.frames J.ok.hd hr.depth (L.same sm) r (tn n H' hn sm)) fin0 fin
end
theorem Zlk (a v d:Value):argsOk "min" ⟨[a],[(Str.ofString "key",v),(Str.ofString "default",d)]⟩:=by unfold argsOk;kernel_rfl
noncomputable def ZaU (kz:Int->Int) (ns:List Int) (m i:Nat):Prop:=∀j,j<m->kz (nth ns i)<=kz (nth ns j)/\(j<i->kz (nth ns i)<kz (nth ns j))
theorem ZaU.one (kz:Int->Int) (ns:List Int):ZaU kz ns 1 0:=λj hj=>⟨by rw[show j=0 by omega];exact Int.le_refl _,λh=>absurd h ⋯⟩
theorem ZaU.take {kz:Int->Int}{ns:List Int}{m i:Nat} (h:ZaU kz ns m i) (hi:i<m) (c:kz (nth ns m)<kz (nth ns i)):ZaU kz ns (m+1) m:=λj hj=>by
 by_cases e:j=m
 .subst e;exact⟨Int.le_refl _,λh=>absurd h ⋯⟩
 .have:=(h j ⋯).1
  exact⟨⋯,λ_=>⋯⟩
theorem ZaU.keep {kz:Int->Int}{ns:List Int}{m i:Nat} (h:ZaU kz ns m i) (hi:i<m) (c:¬ kz (nth ns m)<kz (nth ns i)):ZaU kz ns (m+1) i:=λj hj=>by
 by_cases e:j=m
 .subst e;exact⟨⋯,λz=>absurd z ⋯⟩
 .exact h j ⋯
section
variable {X:Cx}
theorem Zm6 {pins:List (Addr×Obj)}{σ:St}{H:Hp}{A:Around}{R:Result->Shared->Prop}{d:Value}{dk:Str}{l I S q:Addr}{ns:List Int}{kz:Int->Int}
  (hh:A.handled=none) (hlI:l≠I) (hSI:S≠I) (hI0:X.s₀.heap.objs.size<=I) (hS0:X.s₀.heap.objs.size<=S) (hp:∀p∈X.pn++pins,p.1≠I/\p.1≠S) (hl:H l=some (.lst (ns.map V.int)))
  (turn:∀(H':Hp) (s':Shared) (pins':List (Addr×Obj)) (n:Int) (u:Value),n∈ns->Inv X pins' σ H' s'->Zd H H'->RelV (.int n) u->wpAny (model X.prog X.w) A.in1 (call (.ref q) [u]) (EP X pins' σ λv H2=>v=.int (kz n)/\Zd H' H2) (λ_ _=>False) s')
  (hR0:ns=[]->∀H' s',Inv X pins σ H' s'->Zd H H'->R (.ok (.ret d)) s')
  (hR:∀(i:Nat) (v:Value) H' s',i<ns.length->RelV (.int (nth ns i)) v->ZaU kz ns ns.length i->Inv X pins σ H' s'->Zd H H'->R (.ok (.ret v)) s') :
  ∀(r j:Nat) (H':Hp) (s':Shared) (buf:Array Value) (c:Nat) (oI:Obj),ns.length-j=r->j<=ns.length->Inv X ((S,seqObj "list" buf c)::(I,oI)::pins) σ H' s'->Zd H H'->s'.heap.IsListIter I l j ->
   ((j=0/\buf=#[])\/∃(i:Nat) (vb:Value) (tb:Tok),i<j/\buf=#[vb,.int (kz (nth ns i)) tb]/\RelV (.int (nth ns i)) vb/\ZaU kz ns j i) ->
   codeAny (model X.prog X.w) A (.builtin "min.loop" ⟨[.ref I,.ref q,.ref S],[(dk,d)]⟩) R s':=by
 have hname:(toString "min"++toString ".loop":String)="min.loop":=by decide
 intro r
 induction r with
 |zero =>
  intro j H' s' buf c oI hr hj J sm hit hb
  have hjn:j=ns.length:= ⋯
  obtain⟨oS,nS,lS,fS,_,cS⟩:=ZF J (Yy ..)
  obtain⟨oI',nI,lI,fI,dI,cI⟩:=ZF J (Yz _ (Yy ..))
  obtain⟨its,rv,pl,_⟩:=J.list (SqL.of (sm _ _ hl))
  have hlen:its.length=ns.length:=by have:=rv.length;rw[Yh]at this;omega
  have hsz:its.toArray.size=its.length:=Yp ..
  have W:=Walks.list (prog:=X.prog) (w:=X.w) (A:=A.in1) hh I l hlI its.toArray
  have J0:Inv X pins σ H' s':=J.ZH λp hp'=>J.pin p (Ym _ (Yz _ (Yz _ hp')))
  refine codeAny_builtin PySem.F.entry_min_loop ?_
  rw[Around.under_plainId PySem.F.plain_min_loop _]
  show wpAny _ A.in1 (seqItems? (.ref S) >>= _) _ _ _
  refine Ya (wpAny_seqItems oS rfl ?_)
  rcases hb with⟨hj0,rfl⟩|⟨i,vb,tb,hi,rfl,rvb,hB⟩
  .refine Ya (wpAny_tryCatch (W.done _ _ _ ⟨by rw[hsz,hlen,<-hjn];exact hit,pl.isList⟩ λh' tk' hk'=>?_))
   refine Ya (wpAny_rule (Yc ?_))
   exact hR0 (List.length_eq_zero_iff.mp ⋯) H' _ (J0.turned (it:=I) (λb o nb e=>hk' b o (by simpa using nb) e) nI lI (.inr hI0) cI λp hp'=>(hp p hp').1) sm
  .refine Ya (wpAny_tryCatch (W.done _ _ _ ⟨by rw[hsz,hlen,<-hjn];exact hit,pl.isList⟩ λh' tk' hk'=>?_))
   have hS':=hk' S _ (by simpa using hSI) oS
   have J1:=J0.turned (t':=tk') (h':=h') (it:=I) (λb o nb e=>hk' b o (by simpa using nb) e) nI lI (.inr hI0) cI λp hp'=>(hp p hp').1
   refine Ya (wpAny_updateSeq hS' rfl ?_ (show 2<=sizeLine by decide) (Yo _))
   refine Ya (wpAny_letGo (Yc ?_))
   have J2:=J1.turned (t':=tk') (h':=h'.update S (Obj.mapSeq λ_=>(#[]:Array Value))) (it:=S) (λb o nb e=>(Heap.get?_update_ne _ _ _ _ nb).trans e) nS lS (.inr hS0) cS λp hp'=>(hp p hp').2
   exact hR i vb H' _ ⋯ rvb (hjn▸hB) J2 sm
 |succ r ih =>
  intro j H' s' buf c oI hr hj J sm hit hb
  have hlt:j<ns.length:= ⋯
  obtain⟨oS,nS,lS,fS,_,cS⟩:=ZF J (Yy ..)
  obtain⟨oI',nI,lI,fI,dI,cI⟩:=ZF J (Yz _ (Yy ..))
  obtain⟨its,rv,pl,_⟩:=J.list (SqL.of (sm _ _ hl))
  have hlen:its.length=ns.length:=by have:=rv.length;rw[Yh]at this;omega
  have hsz:its.toArray.size=its.length:=Yp ..
  have W:=Walks.list (prog:=X.prog) (w:=X.w) (A:=A.in1) hh I l hlI its.toArray
  have J0:Inv X ((S,seqObj "list" buf c)::pins) σ H' s':=J.ZH λp hp'=>J.pin p (Ym _ (by
   rcases Yi.mp hp' with z|z
   .exact Yi.mpr (.inl z)
   .exact Yz _ (Yz _ z)))
  refine codeAny_builtin PySem.F.entry_min_loop ?_
  rw[Around.under_plainId PySem.F.plain_min_loop _]
  show wpAny _ A.in1 (seqItems? (.ref S) >>= _) _ _ _
  refine Ya (wpAny_seqItems oS rfl ?_)
  have step:∀(v:Value) (h':Heap) (tk':Nat),its.toArray[j]?=some v->h'.IsListIter I l (j+1)/\h'.IsList l its.toArray->(∀b o,b∉[I]->s'.heap.get? b=some o->h'.get? b=some o)->RelV (.int (nth ns j)) v/\∃oI2,h'.get? I=some oI2/\Inv X ((S,seqObj "list" buf c)::(I,oI2)::pins) σ H' {s' with heap:=h',toks:=tk'}:=λv h' tk' hP hst hk'=>by
   refine⟨?_,?_⟩
   .obtain⟨v',e1,e2⟩:=rv.get (i:=j) (x:=V.int (nth ns j)) (by unfold nth;rw[YG,Yg,Yf hlt];rfl)
    have:its[j]?=some v:=by simpa using hP
    rw[e1]at this;cases this;exact e2
   .obtain⟨oI2,g2,hcls,hdat⟩:=id hst.1
    have J1:=J0.turned (t':=tk') (h':=h') (it:=I) (λb o nb e=>hk' b o (by simpa using nb) e) nI lI (.inr hI0) cI λp hp'=>by
     rcases Yw.mp hp' with z|z
     .exact(hp p (YS _ z)).1
     .rcases Yi.mp z with rfl|z
      .exact hSI
      .exact(hp p (Ym _ z)).1
    refine⟨oI2,g2,J1.ZH λp hp'=>?_⟩
    rcases Yi.mp hp' with rfl|hp'
    .exact J1.pin _ (Ym _ (Yy ..))
    .rcases Yi.mp hp' with rfl|hp'
     .exact⟨g2,nI,lI,fI,λv z=>by rw[hdat]at z;cases z⟩
     .exact J1.pin _ (Ym _ (Yz _ hp'))
  have write:∀{H2:Hp}{s2:Shared}{oI2:Obj} (v:Value) (t2:Tok) (b2:Array Value) (c0:Nat),Inv X ((S,seqObj "list" b2 c0)::(I,oI2)::pins) σ H2 s2->∃c2,Inv X ((S,seqObj "list" #[v,.int (kz (nth ns j)) t2] c2)::(I,oI2)::pins) σ H2 {s2 with heap:=s2.heap.update S (Obj.mapSeq λ_=>#[v,.int (kz (nth ns j)) t2])}:=λ{H2 s2 oI2} v t2 b2 c0 K=>by
   obtain⟨o2,n2,l2,f2,_,cc2⟩:=ZF K (Yy ..)
   obtain⟨c2,hc2⟩:∃c2,(s2.heap.update S (Obj.mapSeq λ_=>#[v,.int (kz (nth ns j)) t2])).get? S=some (seqObj "list" #[v,.int (kz (nth ns j)) t2] c2):=⟨_,get?_update_seq o2 λ_=>#[v,.int (kz (nth ns j)) t2]⟩
   have K0:Inv X ((I,oI2)::pins) σ H2 s2:=K.ZH λp hp'=>K.pin p (Ym _ (Yz _ hp'))
   have K1:=K0.turned (t':=s2.toks) (h':=s2.heap.update S (Obj.mapSeq λ_=>#[v,.int (kz (nth ns j)) t2])) (it:=S) (λb o nb e=>(Heap.get?_update_ne _ _ _ _ nb).trans e) n2 l2 (.inr hS0) cc2 λp hp'=>by
    rcases Yw.mp hp' with z|z
    .exact(hp p (YS _ z)).2
    .rcases Yi.mp z with rfl|z
     .exact hSI.symm
     .exact(hp p (Ym _ z)).2
   refine⟨c2,K1.ZH λp hp'=>?_⟩
   rcases Yi.mp hp' with rfl|hp'
   .exact⟨hc2,n2,l2,f2,λv z=>by cases z⟩
   .exact K1.pin p (Ym _ hp')
  have mem:nth ns j∈ns:=by unfold nth;rw[Yg,Yf hlt];exact YK hlt
  rcases hb with⟨hj0,rfl⟩|⟨i,vb,tb,hi,rfl,rvb,hB⟩
  .refine Ya (wpAny_tryCatch (W.item j _ _ _ (by rw[hsz,hlen];exact hlt) ⟨hit,pl.isList⟩ λv h' tk' hP hst' hk'=>?_))
   obtain⟨rj,oI2,gI,J2⟩:=step v h' tk' hP hst' hk'
   obtain⟨oI3,gI3,hcls,hdat⟩:=id hst'.1
   rw[gI]at gI3;cases gI3
   refine Ya (wpAny_tryCatch (YE (YM (turn H' _ _ _ v mem J2 sm rj) (λx s'' he=>?_) λ_ _ hF=>hF.elim)))
   obtain⟨x2,H2,J3,r2,rfl,sm2⟩:=he
   obtain⟨t2,rfl⟩:=r2
   obtain⟨oS3,_⟩:=ZF J3 (Yy ..)
   obtain⟨oI4,_⟩:=ZF J3 (Yz _ (Yy ..))
   obtain⟨c2,J4⟩:=write v t2 _ _ J3
   refine Ya (wpAny_updateSeq oS3 rfl ?_ (Yo _) (show 2<=sizeLine+1 by decide))
   rw[hname]
   refine Yc ⟨plainId_quiet PySem.F.plain_min_loop _,ih (j+1) H2 _ _ c2 oI2 ⋯ hlt J4 (sm.trans sm2) ⟨oI2,(Heap.get?_update_ne _ _ _ _ hSI.symm).trans oI4,hcls,hdat⟩ (.inr ⟨j,v,t2,⋯,rfl,rj,?_⟩)⟩
   subst hj0;exact ZaU.one kz ns
  .refine Ya (wpAny_tryCatch (W.item j _ _ _ (by rw[hsz,hlen];exact hlt) ⟨hit,pl.isList⟩ λv h' tk' hP hst' hk'=>?_))
   obtain⟨rj,oI2,gI,J2⟩:=step v h' tk' hP hst' hk'
   obtain⟨oI3,gI3,hcls,hdat⟩:=id hst'.1
   rw[gI]at gI3;cases gI3
   refine Ya (wpAny_tryCatch (YE (YM (turn H' _ _ _ v mem J2 sm rj) (λx s'' he=>?_) λ_ _ hF=>hF.elim)))
   obtain⟨x2,H2,J3,r2,rfl,sm2⟩:=he
   obtain⟨t2,rfl⟩:=r2
   obtain⟨oS3,_⟩:=ZF J3 (Yy ..)
   obtain⟨oI4,_⟩:=ZF J3 (Yz _ (Yy ..))
   refine Ya (wpAny_tryCatch (YE (Ya (CmpOf.ints_lt (prog:=X.prog) (w:=X.w) (A:=A.in1) (P:=λi v=>∃t,v=.int (kz (nth ns i)) t) (λi=>kz (nth ns i)) (λi v h=>h) j i _ _ _ _ _ ⟨t2,rfl⟩ ⟨tb,rfl⟩ ?_))))
   refine Ya (YE (wpAny_truthy_bool ?_))
   refine Ya (wpAny_letGo (Yc ?_))
   by_cases hb':kz (nth ns j)<kz (nth ns i)
   .simp only[hb',decide_true,if_true]
    obtain⟨c2,J4⟩:=write v t2 _ _ J3
    refine Ya (wpAny_updateSeq oS3 rfl (Ya (wpAny_letGo ?_)) (show 2<=sizeLine by decide) (show 2<=sizeLine+1 by decide))
    rw[hname]
    exact Yc ⟨plainId_quiet PySem.F.plain_min_loop _,ih (j+1) H2 _ _ c2 oI2 ⋯ hlt J4 (sm.trans sm2) ⟨oI2,(Heap.get?_update_ne _ _ _ _ hSI.symm).trans oI4,hcls,hdat⟩ (.inr ⟨j,v,t2,⋯,rfl,rj,hB.take hi hb'⟩)⟩
   .simp only[hb',decide_false,Bool.false_eq_true,if_false]
    refine Ya (wpAny_letGo ?_)
    rw[hname]
    exact Yc ⟨plainId_quiet PySem.F.plain_min_loop _,ih (j+1) H2 _ _ c oI2 ⋯ hlt J3 (sm.trans sm2) ⟨oI2,oI4,hcls,hdat⟩ (.inr ⟨i,vb,tb,⋯,rfl,rvb,hB.keep hi hb'⟩)⟩
theorem minKD {pins:List (Addr×Obj)}{σ:St}{H:Hp}{s:Shared}{l q:Addr}{ns:List Int}{kz:Int->Int}{d:Value}{dv:V}{Q:VK} (I:Inv X pins σ H s) (hc:X.calm=true) (hl:H l=some (.lst (ns.map V.int))) (rd:RelV dv d)
  (turn:∀(H':Hp) (s':Shared) (pins':List (Addr×Obj)) (n:Int) (u:Value),n∈ns->Inv X pins' σ H' s'->Zd H H'->RelV (.int n) u->wpAny (model X.prog X.w) X.A.in1 (call (.ref q) [u]) (EP X pins' σ λv H2=>v=.int (kz n)/\Zd H' H2) (λ_ _=>False) s')
  (fin0:ns=[]->∀H',Zd H H'->Q dv H') (fin:∀i H',i<ns.length->ZaU kz ns ns.length i->Zd H H'->Q (.int (nth ns i)) H') :
  wpAny (model X.prog X.w) X.A (call (.builtin "min") [.ref l] [(Str.ofString "key",.ref q),(Str.ofString "default",d)]) (EP X pins σ Q) X.xe s:=by
 have hname:(toString "min"++toString ".loop":String)="min.loop":=by decide
 obtain⟨its,rv,pl,_⟩:=I.list (SqL.of hl)
 obtain⟨ol,hol,_⟩:=id pl.isList
 have hll:l<s.heap.objs.size:=Yj hol
 refine kmk_tree PySem.F.kind_min PySem.F.plain_min PySem.F.entry_min (Zlk _ _ _) ?_
 show wpAny _ X.A.in1 (Builtin.Builtins.bindParams "min" ["key","default"] 0 ⟨[],[(Str.ofString "key",.ref q),(Str.ofString "default",d)]⟩ >>= _) _ _ s
 refine Ya (wpAny_of_eq (show Builtin.Builtins.bindParams "min" ["key","default"] 0 ⟨[],[(Str.ofString "key",.ref q),(Str.ofString "default",d)]⟩=pure [some (.ref q),some d]from rfl) ?_)
 refine Ya (Yc ?_)
 refine Ya (wpAny_pyIter_list pl.isList ?_)
 refine Ya (wpAny_newList ?_ (Yo _))
 rw[hname]
 refine Yc ⟨plainId_quiet PySem.F.plain_min_loop _,?_⟩
 have hS:(s.heap.push {cls:=.type "list_iterator",data:=.fields #[.ref l,.int 0 0]}).objs.size=s.heap.objs.size+1:=size_push' ..
 have I2:=I.kept (h':=(s.heap.push {cls:=.type "list_iterator",data:=.fields #[.ref l,.int 0 0]}).push (seqObj "list" #[] 0)) (t':=s.toks) λb o e=>Yk _ (Yk _ e)
 have gI:((s.heap.push {cls:=.type "list_iterator",data:=.fields #[.ref l,.int 0 0]}).push (seqObj "list" #[] 0)).get? s.heap.objs.size=some {cls:=.type "list_iterator",data:=.fields #[.ref l,.int 0 0]}:=Yk _ (Yv _ rfl)
 have gS:((s.heap.push {cls:=.type "list_iterator",data:=.fields #[.ref l,.int 0 0]}).push (seqObj "list" #[] 0)).get? (s.heap.objs.size+1)=some (seqObj "list" #[] 0):=by rw[<-hS];exact Yv _ rfl
 rw[hS]
 refine Zm6 (pins:=pins) (H:=H) (ns:=ns) (kz:=kz) (I.ok.hd hc) (Yl hll) (Nat.ne_of_gt (Nat.lt_succ_self _)) I.sz (Nat.le_succ_of_le I.sz) (λp hp=>?_) hl turn (λz H' s' J sm=>⟨dv,H',J,rd,fin0 z H' sm⟩) (λi v H' s' hi r hB J sm=>⟨.int (nth ns i),H',J,r,fin i H' hi hB sm⟩) _ 0 H _ #[] 0 {cls:=.type "list_iterator",data:=.fields #[.ref l,.int 0 0]} rfl (Yo _) (I2.ZH λp hp=>?_) (Zd.refl H) ⟨_,gI,rfl,rfl⟩ (.inl ⟨rfl,rfl⟩)
 .have:=Yj (I.pin p hp).1
  exact⟨Yl this,Yl (YR this)⟩
 .rcases Yi.mp hp with rfl|hp
  .exact⟨gS,I.hok.fresh (YY _),Nat.ne_of_gt (YR I.lt),I.ZjT (YY _),λv z=>by cases z⟩
  .rcases Yi.mp hp with rfl|hp
   .exact⟨gI,I.hok.fresh (Ye _),Nat.ne_of_gt I.lt,I.ZjT (Ye _),λv z=>by cases z⟩
   .exact I2.pin p (Ym _ hp)
noncomputable def tMinKD (ta td:TA) (tb:TE) (js:List (Option Nat)) (env:Env) (P:Addr) (q:Str) (params:Arguments) (body:Expr) (scope:Scope):TE:=fun σ H Q=>ta σ H λvs H1=>td σ H1 λzs H2=>∃(p f:Addr) (dv:V) (ns:List Int) (kz:Int->Int),
 vs=[.ref p]/\zs=[.ref f,dv]/\H2 p=some (.lst (ns.map V.int))/\Zic env P q params body scope H2 f /\
 (∀n H3,n∈ns->Zd H2 H3->tb ((iniC js σ).set 0 (some (.int n))) H3 λv H4=>v=.int (kz n)/\Zd H3 H4) /\
 (ns=[]->∀H3,Zd H2 H3->Q dv H3)/\∀i H3,i<ns.length->ZaU kz ns ns.length i->Zd H2 H3->Q (.int (nth ns i)) H3
theorem ZoC {Nc:List Str}{js:List (Option Nat)}{q pn:Str}{params:Arguments}{body:Expr}{scope:Scope}{P:Addr}{ta td:TA}{tb:TE}{m:Nat}{e:Expr}{e2:Expr}{p pos lpos kp1 kp2:Pos} (hc:X.calm=true) (hr:Room m X.A) (S:LamSc X Nc js params body scope pn)
  (hbody:∀cl L f c s H,PE (ZgD X X.A.in1 Nc q scope cl L f c s H) body tb) (hg:Gl X "min") (hm:X.mg "min"=none) (ha:PA X [e] ta) (hd:PK X [⟨some (Str.ofString "key"),.Lambda params body scope lpos,kp1⟩,⟨some (Str.ofString "default"),e2,kp2⟩] td)
  (hpl:(backTo pos (starEach [e] X.env)).any (·.1)=false:=by rfl) (hall:(backToKw pos (keywordEach [⟨some (Str.ofString "key"),.Lambda params body scope lpos,kp1⟩,⟨some (Str.ofString "default"),e2,kp2⟩] X.env)).all (·.1.isSome)=true:=by rfl)
  (hnn:(backToKw pos (keywordEach [⟨some (Str.ofString "key"),.Lambda params body scope lpos,kp1⟩,⟨some (Str.ofString "default"),e2,kp2⟩] X.env)).any (·.1.isNone)=false:=by rfl) (hks:(backToKw pos (keywordEach [⟨some (Str.ofString "key"),.Lambda params body scope lpos,kp1⟩,⟨some (Str.ofString "default"),e2,kp2⟩] X.env)).filterMap (·.1)=[Str.ofString "key",Str.ofString "default"]:=by rfl) (hb:backTo pos (starEach [e] X.env)=(false,eval e X.env)::backTo pos (starEach [] X.env):=by rfl) :
  PE X (.Call (.Name "min" p) [e] [⟨some (Str.ofString "key"),.Lambda params body scope lpos,kp1⟩,⟨some (Str.ofString "default"),e2,kp2⟩] pos) (tMinKD ta td tb js X.env P q params body scope):=by
 intro pins s σ H Q I h
 refine wpAny_Call_Name_kw (ZaF I hg hm ZkX ?_)
 refine PyProof.Rows.callWith_kw (thn (ha pos pins s σ H _ I h) λus s1 ⟨vs,H1,I1,r1,q1⟩=>?_) hb hpl hall hnn
 refine thn (hd pos pins s1 σ H1 _ I1 q1) λws s2 ⟨zs,H2,I2,r2,pp,f,dv,ns,kz,e1,e2,hp,L,tn,fin0,fin⟩=>?_
 subst e1 e2
 obtain⟨u,rfl,ru⟩:=r1.one
 cases(show u=Value.ref pp from ru)
 rw[hks]
 obtain⟨v,v2,rfl,rv,rv2⟩:=r2.two
 cases(show v=Value.ref f from rv)
 exact minKD (kz:=kz) I2 hc hp rv2 (λH' s' pins' n u hn J sm r=>ZhD S hbody J J.ok.frames J.ok.hd hr.depth (L.same sm) r (tn n H' hn sm)) fin0 fin
end
section
variable {prog:Program}{w:World}{A:Around}{E:Value->Shared->Prop}{s:Shared}
theorem ZiP {it t:Addr}{items:Array Value} (hh:A.handled=none) (hne:t≠it):∀(n i:Nat) (s:Shared) (Q:List Value->Shared->Prop),s.heap.IsListIter it t i->s.heap.IsList t items->i+n<=items.size ->
  (∀h' tk,h'.IsListIter it t (i+n)->h'.IsList t items->(∀b o,b≠it->s.heap.get? b=some o->h'.get? b=some o)->Q ((items.toList.drop i).take n) {s with heap:=h',toks:=tk})->wpAny (model prog w) A (draw (.ref it) n) Q E s
 |0,i,s,Q,hit,hl,_,hQ=>by
  show wpAny _ _ (pure []) Q E s
  exact Yc (by simpa using hQ s.heap s.toks hit hl λb o _ e=>e)
 |n+1,i,s,Q,hit,hl,hle,hQ=>by
  have hlt:i<items.size:= ⋯
  have W:=Walks.list (prog:=prog) (w:=w) (A:=A) hh it t hne items
  show wpAny _ _ (pyNext (.ref it) >>= _) Q E s
  refine Ya (W.item i _ _ _ hlt ⟨hit,hl⟩ λv h₁ tk₁ hP hst hk=>?_)
  have hv:items[i]?=some v:=hP
  rw[getElem?_pos items i hlt]at hv
  cases hv
  refine Ya (YE (ZiP hh hne n (i+1) _ _ hst.1 hst.2 ⋯ λh₂ tk₂ hit₂ hl₂ hk₂=>Yc ?_))
  have hd:items.toList.drop i=items[i]::items.toList.drop (i+1):=by simp[List.drop_eq_getElem_cons,hlt]
  have:=hQ h₂ tk₂ (by rw[show i+(n+1)=i+1+n by omega];exact hit₂) hl₂ λb o hb e=>hk₂ b o hb (hk b o (by simpa using hb) e)
  rw[hd,List.take_succ_cons]at this
  exact this
theorem Zge {t:Addr}{items:Array Value}{Q:List Value->Shared->Prop} (hh:A.handled=none) (ht:s.heap.IsList t items)
  (hQ:∀h' tk,(∀b o,s.heap.get? b=some o->h'.get? b=some o)->Q items.toList {s with heap:=h',toks:=tk}):wpAny (model prog w) A (unpackItems (.ref t) items.size none) Q E s:=by
 have hlt:t≠s.heap.objs.size:=by obtain⟨o,ho,_⟩:=ht;exact Yl (Yj ho)
 have old:∀b o,s.heap.get? b=some o->b≠s.heap.objs.size:=λb o e=>Yl (Yj e)
 unfold unpackItems
 refine Ya ?_
 .unfold notIterableAtAll
  refine Ya (wpAny_specialOf ht.typeIs slot_list_iter.lookup ?_)
  refine Yc ?_
  simp only[Bool.false_eq_true,if_false]
  refine Ya (YE (wpAny_pyIter_list ht ?_))
  have hl2:(s.heap.push {cls:=.type "list_iterator",data:=.fields #[.ref t,.int 0 0]}).IsList t items:=by
   obtain⟨o,e,r⟩:=ht
   exact⟨o,Yk _ e,r⟩
  refine Ya (YE (ZiP hh hlt items.size 0 _ _ ⟨_,Yv _ rfl,rfl,rfl⟩ hl2 ⋯ λh₁ tk₁ hit₁ hl₁ hk₁=>?_))
  have hall:List.take items.size (List.drop 0 items.toList)=items.toList:=by
   rw[List.drop_zero];exact List.take_of_length_le (by simp)
  rw[hall]
  rw[Yb (by simp)]
  have W:=Walks.list (prog:=prog) (w:=w) (A:=A) hh s.heap.objs.size t hlt items
  refine Ya (YE (W.done _ _ _ ⟨by rw[Nat.zero_add]at hit₁;exact hit₁,hl₁⟩ λh₂ tk₂ hk₂=>?_))
  simp only[Option.isSome_none,Bool.false_eq_true,if_false]
  exact Yc (hQ h₂ tk₂ λb o e=>hk₂ b o (by simpa using old b o e) (hk₁ b o (old b o e) (Yk _ e)))
end
section
variable {X:Cx}
noncomputable def gLst (K:PySem.W.Frag) (n:Nat) (t:TGs):TG:=λv σ H Q=>∃a xs,v=.ref a/\SqL K H a xs/\xs.length=n/\t xs σ H Q
theorem ZoD {K:Frag}{es:List Expr}{pos:Pos}{k:Nat}{t:TGs}{n:Nat} (hK:X.K=K) (hc:X.calm=true) (h:PGs X es t)
  (hn:(assignEach es X.env).length=n:=by rfl) (hst:(assignEach es X.env).findIdx? (·.1)=none:=by rfl):PG X (.Tuple es k pos) (gLst K n t):=by
 subst hK
 intro pins s σ H v u Q I r hw
 obtain⟨a,xs,e1,hq,hl,hw⟩:=hw
 subst e1
 cases r
 obtain⟨its,rv,pl,hz⟩:=I.list hq
 have hlen:(assignEach es X.env).length=its.toArray.size:=by
  have:=rv.length
  rw[hn,Yp];omega
 rw[assign_Tuple]
 refine Ya (wpAny_standAt ?_)
 unfold unpack
 rw[hlen,hst]
 refine Ya (YE (Zge (I.ok.hd hc) pl.isList λh' tk kp=>?_))
 exact h pins _ σ H xs _ Q (I.kept kp) (by simpa using rv) hw
noncomputable def tAsg2 (te:TE) (g g':TG):TS:=λD σ H=>te σ H λx H1=>g x σ H1 fun σ1 H2=>g' x σ1 H2 D.nx
theorem Zrr {tg tg' e:Expr}{te:TE}{g g':TG}{pos:Pos} (he:PE X e te) (hg:PG X tg g) (hg':PG X tg' g') (h1:(assignEach [tg,tg'] X.env).map (·.2)=[assign tg X.env,assign tg' X.env]:=by rfl) (hw:swappedStores [tg,tg'] e X.env=pure none:=by rfl):PS X (.Assign [tg,tg'] e pos) (tAsg2 te g g'):=by
 intro pins s σ H D I h
 refine wpAny_Assign_two (thn (he pins s σ H _ I h) λv s1 ⟨x,H1,I1,r1,q1⟩=>?_) h1 hw
 exact thn (hg pins s1 σ H1 x v _ I1 r1 q1) λ_ s2 ⟨σ2,H2,I2,q2⟩=>thn (hg' pins s2 σ2 H2 x v _ I2 r1 q2) λ_ s3 q=>q
end
section
variable {ky:Keyed->Int}
noncomputable def Srt (ky:Keyed->Int) (l:List Keyed):Prop:=l.Pairwise (λx y=>ky x<=ky y)
variable {a b out:List Keyed}{ia ib:Nat}
noncomputable def Gd (ky:Keyed->Int) (a b res:List Keyed):Prop:=res.Perm (a++b)/\Srt ky res
variable {prog:Program}{w:World}{A:Around}{E:Value->Shared->Prop}{s:Shared}{κ:SortKind}{P:Keyed->Prop}
end
section
variable {ky:Keyed->Int}
noncomputable def kp (ky:Keyed->Int) (a:Array Keyed) (i:Nat):Int:=ky (a.getD i (Value.none,Value.none))
theorem kp_at {a:Array Keyed}{i:Nat} (h:i<a.size):kp ky a i=ky a[i]:=by unfold kp;simp[Array.getD,h]
noncomputable def SoR (ky:Keyed->Int) (a:Array Keyed) (l r:Nat):Prop:=∀i j,l<=i->i<=j->j<r->kp ky a i<=kp ky a j
structure Chg (a a':Array Keyed) (l r:Nat):Prop where
 perm:a'.Perm a
 same:∀i,i<l\/r<=i->a'[i]?=a[i]?
variable {prog:Program}{w:World}{A:Around}{E:Value->Shared->Prop}{s:Shared}{κ:SortKind}{P:Keyed->Prop}
end
section
variable {ky:Keyed->Int}
variable {a a':Array Keyed}
theorem Zl8 (base:Nat):∀(m:List Keyed) (n:Nat) (a:Array Keyed),base+n+m.length<=a.size ->
  (List.foldl (λ(a:Array Keyed) (x:Keyed×Nat)=>a.setIfInBounds (base+x.2) x.1) a (m.zipIdx n)).toList=a.toList.take (base+n)++m++a.toList.drop (base+n+m.length)
 |[],n,a,h=>by simp
 |x::m,n,a,h=>by
  simp only[YI]at h
  rw[List.zipIdx_cons,List.foldl_cons,Zl8 base m (n+1) _ (by simp;omega)]
  simp only[Array.toList_setIfInBounds,YI]
  have e1:(a.toList.set (base+n) x).take (base+(n+1))=a.toList.take (base+n)++[x]:=by
   rw[<-Nat.add_assoc,Je,List.take_set,List.getElem?_set]
   rw[List.set_eq_of_length_le (by simp;omega)]
   simp[show base+n<a.size by omega]
  have e2:(a.toList.set (base+n) x).drop (base+(n+1)+m.length)=a.toList.drop (base+n+(m.length+1)):=by
   rw[List.drop_set_of_lt ⋯]
   congr 1;omega
  rw[e1,e2]
  simp
variable {prog:Program}{w:World}{A:Around}{E:Value->Shared->Prop}{s:Shared}{κ:SortKind}{P:Keyed->Prop}
theorem laid {base mid r:Nat}{res:Array Keyed} (h1:base<=mid) (h2:mid<=r) (h3:r<=a.size) (hg:Gd ky (a.extract base mid).toList (a.extract mid r).toList res.toList) :
  ∃a':Array Keyed,List.foldl (λ(a:Array Keyed) (x:Keyed×Nat)=>a.setIfInBounds (base+x.2) x.1) a res.toList.zipIdx=a'/\Chg a a' base r/\SoR ky a' base r/\∀j,base<=j->j<r->∃t,base<=t/\t<r/\kp ky a' j=kp ky a t:=by
 have hlen:res.toList.length=r-base:=by
  have:=hg.1.length_eq
  simp only[YQ,Ys,Array.size_extract]at this⊢;omega
 have key:=Zl8 base res.toList 0 a ⋯
 have hb:base+0+res.toList.length=r:= ⋯
 rw[hb,Nat.add_zero]at key
 refine⟨_,rfl,⟨?_,?_⟩,?_,?_⟩
 .rw[Array.perm_iff_toList_perm,key]
  have e:a.toList=a.toList.take base++((a.extract base mid).toList++(a.extract mid r).toList)++a.toList.drop r:=by
   simp only[Array.toList_extract,List.extract_eq_drop_take]
   have:(a.toList.drop base).take (mid-base)++(a.toList.drop mid).take (r-mid)=(a.toList.drop base).take (r-base):=by
    have e2:r-base=(mid-base)+(r-mid):= ⋯
    rw[e2,List.take_add,List.drop_drop]
    congr 3;omega
   rw[this]
   have e3:a.toList.drop r=(a.toList.drop base).drop (r-base):=by rw[List.drop_drop];congr 1;omega
   rw[e3,Ja,Jk,Jk]
  conv=>rhs;rw[e]
  exact List.Perm.append_right _ (List.Perm.append_left _ hg.1)
 .intro i hi
  rw[<-YW,<-YW,key]
  have hl0:(a.toList.take base).length=base:=by simp;omega
  rcases hi with hi|hi
  .rw[Ja,Y5 ⋯,List.getElem?_take_of_lt hi]
  .rw[YV (by simp;simp at hlen;omega),List.getElem?_drop]
   congr 1
   simp only[YQ,hl0,hlen];omega
 all_goals
  have atm:∀j,(hj0:base<=j)->(hj:j<r)->kp ky (List.foldl (λ(a:Array Keyed) (x:Keyed×Nat)=>a.setIfInBounds (base+x.2) x.1) a res.toList.zipIdx) j=ky (res.toList[j-base]'⋯):=by
   intro j j1 j2
   have hl0:(a.toList.take base).length=base:=by simp;omega
   have:(List.foldl (λ(a:Array Keyed) (x:Keyed×Nat)=>a.setIfInBounds (base+x.2) x.1) a res.toList.zipIdx)[j]?=some (res.toList[j-base]'⋯):=by
    rw[<-YW,key,Ja,YV ⋯,Y5 ⋯,hl0,Yf ⋯]
   unfold kp
   rw[YN,this];rfl
 .intro i j hi hij hj
  rw[atm i hi ⋯,atm j ⋯ hj]
  by_cases e:i=j
  .subst e;exact Int.le_refl _
  .exact List.pairwise_iff_getElem.mp hg.2 _ _ _ _ ⋯
 .intro j j1 j2
  rw[atm j j1 j2]
  have hm:(res.toList[j-base]'⋯)∈(a.extract base mid).toList++(a.extract mid r).toList:=(List.Perm.mem_iff hg.1).mp (YK _)
  rcases Yw.mp hm with hm|hm
  .obtain⟨t,ht,e⟩:=List.mem_iff_getElem.mp hm
   simp only[Ys,Array.size_extract]at ht
   simp only[Array.getElem_toList,Array.getElem_extract]at e
   exact⟨base+t,⋯,⋯,by rw[kp_at ⋯,e,Array.getElem_toList]⟩
  .obtain⟨t,ht,e⟩:=List.mem_iff_getElem.mp hm
   simp only[Ys,Array.size_extract]at ht
   simp only[Array.getElem_toList,Array.getElem_extract]at e
   exact⟨mid+t,⋯,⋯,by rw[kp_at ⋯,e,Array.getElem_toList]⟩
end
end Lake
namespace Lake
open PySem PySem.Spec PyProof.Rows
end Lake
namespace Lake
open PySem PySem.Spec PyProof.Rows PySem.W
noncomputable def ZT (H:Hp) (acc:List V) (rs:List (List Int)):Prop:=∃as:List Addr,acc=as.map V.ref/\as.length=rs.length/\∀i (h1:i<as.length) (h2:i<rs.length),H as[i]=some (.tup (rs[i].map V.int))
theorem ZT.nil {H:Hp}:ZT H [] []:=⟨[],rfl,rfl,λi h=>absurd h (by simp)⟩
theorem ZT.same {H H':Hp}{acc:List V}{rs:List (List Int)} (h:ZT H acc rs) (s:Zd H H'):ZT H' acc rs:=by
 obtain⟨as,e,l,k⟩:=h
 exact⟨as,e,l,λi h1 h2=>s _ _ (k i h1 h2)⟩
theorem ZT.len {H:Hp}{acc:List V}{rs:List (List Int)} (h:ZT H acc rs):acc.length=rs.length:=by
 obtain⟨as,e,l,k⟩:=h
 rw[e,Yh,l]
theorem ZT.snoc {H:Hp}{acc:List V}{rs:List (List Int)}{u:Addr}{r:List Int} (h:ZT H acc rs) (hu:H u=some (.tup (r.map V.int))):ZT H (acc++[V.ref u]) (rs++[r]):=by
 obtain⟨as,e,l,k⟩:=h
 refine⟨as++[u],by rw[e];simp,by simp[l],λi h1 h2=>?_⟩
 by_cases c:i<as.length
 .rw[Jd c,Jd ⋯];exact k i c ⋯
 .have:i=as.length:=by simp at h1;omega
  subst this
  rw[List.getElem_concat_length,Jj ⋯]
  simpa[l]using hu
  rfl
theorem ZT.at {H:Hp}{acc:List V}{rs:List (List Int)}{l:Addr} (h:ZT H acc rs) (hl:H l=none):TupsAt (upd H l (.lst acc)) l rs:=by
 obtain⟨as,e,ln,k⟩:=h
 refine⟨as,by rw[Zc,e],ln,λi h1 h2=>?_⟩
 rw[Zh (λz=>by have:=k i h1 h2;rw[z,hl]at this;cases this)]
 exact k i h1 h2
end Lake
namespace Lake
open PySem PySem.Spec PyProof.Rows PySem.W PySem.Calls
end Lake
namespace Lake
open PySem PySem.Spec PyProof.Rows PySem.W
section
variable {X:Cx}
theorem bt_set:bootBuiltins "set"=some (.type "set"):=by decide +kernel
end
noncomputable def lxI:List Int->List Int->Bool
 |[],[]=>false
 |[],_::_=>true
 |_::_,[]=>false
 |x::xs,y::ys=>if x=y then lxI xs ys else decide (x<y)
theorem Zkm (x y:Int) (xs ys:List Int):lxI (x::xs) (y::ys)=if x=y then lxI xs ys else decide (x<y):=rfl
theorem le1 {n:Nat}{us:List Value} (e:us.length=n+1):∃a t,us=a::t/\t.length=n:=by
 cases us with
 |nil=>cases e
 |cons a t=>exact⟨a,t,rfl,Nat.succ.inj e⟩
theorem le0 {us:List Value} (e:us.length=0):us=[]:=List.length_eq_zero_iff.mp e
noncomputable def chN:Nat->Nat->Nat
 |0,_=>1
 |_+1,0=>1
 |p+1,q+1=>chN p (q+1)+chN (p+1) q
end Lake
namespace Lake
open PySem PySem.Spec PyProof.Rows PySem.W PyProof
theorem Zid (l:Addr) (items:Array Value) (n:Nat) (dd:Option Addr) (sl:Array (Option Value)) (x:Value) (e:Value->Bool) (j:Nat) (hj:j<items.size)
  (hit:e items[j]=true) (hno:∀m (hm:m<items.size),m<j->e items[m]=false) :
  Meets (Builtin.«tuple.index» ⟨[.ref l,x],[]⟩)
   (λA R s=>s.heap.get? l=some {cls:=.type "tuple",dict:=dd,data:=.seq items n,slots:=sl}/\(∀y,y∈items->SeqAt.EqAt A.in1 s y x (e y))/\R (.ok (.ret (.int j s.toks))) {s with toks:=s.toks+1}) :=
 .of_wp λprog w A R s h=>by
  obtain⟨hp,g,d,tk,os⟩:=s;obtain⟨hl,he,h⟩:=h
  unfold Builtin.«tuple.index»
  simp only[Std.Legacy.Range.forIn_eq_forIn_range',Std.Legacy.Range.size,Nat.sub_zero,Nat.add_sub_cancel,Nat.div_one]
  wp_walk using wpAny_loadPart' hl,wpAny_forIn_list _ (λrest b s'=>b.1=none/\s'=⟨hp,g,d,tk,os⟩/\∃i,rest=List.range' i (items.size-i)/\i<=j) _
  case turn =>
   rintro y rest b s' ⟨hb,rfl,i,hr,hi⟩
   have hlt:i<items.size:= ⋯
   obtain⟨rfl,hrest⟩:y=i/\rest=List.range' (i+1) (items.size-(i+1)):=by
    have e:items.size-i=(items.size-(i+1))+1:= ⋯
    rw[e,List.range'_succ]at hr
    injection hr with h1 h2
    exact⟨h1,h2⟩
   rw[Array.getElem?_eq_getElem hlt]
   refine Ya (he items[y] (Array.getElem_mem hlt) prog w _ _ ?_)
   by_cases c:y=j
   .subst c
    rw[hit]
    wp_walk
    exact⟨_,rfl,h⟩
   .rw[hno y hlt ⋯]
    wp_walk
    exact⟨rfl,rfl,y+1,hrest,⋯⟩
  case fin =>
   rintro⟨b1,b2⟩ s' ⟨hb,rfl,i,hr,hi⟩
   have e:items.size-i=(items.size-(i+1))+1:= ⋯
   rw[e,List.range'_succ]at hr
   cases hr
  case h =>
   exact⟨rfl,rfl,0,by simp,Yo _⟩
section
variable {X:Cx}
noncomputable def rIndexT (K:Frag):V->List V->Hp->VK->Prop:=λx vs H Q=>∃(l:Addr) (ns:List Int) (k:Int),x=.ref l/\vs=[.int k]/\SqT K H l (ns.map V.int)/\k∈ns/\Q (.int (ns.idxOf k:Nat)) H
theorem Zgf {K:Frag} (hK:X.K=K):MtM X "tuple.index" (rIndexT K):=by
 subst hK
 intro pins s σ H x vs v us Q I rx rv h
 obtain⟨l,ns,k,rfl,rfl,hH,hk,q⟩:=h
 cases rx
 obtain⟨u,rfl,ru⟩:=rv.one
 obtain⟨t,rfl⟩:=ru
 obtain⟨its,r,pl⟩:=I.tuple hH
 have hi:IntsAre its ns:=intsAre_of r
 have hlen:=r.length
 rw[Yh]at hlen
 obtain⟨⟨cls,dd,data,sl⟩,ho,hc,n,hd⟩:=pl.1
 simp only at hc hd
 subst hc hd
 have hj:ns.idxOf k<ns.length:=List.idxOf_lt_length_iff.mpr hk
 refine call_meets F.slot_tuple_index ⟨_,ho,rfl⟩ F.entry_tuple_index (F.args_tuple_index_2 _ _)
  (Zid l its.toArray n dd sl (.int k t) (isInt k) (ns.idxOf k) (by rw[Yp];omega) ?_ ?_) ⟨ho,λy hy=>(eq_isInt k t hi y (by simpa using hy)).at _ _,⟨.int _,H,I.tok _,⟨_,rfl⟩,q⟩⟩
 .show isInt k its[ns.idxOf k]=true
  rw[isInt_at k hi _ ⋯ hj]
  simpa using List.getElem_idxOf hj
 .intro j hjs hlt
  show isInt k its[j]=false
  rw[isInt_at k hi j (by simpa using hjs) ⋯]
  exact ne_of_lt_idxOf hlt _
end
noncomputable def ZhF (H:Hp) (t:Addr) (ys:List V):Prop:=∃ob:Obj,ob.dict=none/\H t=some (.frz ob (.tup ys))
theorem ZhF.same {H H':Hp}{t:Addr}{ys:List V} (h:ZhF H t ys) (s:Zd H H'):ZhF H' t ys:=let ⟨ob,d,e⟩:=h;⟨ob,d,s _ _ e⟩
theorem ZhF.sq {K:Frag}{H:Hp}{t:Addr}{ys:List V} (h:ZhF H t ys):SqT K H t ys:=let ⟨ob,_,e⟩:=h;.inl (.inr ⟨ob,e⟩)
section
variable {X:Cx}
noncomputable def rTofF (K:Frag):List V->Hp->VK->Prop:=λxs H Q=>∃p ys,xs=[.ref p]/\SqL K H p ys/\∀l H',H l=none->Zd H H'->ZhF H' l ys->Q (.ref l) H'
theorem ZiQ {K:Frag} (hK:X.K=K):Zax X (.type "tuple") (rTofF K):=by
 subst hK
 intro pins s σ H xs us Q I r h
 obtain⟨p,ys,rfl,hq,q⟩:=h
 obtain⟨u,rfl,rx⟩:=vals1 r
 cases rx
 obtain⟨its,r',pl,hz⟩:=I.list hq
 have hlen:=r'.length
 refine call_tuple_list pl.isList (λh' kp=>?_) (by simp only[Yp]<;>omega)
 have I1:Inv X pins σ H {s with heap:=h'}:=I.kept (t':=s.toks) kp
 have hn:=I1.hok.fresh (Ye h'.objs.size)
 have I2:Inv X pins σ (upd H h'.objs.size (.frz {cls:=.type "tuple",data:=.seq its.toArray} (.tup ys))) {s with heap:=h'.push {cls:=.type "tuple",data:=.seq its.toArray}} :=
  I1.laid (t':=s.toks) (λb o e=>Yk _ e) (Ye _) (show ZO X.prog X.w _ _ _ (.frz _ (.tup ys))from⟨Yv _ rfl,hz,its,r',IsTup.new _ _⟩)
 exact⟨.ref h'.objs.size,_,I2,rfl,q _ _ hn ((Zd.refl H).upd hn) ⟨_,rfl,Zc⟩⟩
noncomputable def tBMH (r:V->List V->Hp->VK->Prop) (to:TE) (t:TA):TE:=fun σ H Q=>to σ H λx H1=>(∃p xs,x=.ref p/\ZhF H1 p xs)/\t σ H1 λxs H2=>r x xs H2 Q
variable {o e:Expr}{es:List Expr}{to:TE}{t:TA}{name:Str}{apos cpos:Pos}{id:String}{r:V->List V->Hp->VK->Prop}
theorem Zll (slot:Slot "tuple" name id) (hty:typeOf (.builtin id)=pure (.type "method_descriptor")) (hm:MtM X id r) (ho:PE X o to) (ha:PA X (e::es) t)
  (hbase:attributeBase o name X.env (eval o X.env)=eval o X.env:=by rfl)
  (hfew:((backTo cpos (starEach (e::es) X.env)).all (λx=>!x.1)&&(backToKw cpos (keywordEach [] X.env)).all (λx=>x.1.isSome)
   && decide ((e::es).length+([]:List Keyword).length+(if ([]:List Keyword).isEmpty then 0 else 1)<30))=true:=by rfl)
  (hline:(apos.endLine==cpos.line)=true:=by rfl) (hs:starEach (e::es) X.env=(false,eval e X.env)::starEach es X.env:=by rfl) (hplain:(backTo cpos (starEach es X.env)).any (·.1)=false:=by rfl) :
  PE X (.Call (.Attribute o name apos) (e::es) [] cpos) (tBMH r to t):=by
 intro pins s σ H Q I h
 refine wpAny_Call_method_late hbase hfew hline rfl (thn (ho pins s σ H _ I h) λv s1 ⟨x,H1,I1,r1,⟨p,xs,ex,ob,hd,hp⟩,q1⟩=>?_)
 subst ex
 cases r1
 obtain⟨e1,_,its,_,ob2,e2,e3,_⟩:=(show ZO X.prog X.w H1 s1.heap p (.frz ob (.tup xs))from I1.hok p _ hp)
 rw[e1]at e2
 cases e2
 refine⟨"tuple",id,PySem.F.plainAttrs_tuple,slot,hty,⟨ob,e1,e3⟩,(λa z=>by cases z;exact⟨ob,e1,hd⟩),?_⟩
 have hA:=ha cpos pins s1 σ H1 _ I1 q1
 rw[hs]at hA⊢
 refine Calls.callWith_builtin (by show(false||(backTo cpos (starEach es X.env)).any (·.1))=false;rw[hplain]<;>rfl) (Calls.evalArgs_plain ?_)
 exact thn hA λus s2 ⟨vs,H2,I2,r2,q2⟩=>hm pins s2 σ H2 (.ref p) vs (.ref p) us Q I2 rfl r2 q2
end
end Lake
namespace Lake
open PySem PySem.Spec PyProof.Rows PySem.W
end Lake
namespace HT
open PySem PyProof.Rows
section
open PySem.SeqAt
open PySem.AutoSeq1 (wpAny_loadPart')
open PySem.MeetsSeq PySem.MeetsSeq2 PySem.MeetsSeq3
end
end HT
namespace Lake
open PySem PySem.Spec PyProof.Rows PySem.W
end Lake
namespace Lake
open PySem PySem.Spec PyProof.Rows PySem.W PyProof
end Lake
namespace PySem.SeqAt
open PySem Sem
open MeetsSeq PyProof.Rows
end PySem.SeqAt
namespace Lake
open PySem PySem.Spec PyProof.Rows PySem.W
end Lake
namespace ST
open PySem PySem.SetTable
noncomputable def Rise (xs:Array Nat):Prop:=xs.toList.Pairwise (· < ·)
theorem ZeI (xs:Array Nat) (i:Nat):xs.getD i 0=xs.toList.getD i 0:=by
 rw[Yg,YW,YN]
theorem Rise.lt {xs:Array Nat} (h:Rise xs) {a b:Nat} (ab:a<b) (hb:b<xs.size):xs.getD a 0<xs.getD b 0:=by
 have hb':b<xs.toList.length:=by rw[Ys];exact hb
 rw[ZeI,ZeI,Yg,Yg,Yf (by omega:a<xs.toList.length),Yf hb']
 exact List.pairwise_iff_getElem.mp h a b ⋯ hb' ab
theorem ZhG {xs:Array Nat}{j:Nat} (h:Rise xs):∀(f lo hi:Nat),hi-lo<=f->lo<=hi->hi<=xs.size->(∀i,i<lo->xs.getD i 0<j)->(∀i,hi<=i->i<xs.size->j<=xs.getD i 0) ->
  below.go xs j f lo hi<=xs.size/\(∀i,i<below.go xs j f lo hi->xs.getD i 0<j)/\(∀i,below.go xs j f lo hi<=i->i<xs.size->j<=xs.getD i 0)
 |0,lo,hi,a,b,c,d,e=>by
  have:lo=hi:= ⋯
  subst this
  exact⟨c,d,e⟩
 |f+1,lo,hi,a,b,c,d,e=>by
  unfold below.go
  by_cases hlt:lo<hi
  .rw[Yd hlt]
   dsimp only
   have eD:xs.getD ((lo+hi) / 2) j=xs.getD ((lo+hi) / 2) 0:=by
    rw[YN,YN,Array.getElem?_eq_getElem ⋯];rfl
   rw[eD]
   by_cases hm:xs.getD ((lo+hi) / 2) 0<j
   .rw[Yd hm]
    refine ZhG h f _ _ ⋯ ⋯ c (λi hi'=>?_) e
    by_cases e1:i=(lo+hi) / 2
    .rw[e1];exact hm
    .exact Nat.lt_trans (h.lt (by omega:i<(lo+hi) / 2) ⋯) hm
   .rw[Yb hm]
    refine ZhG h f _ _ ⋯ ⋯ ⋯ d λi h1 h2=>?_
    by_cases e1:i=(lo+hi) / 2
    .rw[e1];omega
    .have:=h.lt (by omega:(lo+hi) / 2<i) h2
     omega
  .rw[Yb hlt]
   have:lo=hi:= ⋯
   subst this
   exact⟨c,d,e⟩
theorem ZcV {xs:Array Nat} (h:Rise xs) (j:Nat):below xs j<=xs.size/\(∀i,i<below xs j->xs.getD i 0<j)/\(∀i,below xs j<=i->i<xs.size->j<=xs.getD i 0) :=
 ZhG h xs.size 0 xs.size ⋯ ⋯ (Ye _) (λi hi=>⋯) λi h1 h2=>⋯
theorem gq {xs:Array Nat}{i:Nat} (h:i<xs.size):xs[i]?=some (xs.getD i 0):=by
 rw[YN,Array.getElem?_eq_getElem h];rfl
theorem Zlm {xs:Array Nat} (h:Rise xs) {k:Nat} (hk:k<xs.size):below xs (xs.getD k 0+1)=k+1:=by
 obtain⟨a,b,c⟩:=ZcV h (xs.getD k 0+1)
 rcases Nat.lt_trichotomy (below xs (xs.getD k 0+1)) (k+1)with g|g|g
 .have:=c k ⋯ hk;omega
 .exact g
 .have h1:=b (k+1) g
  have h2:=h.lt (by omega:k<k+1) ⋯
  omega
theorem Zln {xs:Array Nat} (h:Rise xs):below xs 0=0:=by
 obtain⟨a,b,c⟩:=ZcV h 0
 rcases Nat.eq_zero_or_pos (below xs 0)with g|g
 .exact g
 .exact absurd (b 0 g) (Nat.not_lt_zero _)
theorem Zgg {t:SetTable} (hd:t.dummies=#[]) (h:Rise t.place) (j:Nat):(t.slot j=.empty/\j∉t.place.toList)\/(∃i,i<t.place.size/\t.place.getD i 0=j/\t.slot j=.live i):=by
 obtain⟨a,b,c⟩:=ZcV h j
 unfold slot
 dsimp only
 by_cases e:t.place[below t.place j]?==some j
 .rw[Yd e]
  have e1:t.place[below t.place j]?=some j:=by simpa using e
  obtain⟨h1,h2⟩:=Array.getElem?_eq_some_iff.mp e1
  exact .inr ⟨_,h1,by rw[YN,e1];rfl,rfl⟩
 .rw[Yb e,hd]
  refine .inl ⟨by simp[has,below],λhm=>e ?_⟩
  obtain⟨i,hi,e1⟩:=YU hm
  rw[Ys]at hi
  have e2:t.place.getD i 0=j:=by rw[YN,Array.getElem?_eq_getElem hi];simpa using e1
  have:below t.place j=i:=by
   rcases Nat.lt_trichotomy (below t.place j) i with g|g|g
   .have h1:=c _ (Ye _) ⋯
    have h2:=h.lt g hi
    omega
   .exact g
   .have:=b i g;omega
  rw[this,gq hi,e2];simp
theorem ZoE {xs:Array Nat} (h:Rise xs) {j:Nat} (hj:j∉xs.toList):Rise (insertAt xs (below xs j) j)/\(insertAt xs (below xs j) j).toList.Perm (j::xs.toList):=by
 obtain⟨a,b,c⟩:=ZcV h j
 have e:(insertAt xs (below xs j) j).toList=xs.toList.take (below xs j)++j::xs.toList.drop (below xs j):=by
  rw[SetTable.toList_insertAt]
 have p:(xs.toList.take (below xs j)++j::xs.toList.drop (below xs j)).Perm (j::xs.toList):=by
  refine List.perm_middle.trans ?_
  rw[Jk]
 refine⟨?_,e▸p⟩
 unfold Rise
 rw[e,List.pairwise_append]
 have hl:xs.toList.length=xs.size:=Ys
 have lo:∀x∈xs.toList.take (below xs j),x<j:=λx hx=>by
  obtain⟨i,hi,e1⟩:=YU hx
  rw[Y4]at hi
  rw[List.getElem_take]at e1
  have:=b i ⋯
  rw[ZeI,Yg,Yf ⋯]at this
  rw[<-e1];exact this
 have hi:∀x∈xs.toList.drop (below xs j),j<x:=λx hx=>by
  have hm:x∈xs.toList:=List.mem_of_mem_drop hx
  obtain⟨i,hi,e1⟩:=YU hx
  rw[Jg]at hi
  rw[List.getElem_drop]at e1
  have:=c (below xs j+i) ⋯ ⋯
  rw[ZeI,Yg,Yf ⋯]at this
  have h2:j<=x:=by rw[<-e1];exact this
  have h3:x≠j:=λz=>hj (z▸hm)
  omega
 refine⟨(List.Pairwise.sublist (List.take_sublist _ _) h),Jh.mpr ⟨hi,List.Pairwise.sublist (List.drop_sublist _ _) h⟩,λx hx y hy=>?_⟩
 rcases Yi.mp hy with rfl|hy
 .exact lo x hx
 .exact Nat.lt_trans (lo x hx) (hi y hy)
noncomputable def step (N i:Nat):Nat:=(i*5+1) % N
noncomputable def orb (N:Nat):Nat->Nat->Nat
 |0,i=>i
 |k+1,i=>orb N k (step N i)
theorem Zhc (N:Nat):∀a b i,orb N (a+b) i=orb N b (orb N a i)
 |0,b,i=>by rw[Nat.zero_add];rfl
 |a+1,b,i=>by rw[show a+1+b=(a+b)+1 by omega];exact Zhc N a b _
noncomputable def mk (N:Nat):Nat->Nat->Nat->Nat×Nat
 |0,m,i=>(m,i)
 |k+1,m,i=>mk N k (m ||| 1 <<< i) (step N i)
theorem Zl9 (N:Nat):∀k m i,(mk N k m i).2=orb N k i/\∀j,(mk N k m i).1.testBit j=true->m.testBit j=true\/∃a,a<k/\orb N a i=j
 |0,m,i=>⟨rfl,λj h=>.inl h⟩
 |k+1,m,i=>by
  obtain⟨h1,h2⟩:=Zl9 N k (m ||| 1 <<< i) (step N i)
  refine⟨h1,λj h=>?_⟩
  rcases h2 j h with g|⟨a,ha,e⟩
  .rw[Nat.testBit_or,Bool.or_eq_true]at g
   rcases g with g|g
   .exact .inl g
   .rw[Nat.one_shiftLeft,Nat.testBit_two_pow]at g
    exact .inr ⟨0,⋯,by show i=j;simpa using g⟩
  .exact .inr ⟨a+1,⋯,e⟩
noncomputable def whole (N:Nat):Prop:=mk N N 0 0=(2 ^ N-1,0)
theorem Zm7 {N:Nat} (h:whole N) {i j:Nat} (hi:i<N) (hj:j<N):∃m,m<N/\orb N m i=j:=by
 obtain⟨h1,h2⟩:=Zl9 N N 0 0
 have hw:mk N N 0 0=(2 ^ N-1,0):=h
 rw[hw]at h1 h2
 have all:∀x,x<N->∃a,a<N/\orb N a 0=x:=λx hx=>by
  rcases h2 x (by dsimp only;rw[Nat.testBit_two_pow_sub_one];simpa using hx)with g|g
  .rw[Nat.zero_testBit]at g;cases g
  .exact g
 obtain⟨a,ha,ea⟩:=all i hi
 obtain⟨b,hb,eb⟩:=all j hj
 by_cases hab:a<=b
 .refine⟨b-a,⋯,?_⟩
  rw[<-ea,<-Zhc,show a+(b-a)=b by omega,eb]
 .refine⟨(N-a)+b,⋯,?_⟩
  rw[<-ea,<-Zhc,show a+(N-a+b)=N+b by omega,Zhc,<-h1]
  exact eb
noncomputable def Mask (m:Nat):Prop:=m=7\/m=31\/m=127\/m=511\/m=2047
theorem Mask.whole {m:Nat} (h:Mask m):whole (m+1):=by
 unfold ST.whole
 rcases h with rfl|rfl|rfl|rfl|rfl<;>decide +kernel
noncomputable def ZbP (m:Nat):Nat->Nat×Nat->Nat×Nat
 |0,p=>p
 |k+1,p=>ZbP m k (leap m p.1 p.2)
theorem ZiR (m:Nat):∀a b p,ZbP m (a+b) p=ZbP m b (ZbP m a p)
 |0,b,p=>by rw[Nat.zero_add];rfl
 |a+1,b,p=>by rw[show a+1+b=(a+b)+1 by omega];exact ZiR m a b _
theorem Zd2 (m:Nat):∀k p,p.1<=m->(ZbP m k p).1<=m
 |0,p,h=>h
 |k+1,p,h=>Zd2 m k _ (by unfold leap;exact Nat.lt_succ_iff.mp (Nat.mod_lt _ (Nat.succ_pos m)))
theorem ZhH (m:Nat):∀k p,(ZbP m k p).2=p.2 / 32 ^ k
 |0,p=>by rw[Nat.pow_zero,Nat.div_one];rfl
 |k+1,p=>by
  show(ZbP m k (leap m p.1 p.2)).2=_
  rw[ZhH m k]
  show p.2 / 32 / 32 ^ k=_
  rw[Nat.div_div_eq_div_mul,Nat.pow_succ,Nat.mul_comm]
theorem ZiS (m:Nat):∀k i,(ZbP m k (i,0)).1=orb (m+1) k i
 |0,i=>rfl
 |k+1,i=>by
  have:leap m i 0=(step (m+1) i,0):=by unfold leap step;simp
  show(ZbP m k (leap m i 0)).1=_
  rw[this]
  exact ZiS m k _
theorem Zkn {m:Nat} (h:Mask m) {i q j:Nat} (hi:i<=m) (hq:q<2 ^ 64) (hj:j<=m):∃k,k<=m+13/\(ZbP m k (i,q)).1=j:=by
 have h1:=Zd2 m 13 (i,q) hi
 have h2:(ZbP m 13 (i,q)).2=0:=by
  rw[ZhH]
  exact Nat.div_eq_of_lt (Nat.lt_trans hq nofun)
 obtain⟨a,ha,e⟩:=Zm7 h.whole (Nat.lt_succ_of_le h1) (Nat.lt_succ_of_le hj)
 refine⟨13+a,⋯,?_⟩
 rw[ZiR]
 have:ZbP m 13 (i,q)=((ZbP m 13 (i,q)).1,0):=Prod.ext rfl h2
 rw[this,ZiS,e]
theorem Zma (h:Int):bits h<2 ^ 64:=by unfold bits;omega
theorem Zgh {m i:Nat} (h:i<=m):runEnd m i<=m/\i<=runEnd m i/\runEnd m i<=i+9:=by unfold runEnd;split<;>omega
inductive Reach (t:SetTable):Nat->Probe->Prop
 |here {n:Nat}{p:Probe}:p.dummy=none->p.j<=t.mask->t.slot p.j=.empty->Reach t n p
 |on {n:Nat}{p:Probe}:p.dummy=none->p.j<=t.mask->Reach t n (t.advance p)->Reach t (n+1) p
theorem Reach.mono {t:SetTable}{n m:Nat}{p:Probe} (h:Reach t n p) (k:n<=m):Reach t m p:=by
 induction h generalizing m with
 |here a b c=>exact .here a b c
 |on a b c ih =>
  obtain⟨m,rfl⟩:∃m',m=m'+1:=⟨m-1,⋯⟩
  exact .on a b (ih ⋯)
noncomputable def lead (t:SetTable) (p:Nat×Nat):Probe:={j:=p.1,more:=runEnd t.mask p.1-p.1,i:=p.1,perturb:=p.2,dummy:=none}
theorem ZiT {t:SetTable}:∀(more:Nat) (p:Probe) (n:Nat),p.more=more->p.dummy=none->p.j+p.more<=t.mask->Reach t n (lead t (leap t.mask p.i p.perturb))->Reach t (n+more+1) p
 |0,p,n,e,hd,hj,h=>by
  refine .on hd ⋯ ?_
  have:t.advance p=lead t (leap t.mask p.i p.perturb):=by
   unfold advance lead
   rw[Yb ⋯,hd]
  rw[this]
  exact h
 |k+1,p,n,e,hd,hj,h=>by
  refine .on hd ⋯ ?_
  have:t.advance p={p with j:=p.j+1,more:=p.more-1}:=by
   unfold advance
   rw[Yd ⋯]
  rw[this]
  exact ZiT k _ n (by dsimp only;omega) hd (by dsimp only;omega) h
theorem ZgE {t:SetTable}{j:Nat} (hj:t.slot j=.empty):∀(k:Nat) (p:Nat×Nat),p.1<=t.mask->(ZbP t.mask k p).1=j->Reach t (10*k) (lead t p)
 |0,p,hp,e=>.here rfl hp (by show t.slot p.1=_;rw[show p.1=j from e];exact hj)
 |k+1,p,hp,e=>by
  obtain⟨h1,h2,h3⟩:=Zgh hp
  have hl:(leap t.mask p.1 p.2).1<=t.mask:=Zd2 t.mask 1 p hp
  refine(ZiT (lead t p).more (lead t p) (10*k) rfl rfl ?_ (ZgE hj k _ hl e)).mono ?_
  .show p.1+(runEnd t.mask p.1-p.1)<=_;omega
  .show 10*k+(runEnd t.mask p.1-p.1)+1<=_;omega
theorem Zko {t:SetTable} (hm:Mask t.mask) {j:Nat} (hj:t.slot j=.empty) (jm:j<=t.mask) (h:Int):∃n,n<10*turns t.mask/\Reach t n (t.probeStart h):=by
 obtain⟨k,hk,e⟩:=Zkn hm (i:=bits h % (t.mask+1)) (q:=bits h) (Nat.lt_succ_iff.mp (Nat.mod_lt _ (Nat.succ_pos _))) (Zma h) jm
 refine⟨10*k,by unfold turns;omega,?_⟩
 exact ZgE hj k (bits h % (t.mask+1),bits h) (Nat.lt_succ_iff.mp (Nat.mod_lt _ (Nat.succ_pos _))) e
theorem ZoF {t:SetTable} (hd:t.dummies=#[]) (hr:Rise t.place) (ha:Nat->Int) (h:Int) {n:Nat}{p:Probe} (R:Reach t n p):∀f,n<f ->
  (∃j,probe.go t ha h f p=some (.empty j none)/\j<=t.mask/\t.slot j=.empty) \/
  (∃j i next m,probe.go t ha h f p=some (.candidate j i next)/\i<t.place.size/\t.slot j=.live i/\ha i=h/\m<n/\Reach t m next):=by
 induction R with
 |@here n p a b c =>
  intro f hf
  obtain⟨f,rfl⟩:∃g,f=g+1:=⟨f-1,⋯⟩
  refine .inl ⟨p.j,?_,b,c⟩
  unfold probe.go
  rw[c,a]
 |@on n p a b c ih =>
  intro f hf
  obtain⟨f,rfl⟩:∃g,f=g+1:=⟨f-1,⋯⟩
  unfold probe.go
  rcases Zgg hd hr p.j with⟨e,_⟩|⟨i,hi,e1,e⟩
  .rw[e]
   exact .inl ⟨p.j,by rw[a],b,e⟩
  .rw[e]
   dsimp only
   by_cases he:(ha i==h)=true
   .rw[Yd he]
    exact .inr ⟨p.j,i,_,n,rfl,hi,e,by simpa using he,⋯,c⟩
   .rw[Yb he]
    rcases ih f ⋯with g|⟨j,i',next,m,g1,g2,g3,g4,g5,g6⟩
    .exact .inl g
    .exact .inr ⟨j,i',next,m,g1,g2,g3,g4,⋯,g6⟩
structure Ok (t:SetTable) (n:Nat):Prop where
 mask:Mask t.mask
 size:t.place.size=n
 no:t.dummies=#[]
 rise:Rise t.place
 within:∀x∈t.place.toList,x<=t.mask
 room:n*5<t.mask*3
theorem Zkp:∀{a b:List Nat},a.Nodup->(∀x∈a,x∈b)->a.length<=b.length
 |[],b,_,_=>Yo _
 |x::a,b,hn,hs=>by
  obtain⟨h1,h2⟩:=List.nodup_cons.mp hn
  have hx:=hs x (.head _)
  have h3:=Zkp h2 (b:=b.erase x) λy hy=>(List.mem_erase_of_ne (λe:y=x=>h1 (e▸hy))).mpr (hs y (.tail _ hy))
  have h4:=List.length_erase_of_mem hx
  have h5:=List.length_pos_of_mem hx
  rw[YI];omega
theorem Zkq:∀(m:Nat) (l:List Nat),l.Nodup->(∀x∈l,x<=m)->l.length<=m->∃j,j<=m/\j∉l:=λm l hn hl hlen=>by
 by_cases h:∃j,j<=m/\j∉l
 .exact h
 .have hs:∀x∈List.range (m+1),x∈l:=λx hx=>by
   by_cases hx':x∈l
   .exact hx'
   .exact absurd ⟨x,Nat.lt_succ_iff.mp (Yq.mp hx),hx'⟩ h
  have:=Zkp List.nodup_range hs
  rw[YX]at this
  omega
theorem Rise.nodup {xs:Array Nat} (h:Rise xs):xs.toList.Nodup:=List.Pairwise.imp (λh=>Yl h) h
theorem Ok.free {t:SetTable}{n:Nat} (h:Ok t n):∃j,j<=t.mask/\t.slot j=.empty:=by
 have hz:=h.size
 have hr:=h.room
 obtain⟨j,hj,hn⟩:=Zkq t.mask t.place.toList h.rise.nodup h.within (by rw[Ys];omega)
 rcases Zgg h.no h.rise j with⟨e,_⟩|⟨i,hi,e1,e⟩
 .exact⟨j,hj,e⟩
 .refine absurd ?_ hn
  rw[<-e1,ZeI,Yg,Yf (by rw[Ys];exact hi)]
  exact YK _
theorem Ok.start {t:SetTable}{n:Nat} (h:Ok t n) (k:Int):∃m,m<10*turns t.mask/\Reach t m (t.probeStart k):=by
 obtain⟨j,hj,e⟩:=h.free
 exact Zko h.mask e hj k
theorem Ok.freeSlot {t:SetTable}{n:Nat} (h:Ok t n) (k:Int):∃j,t.freeSlot k=some (j,false)/\j<=t.mask/\t.slot j=.empty:=by
 obtain⟨m,hm,R⟩:=h.start k
 unfold SetTable.freeSlot probe
 rcases ZoF h.no h.rise (λ_=>k+1) k R _ hm with⟨j,e,h1,h2⟩|⟨j,i,next,m',e,h1,h2,h3,_⟩
 .rw[e];exact⟨j,rfl,h1,h2⟩
 .exact absurd h3 ⋯
inductive Front (m:Nat) (occ:Nat->Prop) (j:Nat):Probe->Prop
 |fin {p:Probe}:p.j=j->Front m occ j p
 |on {p:Probe}{t:SetTable}:t.mask=m->occ p.j->Front m occ j (t.advance p)->Front m occ j p
theorem Front.mono {m:Nat}{occ occ':Nat->Prop}{j:Nat}{p:Probe} (h:Front m occ j p) (k:∀x,occ x->occ' x):Front m occ' j p:=by
 induction h with
 |fin e=>exact .fin e
 |on a b c ih=>exact .on a (k _ b) ih
noncomputable def occT (t:SetTable) (x:Nat):Prop:=x∈t.place.toList
noncomputable def Zkr (o:Array (Option Nat)) (x:Nat):Prop:=∃k,o.getD x none=some k
theorem Zmb {o:Array (Option Nat)}{x:Nat} (hx:x<o.size) (h:o.getD x (some 0)≠none):Zkr o x:=by
 rw[YN,Array.getElem?_eq_getElem hx]at h
 unfold Zkr
 rw[YN,Array.getElem?_eq_getElem hx]
 exact Option.ne_none_iff_exists'.mp h
theorem ZiU {m:Nat}{occ:Nat->Prop}{t:SetTable} (ht:t.mask=m):∀(k:Nat) (p:Probe),p.dummy=none->k<=p.more->(∀k',k'<k->occ (p.j+k'))->Front m occ (p.j+k) p
 |0,p,hd,hk,ho=>.fin rfl
 |k+1,p,hd,hk,ho=>by
  refine .on ht (ho 0 ⋯) ?_
  have:t.advance p={p with j:=p.j+1,more:=p.more-1}:=by
   unfold advance
   rw[Yd ⋯]
  rw[this,show p.j+(k+1)=p.j+1+k by omega]
  exact ZiU ht k {p with j:=p.j+1,more:=p.more-1} hd (by show k<=p.more-1;omega) λk' hk'=>by
   show occ (p.j+1+k')
   have:=ho (k'+1) ⋯
   rwa [show p.j+(k'+1)=p.j+1+k' by omega]at this
theorem ZhI {m:Nat}{occ:Nat->Prop}{t:SetTable}{j:Nat} (ht:t.mask=m):∀(k:Nat) (p:Probe),p.more=k->p.dummy=none->(∀k',k'<=k->occ (p.j+k'))->Front m occ j (lead t (leap t.mask p.i p.perturb))->Front m occ j p
 |0,p,hk,hd,ho,F=>by
  refine .on ht (ho 0 (Ye _)) ?_
  have:t.advance p=lead t (leap t.mask p.i p.perturb):=by
   unfold advance lead
   rw[Yb ⋯,hd]
  rw[this];exact F
 |k+1,p,hk,hd,ho,F=>by
  refine .on ht (ho 0 (Yo _)) ?_
  have:t.advance p={p with j:=p.j+1,more:=p.more-1}:=by
   unfold advance
   rw[Yd ⋯]
  rw[this]
  refine ZhI ht k _ (by show p.more-1=k;omega) hd (λk' hk'=>?_) F
  show occ (p.j+1+k')
  have:=ho (k'+1) ⋯
  rwa [show p.j+(k'+1)=p.j+1+k' by omega]at this
theorem ZhJ {o:Array (Option Nat)}{m:Nat}{t:SetTable} (ht:t.mask=m) (hs:o.size=m+1):∀(f:Nat) (p:Nat×Nat) (j:Nat),p.1<=m->layClean.free m o f p.1 p.2=some j->Front m (Zkr o) j (lead t p)
 |0,p,j,hp,e=>by unfold layClean.free at e;cases e
 |f+1,p,j,hp,e=>by
  unfold layClean.free at e
  obtain⟨h1,h2,h3⟩:=Zgh hp
  have em:(lead t p).more=runEnd m p.1-p.1:=by unfold lead;rw[ht]
  cases hx:(List.range (runEnd m p.1+1-p.1)).find? (λk=>(o.getD (p.1+k) (some 0)).isNone)with
  |some k =>
   rw[hx]at e
   have e:p.1+k=j:=YF e
   subst e
   obtain⟨hk,as,bs,hl,hno⟩:=List.find?_eq_some_iff_append.mp hx
   have hk2:k<runEnd m p.1+1-p.1:=Yq.mp (by rw[hl];simp)
   refine ZiU (p:=lead t p) ht k rfl (by rw[em];omega) λk' hk'=>?_
   have hmem:k'∈as:=by
    have hpw:(as++k::bs).Pairwise (· < ·):=by rw[<-hl];exact List.pairwise_lt_range
    have h4:k'∈as++k::bs:=by rw[<-hl];exact Yq.mpr ⋯
    rcases Yw.mp h4 with h5|h5
    .exact h5
    .rcases Yi.mp h5 with h6|h6
     .omega
     .have:=List.rel_of_pairwise_cons (List.pairwise_append.mp hpw).2.1 h6
      omega
   have:=hno k' hmem
   refine Zmb (show p.1+k' < _ by omega) ?_
   intro z
   rw[show o.getD ((lead t p).j+k') (some 0)=o.getD (p.1+k') (some 0)from rfl]at z
   rw[z]at this
   exact absurd this nofun
  |none =>
   rw[hx]at e
   have e:layClean.free m o f (leap m p.1 p.2).1 (leap m p.1 p.2).2=some j:=e
   have ih:=ZhJ ht hs f (leap m p.1 p.2) j (Zd2 m 1 p hp) e
   refine ZhI ht (lead t p).more (lead t p) rfl rfl (λk' hk'=>?_) (by rw[ht];exact ih)
   rw[em]at hk'
   have:=List.find?_eq_none.mp hx k' (Yq.mpr ⋯)
   refine Zmb (show p.1+k' < _ by omega) ?_
   intro z
   rw[show o.getD ((lead t p).j+k') (some 0)=o.getD (p.1+k') (some 0)from rfl]at z
   rw[z]at this
   exact this rfl
end ST
namespace ST
open PySem PySem.SetTable
noncomputable def vals (o:Array (Option Nat)):List Nat:=o.toList.filterMap id
theorem Zks:∀(l:List (Option Nat)) (j k:Nat),j<l.length->l.getD j (some 0)=none->((l.set j (some k)).filterMap id).Perm (k::l.filterMap id)
 |[],j,k,h,_=>absurd h (Nat.not_lt_zero _)
 |x::l,0,k,h,e=>by
  have e:x=none:=e
  subst e
  exact List.Perm.refl _
 |x::l,j+1,k,h,e=>by
  have ih:=Zks l j k (by simpa using h) e
  cases x with
  |none=>exact ih
  |some y=>exact(List.Perm.cons y ih).trans (List.Perm.swap k y _)
theorem Zm8 (o:Array (Option Nat)) (m:Nat):∀(k f:Nat) (p:Nat×Nat),p.1<=m->k<f->o.getD (ZbP m k p).1 (some 0)=none->∃j,layClean.free m o f p.1 p.2=some j/\o.getD j (some 0)=none:=λk=>by
 induction k with
 |zero =>
  intro f p hp hf e
  obtain⟨f,rfl⟩:∃g,f=g+1:=⟨f-1,⋯⟩
  have e:o.getD p.1 (some 0)=none:=e
  unfold layClean.free
  cases hx:(List.range (runEnd m p.1+1-p.1)).find? (λk=>(o.getD (p.1+k) (some 0)).isNone)with
  |some k=>exact⟨_,rfl,by have:=List.find?_some hx;simpa using this⟩
  |none =>
   have:=List.find?_eq_none.mp hx 0 (by obtain⟨a,b,c⟩:=Zgh hp;simp;omega)
   rw[Nat.add_zero,e]at this
   exact absurd rfl this
 |succ k ih =>
  intro f p hp hf e
  obtain⟨f,rfl⟩:∃g,f=g+1:=⟨f-1,⋯⟩
  unfold layClean.free
  cases hx:(List.range (runEnd m p.1+1-p.1)).find? (λk=>(o.getD (p.1+k) (some 0)).isNone)with
  |some k=>exact⟨_,rfl,by have:=List.find?_some hx;simpa using this⟩
  |none =>
   exact ih f (leap m p.1 p.2) (Zd2 m 1 p hp) ⋯ e
theorem Zrs {o:Array (Option Nat)}{m:Nat} (hm:Mask m) (hs:o.size=m+1) (hv:(vals o).length<=m) (h:Int):∃j,layClean.free m o (turns m) (bits h % (m+1)) (bits h)=some j/\j<=m/\o.getD j (some 0)=none:=by
 have:∃j,j<=m/\o.getD j (some 0)=none:=by
  by_cases hx:∃j,j<=m/\o.getD j (some 0)=none
  .exact hx
  .have all:∀x∈o.toList,(id x).isSome=true:=λx hx'=>by
    obtain⟨j,hj,e⟩:=YU hx'
    rw[Ys]at hj
    cases x with
    |some y=>rfl
    |none=>exact absurd ⟨j,⋯,by rw[YN,<-YW,Yf (by rw[Ys];exact hj),e];rfl⟩ hx
   have:(vals o).length=o.toList.length:=by
    unfold vals
    exact List.filterMap_length_eq_length.mpr all
   have z:o.toList.length=o.size:=Ys
   omega
 obtain⟨j,hj,e⟩:=this
 obtain⟨k,hk,e1⟩:=Zkn hm (i:=bits h % (m+1)) (q:=bits h) (Nat.lt_succ_iff.mp (Nat.mod_lt _ (Nat.succ_pos _))) (Zma h) hj
 obtain⟨j',e2,e3⟩:=Zm8 o m k (turns m) (bits h % (m+1),bits h) (Nat.lt_succ_iff.mp (Nat.mod_lt _ (Nat.succ_pos _))) (by unfold turns;omega) (by rw[e1];exact e)
 refine⟨j',e2,?_,e3⟩
 by_cases hj':j'<o.size
 .omega
 .rw[YN,Array.getElem?_eq_none ⋯]at e3
  cases e3
noncomputable def Zfw (m:Nat) (acc:Option (Array (Option Nat)×Nat)) (h:Int):Option (Array (Option Nat)×Nat):=do
  let (owner,k) <-acc
  let j <-layClean.free m owner (turns m) (bits h % (m+1)) (bits h)
  pure (owner.setIfInBounds j (some k),k+1)
theorem ZoG {o:Array (Option Nat)}{j k:Nat} (h:o.getD j none=some k):k∈vals o:=by
 unfold vals
 rw[List.mem_filterMap]
 rw[YN]at h
 cases hx:o[j]? with
 |none=>rw[hx]at h;cases h
 |some y =>
  rw[hx]at h
  have h:y=some k:=h
  subst h
  exact⟨some k,List.mem_of_getElem? (by rw[YW];exact hx),rfl⟩
noncomputable def ZoH (t:SetTable) (h:Int):Probe:=lead t (bits h % (t.mask+1),bits h)
theorem Zkt {m:Nat}{t:SetTable} (ht:t.mask=m) (hm:Mask m):∀(hs pre:List Int) (o:Array (Option Nat)),o.size=m+1->(vals o).Perm (List.range pre.length)->pre.length+hs.length<=m ->
  (∀j k,o.getD j none=some k->Front m (Zkr o) j (ZoH t (pre.getD k 0))) ->
  ∃o',hs.foldl (Zfw m) (some (o,pre.length))=some (o',pre.length+hs.length)/\o'.size=m+1/\(vals o').Perm (List.range (pre.length+hs.length)) /\
   ∀j k,o'.getD j none=some k->Front m (Zkr o') j (ZoH t ((pre++hs).getD k 0))
 |[],pre,o,h1,h2,h3,h4=>⟨o,rfl,h1,h2,by rw[List.append_nil];exact h4⟩
 |h::hs,pre,o,h1,h2,h3,h4=>by
  have h3':pre.length+(hs.length+1)<=m:=h3
  have hv:(vals o).length=pre.length:=by rw[h2.length_eq,YX]
  obtain⟨j,e1,e2,e3⟩:=Zrs hm h1 ⋯ h
  have fj:=ZhJ ht h1 (turns m) (bits h % (m+1),bits h) j (Nat.lt_succ_iff.mp (Nat.mod_lt _ (Nat.succ_pos _))) e1
  have st:Zfw m (some (o,pre.length)) h=some (o.setIfInBounds j (some pre.length),pre.length+1):=by
   unfold Zfw
   simp only[Option.bind_eq_bind,Option.bind_some,e1]
   rfl
  have hj:j<o.toList.length:=by rw[Ys];omega
  have hjs:j<o.size:= ⋯
  have gs:∀x,(o.setIfInBounds j (some pre.length)).getD x none=if x=j then some pre.length else o.getD x none:=λx=>by
   rw[YN,Array.getElem?_setIfInBounds,YN]
   by_cases e:j=x
   .subst e;rw[Yd rfl,Yd hjs,Yd rfl];rfl
   .rw[Yb e,Yb (λz=>e z.symm)]
  have oc:∀x,Zkr o x->Zkr (o.setIfInBounds j (some pre.length)) x:=λx ⟨k,hk⟩=>by
   unfold Zkr
   rw[gs]
   by_cases e:x=j
   .rw[Yd e];exact⟨_,rfl⟩
   .rw[Yb e];exact⟨k,hk⟩
  have lp:(pre++[h]).length=pre.length+1:=by rw[YQ,List.length_singleton]
  have p:(vals (o.setIfInBounds j (some pre.length))).Perm (List.range (pre++[h]).length):=by
   unfold vals
   rw[Array.toList_setIfInBounds]
   refine(Zks o.toList j pre.length hj ?_).trans ?_
   .rw[Yg,YW,<-YN];exact e3
   .rw[lp,Y7]
    exact(List.Perm.cons pre.length h2).trans (List.perm_append_singleton pre.length (List.range pre.length)).symm
  obtain⟨o',a,b,c,d⟩:=Zkt ht hm hs (pre++[h]) (o.setIfInBounds j (some pre.length)) (by rw[Array.size_setIfInBounds];exact h1) p ⋯ (λx k hk=>by
   rw[gs]at hk
   by_cases e:x=j
   .rw[Yd e]at hk
    cases hk
    subst e
    rw[Yg,YV (Ye _),Nat.sub_self]
    have:=fj.mono oc
    rw[<-ht]at this⊢
    exact this
   .rw[Yb e]at hk
    have hk2:k<pre.length:=Yq.mp (h2.mem_iff.mp (ZoG hk))
    rw[Yg,Y5 hk2,<-Yg]
    exact(h4 x k hk).mono oc)
  rw[lp]at a c
  refine⟨o',?_,b,?_,?_⟩
  .rw[List.foldl_cons,st,a,YI,show pre.length+1+hs.length=pre.length+(hs.length+1) by omega]
  .rw[YI,show pre.length+(hs.length+1)=pre.length+1+hs.length by omega];exact c
  .intro x k hk
   have:=d x k hk
   rwa [Ja]at this
theorem ZoI (n:Nat):vals (Array.replicate n none)=[]:=by
 unfold vals
 rw[Array.toList_replicate]
 induction n with
 |zero=>rfl
 |succ n ih=>rw[List.replicate_succ];exact ih
theorem Zrt {m:Nat} (hm:Mask m) (fi mo:Nat) (le pl:Bool) (hs:Array Int) (hr:hs.size*5<m*3) :
  ∃t order,laid m fi mo le pl hs=some (t,order)/\Ok t hs.size/\t.led=le/\t.plain=pl/\t.mask=m/\order.toList.Perm (List.range hs.size) /\
   ∀i k,order.toList[i]?=some k->Front t.mask (occT t) (t.place.getD i 0) (t.probeStart (hs.toList.getD k 0)):=by
 have e0:layClean m hs=(hs.foldl (Zfw m) (some (Array.replicate (m+1) none,0))).map (·.1):=rfl
 rw[<-Array.foldl_toList]at e0
 obtain⟨o,e1,e2,e3,e4⟩:=Zkt (t:={mask:=m,place:=#[],dummies:=#[],finger:=0,led:=true,moves:=0,plain:=true}) rfl hm hs.toList [] (Array.replicate (m+1) none) (by simp) (by rw[ZoI];exact List.Perm.refl _) (by rw[Ys];simp;omega) (λj k hk=>by
  rw[YN,Array.getElem?_replicate]at hk
  split at hk<;>cases hk)
 have e1:List.foldl (Zfw m) (some (Array.replicate (m+1) none,0)) hs.toList=_:=e1
 rw[e1]at e0
 have e0:layClean m hs=some o:=e0
 rw[List.length_nil,Nat.zero_add,Ys]at e3
 rw[List.nil_append]at e4
 have fst:((List.range (m+1)).filterMap λj=>(o.getD j none).map (j,·)).map (·.1)=(List.range (m+1)).filter λj=>(o.getD j none).isSome:=by
  generalize List.range (m+1)=l
  induction l with
  |nil=>rfl
  |cons x l ih =>
   rw[List.filterMap_cons,List.filter_cons]
   cases hx:o.getD x none with
   |none=>exact ih
   |some y=>exact congrArg (x::·) ih
 have snd:((List.range (m+1)).filterMap λj=>(o.getD j none).map (j,·)).map (·.2)=vals o:=by
  have:(List.range (m+1)).map (λj=>o.getD j none)=o.toList:=by
   apply List.ext_getElem
   .simp[e2]
   .intro i h1 h2
    rw[List.getElem_map,List.getElem_range,YN,<-YW,Yf h2]
    rfl
  unfold vals
  rw[<-this]
  generalize List.range (m+1)=l
  induction l with
  |nil=>rfl
  |cons x l ih =>
   rw[List.filterMap_cons,YJ,List.filterMap_cons]
   cases hx:o.getD x none with
   |none=>exact ih
   |some y=>exact congrArg (y::·) ih
 refine⟨_,_,by unfold laid;rw[e0];rfl,⟨hm,?_,rfl,?_,?_,hr⟩,rfl,rfl,rfl,?_,?_⟩
 .rw[Yp,Yh,<-Yh (f:=(·.2)),snd,e3.length_eq,YX]
 .show List.Pairwise _ _
  rw[fst]
  exact List.Pairwise.sublist List.filter_sublist List.pairwise_lt_range
 .intro x hx
  have hx:x∈((List.range (m+1)).filterMap λj=>(o.getD j none).map (j,·)).map (·.1):=hx
  rw[fst]at hx
  exact Nat.lt_succ_iff.mp (Yq.mp (YO.mp hx).1)
 .show(((List.range (m+1)).filterMap λj=>(o.getD j none).map (j,·)).map (·.2)).Perm _
  rw[snd];exact e3
 .intro i k hk
  have hk:((((List.range (m+1)).filterMap λj=>(o.getD j none).map (j,·)).map (·.2))[i]?)=some k:=hk
  rw[YG]at hk
  cases hl:((List.range (m+1)).filterMap λj=>(o.getD j none).map (j,·))[i]? with
  |none=>rw[hl]at hk;cases hk
  |some q =>
   rw[hl]at hk
   have hk:q.2=k:=YF hk
   have hm1:=List.mem_of_getElem? hl
   obtain⟨j,hj,ej⟩:=List.mem_filterMap.mp hm1
   cases hx:o.getD j none with
   |none=>rw[hx]at ej;cases ej
   |some y =>
    rw[hx]at ej
    have ej:(j,y)=q:=YF ej
    subst ej
    have hk:y=k:=hk
    subst hk
    have F:=e4 j y hx
    have ep:(List.map (λx:Nat×Nat=>x.1) ((List.range (m+1)).filterMap λj=>(o.getD j none).map (j,·))).toArray.getD i 0=j:=by
     rw[ZeI,List.toList_toArray,Yg,YG,hl];rfl
    show Front m _ ((List.map (λx:Nat×Nat=>x.1) ((List.range (m+1)).filterMap λj=>(o.getD j none).map (j,·))).toArray.getD i 0) _
    rw[ep]
    refine F.mono λx ⟨y',hy⟩=>?_
    show x∈((List.range (m+1)).filterMap λj=>(o.getD j none).map (j,·)).map (·.1)
    rw[fst,YO,hy]
    refine⟨Yq.mpr ?_,rfl⟩
    rw[<-e2]
    by_cases hx':x<o.size
    .exact hx'
    .rw[YN,Array.getElem?_eq_none ⋯]at hy;cases hy
theorem Zm9 {t:SetTable}{n:Nat} (hm:Mask t.mask) (h0:n*5<t.mask*3) (h1:t.mask*3<=(n+1)*5) (hn:n<1228) (hs:Array Int) (hz:hs.size=n+1) :
  ∃t' order,t.relaid hs (grown (n+1))=some (t',order)/\Ok t' (n+1)/\t'.led=t.led/\t'.plain=t.plain/\order.toList.Perm (List.range (n+1))/\sizeAbove (grown (n+1))<=2048 /\
   ∀i k,order.toList[i]?=some k->Front t'.mask (occT t') (t'.place.getD i 0) (t'.probeStart (hs.toList.getD k 0)):=by
 have hg:∃m,Mask m/\sizeAbove (grown (n+1))-1=m/\(n+1)*5<m*3/\sizeAbove (grown (n+1))<=2048:=by
  rcases hm with e|e|e|e|e<;>rw[e]at h0 h1
  .have:n=4:= ⋯
   subst this;exact⟨31,.inr (.inl rfl),by decide,by decide,by decide⟩
  .have:n=18:= ⋯
   subst this;exact⟨127,.inr (.inr (.inl rfl)),by decide,by decide,by decide⟩
  .have:n=76:= ⋯
   subst this;exact⟨511,.inr (.inr (.inr (.inl rfl))),by decide,by decide,by decide⟩
  .have:n=306:= ⋯
   subst this;exact⟨2047,.inr (.inr (.inr (.inr rfl))),by decide,by decide,by decide⟩
  .omega
 obtain⟨m,g1,g2,g3,g4⟩:=hg
 unfold relaid
 rw[g2]
 obtain⟨t',order,a,b,c,d,e,f,g⟩:=Zrt g1 t.finger (t.movedTo m) t.led t.plain hs (by rw[hz];exact g3)
 rw[hz]at b f
 exact⟨t',order,a,b,c,d,f,g4,g⟩
theorem Zlo {α:Type} (es:Array α) (order:Array Nat) (h:order.toList.Perm (List.range es.size)):(order.filterMap (es[·]?)).toList.Perm es.toList:=by
 rw[Array.toList_filterMap]
 refine(h.filterMap _).trans ?_
 have:(List.range es.size).filterMap (es[·]?)=es.toList:=by
  have e1:∀l:List α,(List.range l.length).filterMap (l[·]?)=l:=λl=>by
   induction l with
   |nil=>rfl
   |cons x l ih =>
    rw[YI,List.range_succ_eq_map,List.filterMap_cons]
    show x::_=_
    rw[List.filterMap_map]
    exact congrArg (x::·) ih
  have:=e1 es.toList
  rw[Ys]at this
  simpa using this
 rw[this]
theorem Ok.fits {t:SetTable}{n:Nat} (h:Ok t n):t.fits n=true:=by
 have:=h.room
 unfold SetTable.fits fill
 rw[h.size,h.no]
 simp;omega
theorem Ok.put {t:SetTable}{n:Nat} (h:Ok t n) {j:Nat} (hj:j<=t.mask) (he:t.slot j=.empty) :
  (t.put j).1.mask=t.mask/\(t.put j).1.led=t.led/\(t.put j).1.plain=t.plain/\(t.put j).1.dummies=#[]/\(t.put j).1.place.size=n+1/\Rise (t.put j).1.place/\(∀x∈(t.put j).1.place.toList,x<=t.mask)/\(t.put j).1.fits (n+1)=true:=by
 have hn:j∉t.place.toList:=by
  rcases Zgg h.no h.rise j with⟨_,e⟩|⟨i,_,_,e⟩
  .exact e
  .rw[he]at e;cases e
 obtain⟨a,b⟩:=ZoE h.rise hn
 have hd:(t.put j).1.dummies=#[]:=by
  unfold SetTable.put
  dsimp only
  rw[h.no]
  rfl
 have hs:(t.put j).1.place.size=n+1:=by
  show(insertAt t.place (below t.place j) j).size=_
  rw[<-Ys,b.length_eq,YI,Ys,h.size]
 refine⟨rfl,rfl,rfl,hd,hs,a,λx hx=>?_,?_⟩
 .rcases Yi.mp (b.mem_iff.mp hx)with rfl|hx
  .exact hj
  .exact h.within x hx
 .have:=h.room
  unfold SetTable.fits fill
  rw[hs,hd]
  have:(t.put j).1.mask=t.mask:=rfl
  rw[this]
  simp;omega
theorem ZoJ (a b:Nat) (led:Bool):Ok (SetTable.fresh a b led) 0:=⟨.inl rfl,rfl,rfl,.nil,λx hx=>(by cases hx),(by show 0*5<7*3;omega)⟩
end ST
namespace ST
open PySem PySem.Spec PySem.SetTable PyProof.Rows
open PySem.W
theorem Zjt:Slot "set_iterator" "__next__" "set_iterator.__next__" :=
 Slot.of (owner:="set_iterator") (n:="__next__") (by rw[typeLookup_type,builtinLookup_eq_fast];kernel_rfl) (by decide +kernel) (by decide +kernel) (by decide +kernel) (by first|exact Or.inl (by decide +kernel)|exact Or.inr (by decide +kernel)) (by rw[isSubtype_type];kernel_rfl)
theorem enNext:entryFor table "set_iterator.__next__"=some Builtin.«set_iterator.__next__»:=entryFor_of_tree (by kernel_rfl)
theorem Zmc:Manifest.owners.lookup (String.ofList ['r','o','t','a','r','e','t','i','_','t','e','s'].reverse)=some Manifest.sig_set_iterator:=by kernel_rfl
theorem ZoK:Slot "set_iterator" "__iter__" "set_iterator.__iter__" :=
 Slot.of (owner:="set_iterator") (n:="__iter__") (by rw[typeLookup_type,builtinLookup_eq_fast];kernel_rfl) (by decide +kernel) (by decide +kernel) (by decide +kernel) (by first|exact Or.inl (by decide +kernel)|exact Or.inr (by decide +kernel)) (by rw[isSubtype_type];kernel_rfl)
theorem enSelf:entryFor table "set_iterator.__iter__"=some Builtin.«dict_keyiterator.__iter__»:=entryFor_alias (id':="dict_keyiterator.__iter__") (by kernel_rfl) rfl (by decide +kernel) (by kernel_rfl)
theorem arSelf (v:Value):argsOk "set_iterator.__iter__" ⟨[v],[]⟩:=by
 unfold argsOk
 rw[signature?_of (id:="set_iterator.__iter__") (n:=['_','_','r','e','t','i','_','_']) (o:=['r','o','t','a','r','e','t','i','_','t','e','s']) (by kernel_rfl) Zmc]
 kernel_rfl
theorem enIter:entryFor table "set.__iter__"=some Builtin.«frozenset.__iter__»:=entryFor_alias (id':="frozenset.__iter__") (by kernel_rfl) rfl (by decide +kernel) (by kernel_rfl)
theorem arNext (v:Value):argsOk "set_iterator.__next__" ⟨[v],[]⟩:=by
 unfold argsOk
 rw[signature?_of (id:="set_iterator.__next__") (n:=['_','_','t','x','e','n','_','_']) (o:=['r','o','t','a','r','e','t','i','_','t','e','s']) (by kernel_rfl) Zmc]
 kernel_rfl
theorem ZhK {α:Type}:∀(l:List α) (i:Nat) (h:i<l.length),(l[i]::l.eraseIdx i).Perm l
 |x::l,0,h=>List.Perm.refl _
 |x::l,i+1,h=>(List.Perm.swap x _ _).trans (List.Perm.cons x (ZhK l i (by simpa using h)))
theorem Zmd {α:Type} (f:Nat->Nat):∀(n k:Nat) (l:List α) (o:Array α),l.length=n->(pickOrder.go f n k l o).toList.Perm (o.toList++l)
 |0,k,l,o,h=>by
  have:l=[]:=List.length_eq_zero_iff.mp h
  subst this
  unfold pickOrder.go
  rw[List.append_nil]
 |n+1,k,l,o,h=>by
  have hlt:f k % l.length<l.length:=Nat.mod_lt _ ⋯
  unfold pickOrder.go
  rw[Yf hlt]
  dsimp only
  refine(Zmd f n (k+1) _ _ (by rw[List.length_eraseIdx_of_lt hlt];omega)).trans ?_
  rw[Array.toList_push,Ja]
  exact List.Perm.append_left _ (ZhK l _ hlt)
theorem Zna {α:Type} (f:Nat->Nat) (xs:Array α):(pickOrder f xs).toList.Perm xs.toList:=by
 unfold pickOrder
 exact Zmd f xs.size 0 xs.toList #[] Ys
noncomputable def TabAt (w:World) (h:Heap) (a:Addr) (es:Array (Int×Value)) (ep:Nat) (t:SetTable):Prop :=
 ∃o,h.get? a=some o/\o.ExactSet/\o.data=.set es ep t/\ST.Ok t es.size/\t.led=!w.params.followText "set-order"/\t.plain=true
noncomputable def ZdH (w:World) (a:Addr) (ep:Nat) (es:Array (Int×Value)):Array (Int×Value):=if w.params.followText "set-order"=true then pickOrder (w.params.setOrder a ep) es else es
theorem ZhL (w:World) (a:Addr) (ep:Nat) (es:Array (Int×Value)):(ZdH w a ep es).toList.Perm es.toList:=by
 unfold ZdH
 split
 .exact Zna _ _
 .exact List.Perm.refl _
noncomputable def Zku (h:Heap) (it a:Addr) (sl i n ep:Nat):Prop:=∃o,h.get? it=some o/\o.cls=.type "set_iterator"/\o.data=.fields #[.int sl 0,.int i 0,.ref a,.int n 0,.int ep 0]
section
variable {prog:Program}{w:World}{A:Around}{E:Value->Shared->Prop}{s:Shared}{a it:Addr}{es:Array (Int×Value)}{ep n i sl:Nat}{t:SetTable}
theorem TabAt.typeIs (h:TabAt w s.heap a es ep t):s.TypeIs (.ref a) "set":=by
 obtain⟨o,h1,h2,_⟩:=h
 exact⟨o,h1,h2.1⟩
theorem TabAt.at {h h':Heap} (x:TabAt w h a es ep t) (k:∀o,h.get? a=some o->h'.get? a=some o):TabAt w h' a es ep t:=by
 obtain⟨o,h1,h2⟩:=x
 exact⟨o,k o h1,h2⟩
theorem Zku.typeIs (h:Zku s.heap it a sl i n ep):s.TypeIs (.ref it) "set_iterator":=by
 obtain⟨o,h1,h2,_⟩:=h
 exact⟨o,h1,h2⟩
theorem Zku.at {h h':Heap} (x:Zku h it a sl i n ep) (k:∀o,h.get? it=some o->h'.get? it=some o):Zku h' it a sl i n ep:=by
 obtain⟨o,h1,h2⟩:=x
 exact⟨o,k o h1,h2⟩
theorem ZoL {Q:Value->Shared->Prop} (h:TabAt w s.heap a es ep t) (hQ:Q (.ref s.heap.objs.size) {s with heap:=s.heap.push {cls:=.type "set_iterator",data:=.fields #[.int 0 0,.int 0 0,.ref a,.int es.size 0,.int ep 0]}}) :
  wpAny (model prog w) A (pyIter (.ref a)) Q E s:=by
 have hT:=h.typeIs
 obtain⟨o,h1,h2,h3,h4,h5,h6⟩:=h
 refine wpAny_pyIter_slot hT F.slot_set_iter (wpAny_call_entry F.slot_set_iter hT enIter ?_ (F.args_set_iter_1 _))
 unfold Builtin.«frozenset.__iter__» Builtin.Frozenset.slot0 slotArgs
 simp only[List.isEmpty_nil,Bool.not_true,Bool.false_eq_true,↓reduceIte,bind_assoc,List.length_nil,bne_self_eq_false]
 unfold Builtin.Frozenset.addrOf Builtin.Frozenset.sizeOf setDrawn setsByText setEpoch
 refine Ya (Yc ?_)
 dsimp only
 refine Ya (Yc ?_)
 refine Ya (Ya (wpAny_setEntries_of h1 h3 h4.fits (Yc ?_)))
 simp only[bind_assoc]
 refine Ya (wpAny_setState_of h1 h3 h4.fits ?_)
 dsimp only
 refine Ya (wpAny_askSetting ?_)
 refine Ya (Yc (Ya (Yc ?_)))
 refine Y6 (λz=>absurd (show((!w.params.followText "set-order")&&(!t.plain&&decide (es.size>1)))=true from z) (by rw[h6];simp)) (λ_=>?_)
 refine Ya (Yc ?_)
 refine Ya (wpAny_setState_of h1 h3 h4.fits (Ya (Yc ?_)))
 unfold newFields
 refine Ya (wpAny_newObj_type (Yc ⟨_,rfl,"set_iterator",_,⟨_,Yv _ rfl,rfl⟩,Zjt.lookup,hQ⟩))
theorem ZoM {Q:Bool->Shared->Prop} (hT:s.TypeIs (.ref a) "set") (h:Q false s):wpAny (model prog w) A (Builtin.List.listLengthHint (.ref a)) Q E s:=by
 unfold Builtin.List.listLengthHint
 refine Ya (wpAny_specialOf hT PySem.F.slot_set_len.lookup ?_)
 generalize hid:("set.__len__":String)=id0
 wp_delta
 rw[show splitId id0=some ("set","__len__")from by subst hid;decide +kernel]
 subst hid
 refine Ya (wpAny_isInstance (T:="set") (b:=true) hT (by rw[isSubtype_type];kernel_rfl) ?_)
 refine Y6 (λz=>absurd z nofun) (λ_=>?_)
 refine Y6 (λ_=>?_) (λz=>absurd (by decide +kernel) z)
 refine Ya (wpAny_typeOf hT ?_)
 exact Yc h
theorem Zlp {Q:Option (Value×Nat)->Shared->Prop} (h:TabAt w s.heap a es ep t) (hle:i<=es.size) (hsl:w.params.followText "set-order"=false->below t.place sl=i)
  (hQ:∀r,(i<es.size->∃e sl',r=some (e.2,sl')/\(ZdH w a ep es)[i]?=some e/\(w.params.followText "set-order"=false->below t.place sl'=i+1))->(i=es.size->r=none)->Q r s) :
  wpAny (model prog w) A (setNext a sl i ep) Q E s:=by
 obtain⟨os,h1,h2,h3,h4,h5,h6⟩:=h
 have hz:=h4.size
 unfold setNext setsByText
 simp only[bind_assoc]
 refine Ya (wpAny_setState_of h1 h3 h4.fits ?_)
 dsimp only
 refine Ya (wpAny_askSetting ?_)
 refine Ya (Yc ?_)
 cases hb:w.params.followText "set-order" with
 |true =>
  have ew:ZdH w a ep es=pickOrder (w.params.setOrder a ep) es:=by unfold ZdH;rw[Yd hb]
  have sz:(ZdH w a ep es).size=es.size:=by have:=(ZhL w a ep es).length_eq;simpa using this
  refine Y6 (λ_=>?_) (λz=>absurd (show w.params.followText "set-order"=true from hb) z)
  refine Y6 (λz=>absurd z (by simp)) (λ_=>?_)
  unfold setWalk setsByText
  simp only[bind_assoc]
  refine Ya (wpAny_setState_of h1 h3 h4.fits ?_)
  dsimp only
  refine Ya (wpAny_askSetting ?_)
  refine Ya (Yc ?_)
  refine Ya (Y6 (λ_=>?_) (λz=>absurd (show w.params.followText "set-order"=true from hb) z))
  refine Ya (wpAny_askSetting ?_)
  refine Yc ?_
  refine Yc ?_
  refine hQ _ (λhlt=>?_) (λhe=>?_)
  .have g:(ZdH w a ep es)[i]?=some ((ZdH w a ep es)[i]'⋯):=Array.getElem?_eq_getElem ⋯
   refine⟨_,sl,?_,g,λz=>absurd (hb.symm.trans z) nofun⟩
   show Option.map _ ((pickOrder (w.params.setOrder a ep) es)[i]?)=_
   rw[<-ew,g]
   rfl
  .show Option.map _ ((pickOrder (w.params.setOrder a ep) es)[i]?)=_
   rw[<-ew,Array.getElem?_eq_none ⋯]
   rfl
 |false =>
  have ew:ZdH w a ep es=es:=by unfold ZdH;rw[Yb (by rw[hb];decide)]
  have hs:=hsl hb
  refine Y6 (λz=>absurd (show w.params.followText "set-order"=true from z) (by rw[hb];decide)) (λ_=>?_)
  refine Y6 (λz=>absurd (show(!t.plain&&decide (es.size>1))=true from z) (by rw[h6];simp)) (λ_=>?_)
  refine Ya (Y6 (λz=>absurd (show(!t.led&&!es.isEmpty)=true from z) (by rw[h5,hb];simp)) (λ_=>Yc ?_))
  refine Yc (hQ _ (λhlt=>?_) (λhe=>?_))
  .refine⟨es[i],t.place.getD i 0+1,?_,by rw[ew];exact Array.getElem?_eq_getElem hlt,λ_=>Zlm h4.rise ⋯⟩
   show(match es[below t.place sl]?,t.place[below t.place sl]? with|some (_,x),some j=>some (x,j+1)|_,_=>none)=_
   rw[hs,Array.getElem?_eq_getElem hlt,gq ⋯]
  .show(match es[below t.place sl]?,t.place[below t.place sl]? with|some (_,x),some j=>some (x,j+1)|_,_=>none)=_
   rw[hs,Array.getElem?_eq_none ⋯]
theorem Zkv {Q:Option Value->Shared->Prop} (hh:A.handled=none) (hi:Zku s.heap it a sl i es.size ep) (h:TabAt w s.heap a es ep t) (hle:i<=es.size) (hsl:w.params.followText "set-order"=false->below t.place sl=i)
  (hQ:i<es.size->∀e h' sl',(ZdH w a ep es)[i]?=some e->Zku h' it a sl' (i+1) es.size ep->(w.params.followText "set-order"=false->below t.place sl'=i+1)->Heap.ExtBut it s.heap h'->Q (some e.2) {s with heap:=h'})
  (hE:i=es.size->∀h',Heap.ExtBut it s.heap h'->Q none {s with heap:=h'}) :
  wpAny (model prog w) A (pyNext (.ref it)) Q E s:=by
 have hT:=hi.typeIs
 obtain⟨o,g1,g2,g3⟩:=hi
 have hx:=h
 obtain⟨os,h1,h2,h3,h4,h5,h6⟩:=h
 unfold pyNext
 refine Ya (wpAny_attempt (wpAny_callSpecial?_slot (name:=Str.ofString "__next__") hT Zjt (wpAny_call_entry Zjt hT enNext ?_ (arNext _))))
 unfold Builtin.«set_iterator.__next__» slotArgs
 simp only[List.isEmpty_nil,Bool.not_true,Bool.false_eq_true,↓reduceIte,bind_assoc,List.length_nil,bne_self_eq_false]
 refine Ya (Yc ?_)
 dsimp only
 refine Ya (wpAny_fieldsOf g1 g3 ?_)
 dsimp only
 refine Ya (wpAny_setEntries_of h1 h3 h4.fits ?_)
 rw[Yb (by simp)]
 refine Ya (m:=setNext a sl i ep) (Zlp hx hle hsl λr r1 r2=>?_)
 rcases Nat.lt_or_eq_of_le hle with hlt|he
 .obtain⟨e,sl',rfl,e1,e2⟩:=r1 hlt
  dsimp only
  refine Ya (wpAny_setField g1 g3 (by simp) ?_)
  have g1':(s.heap.update it (Obj.mapFields (·.setIfInBounds 0 (rawInt sl')))).get? it=some (Obj.mapFields (·.setIfInBounds 0 (rawInt sl')) o):=Heap.get?_update_self _ g1 (Obj.isFreed_of_fields (Obj.data_mapFields g3 _))
  have g3':=Obj.data_mapFields g3 (·.setIfInBounds 0 (rawInt sl'))
  refine Ya (wpAny_setField (s:={s with heap:=s.heap.update it (Obj.mapFields (·.setIfInBounds 0 (rawInt sl')))}) g1' g3' (by simp) ?_)
  refine Yc ⟨_,rfl,Yc (hQ hlt e _ sl' e1 ⟨_,Heap.get?_update_self _ g1' (Obj.isFreed_of_fields (Obj.data_mapFields g3' _)),(Obj.cls_mapFields ..).trans ((Obj.cls_mapFields ..).trans g2),by rw[Obj.data_mapFields g3'];simp[rawInt]⟩ e2 ?_)⟩
  exact((Heap.SameBut.update ..).trans (Heap.SameBut.update ..)).extBut
 .rw[r2 he]
  dsimp only
  refine Ya (wpAny_setField g1 g3 (by simp) ?_)
  show wpAny _ _ (newExc (.type "StopIteration") [] >>= _) _ _ _
  refine Ya ?_
  simp only[newExc,newTuple]
  refine Ya (wpAny_newObj_type ?_ (by size_fits))
  refine Ya (m:=firstArgMember _ _) (wpAny_of_eq (a:=Value.none) (by first|rfl|(simp only[firstArgMember];rfl)) ?_)
  refine wpAny_newObj_type ?_ (by size_fits)
  simp only[raiseNew]
  refine Ya (wpAny_handled ?_)
  rw[show A.in1.handled=none from hh]
  refine Ya (Yc (wpAny_throw ?_))
  refine Ya (wpAny_isInstance (T:="StopIteration") (b:=true) ⟨_,Yv _ rfl,rfl⟩ isSubtype_stop ?_)
  exact Yc (hE he _ (((Heap.SameBut.update ..).extBut.push _).push _))
end
end ST
namespace ST
open PySem PySem.Spec PySem.SetTable PyProof.Rows
open PySem.W
theorem ZgF {α β:Type}{f:α->β}:∀{l m:List β},l.Perm m->∀xs:List α,m=xs.map f->∃ys:List α,l=ys.map f/\ys.Perm xs:=by
 intro l m h
 induction h with
 |nil=>intro xs e;exact⟨xs,e,.refl _⟩
 |cons x h ih =>
  intro xs e
  cases xs with
  |nil=>cases e
  |cons y xs =>
   rw[YJ]at e
   injection e with e1 e2
   obtain⟨ys,a,b⟩:=ih xs e2
   exact⟨y::ys,by rw[YJ,<-a,<-e1],b.cons y⟩
 |swap x y l =>
  intro xs e
  cases xs with
  |nil=>cases e
  |cons u xs =>
   cases xs with
   |nil=>cases e
   |cons v xs =>
    rw[YJ,YJ]at e
    injection e with e1 e2
    injection e2 with e2 e3
    exact⟨v::u::xs,by rw[YJ,YJ,<-e1,<-e2,<-e3],List.Perm.swap u v xs⟩
 |trans h1 h2 ih1 ih2 =>
  intro xs e
  obtain⟨ys,a,b⟩:=ih2 xs e
  obtain⟨zs,c,d⟩:=ih1 ys a
  exact⟨zs,c,d.trans b⟩
section
variable {prog:Program}{w:World}{A:Around}{E:Value->Shared->Prop}{s:Shared}{a:Addr}{es:Array (Int×Value)}{ep n:Nat}{t:SetTable}
theorem Zme {h:Heap}{o:Obj} (ho:h.get? a=some o) (hd:o.data=.set es ep t) (es':Array (Int×Value)) (t':SetTable):(h.update a (Obj.putSet es' t')).get? a=some {o with data:=.set es' (ep+1) t'}:=by
 have:=Heap.get?_update_self (Obj.putSet es' t') ho (by rw[putSet_of es' t' hd];rfl)
 rw[putSet_of es' t' hd]at this
 exact this
theorem Ze3 {n:Nat} (h:n<1300):n<=sizeLine:=fits_of_scanBound (Nat.lt_trans h nofun)
noncomputable def ent {K:Type} [DecidableEq K] (knd:KeyKind prog w K) (p:K×Value):Int×Value:=(knd.hash p.1,p.2)
noncomputable def Znb (prog:Program) (w:World) (h:Heap) (a:Addr) (ks:List Int):Prop :=
 ∃(es:Array (Int×Value)) (ep:Nat) (t:SetTable) (xs:List (Int×Value)),TabAt w h a es ep t/\es.toList=xs.map (ent (intKind prog w))/\(∀p∈xs,(intKind prog w).is p.1 p.2=true)/\(xs.map (·.1)).Perm ks/\ks.Nodup
theorem ZoN {α β:Type} (f:α->Option β):∀(l:List α) (_:∀x∈l,(f x).isSome=true) {i:Nat},(l.filterMap f)[i]?=(l[i]?).bind f
 |[],_,i=>by simp
 |x::l,h,i=>by
  obtain⟨y,hy⟩:=Option.isSome_iff_exists.mp (h x (.head _))
  rw[List.filterMap_cons,hy]
  cases i with
  |zero=>exact hy.symm
  |succ i=>exact ZoN f l λz hz=>h z (.tail _ hz)
noncomputable def Fronts (t:SetTable) (es:Array (Int×Value)):Prop:=∀(i:Nat) (e:Int×Value),es[i]?=some e->Front t.mask (occT t) (t.place.getD i 0) (t.probeStart e.1)
theorem ZlH {α:Type} (xs:List α) (p:Nat) (x:α) (hp:p<=xs.length) (i:Nat):(xs.take p++x::xs.drop p)[i]?=if i<p then xs[i]? else if i=p then some x else xs[i-1]?:=by
 by_cases h1:i<p
 .rw[Yd h1,Y5 (by rw[Y4];omega),List.getElem?_take_of_lt h1]
 .rw[Yb h1,YV (by rw[Y4];omega),Y4,Nat.min_eq_left hp]
  by_cases h2:i=p
  .rw[Yd h2,h2,Nat.sub_self];rfl
  .rw[Yb h2]
   obtain⟨d,hd⟩:∃d,i-p=d+1:=⟨i-p-1,⋯⟩
   rw[hd,List.getElem?_cons_succ,List.getElem?_drop]
   congr 1;omega
theorem Znc {k:Int}{x:Value}{j:Nat} (hk:Ok t n) (hz:es.size=n) (hn:n<1228) (hj:j<=t.mask) (he:t.slot j=.empty) :
  (insertAt es (t.put j).2 (k,x)).toList.Perm ((k,x)::es.toList)/\(insertAt es (t.put j).2 (k,x)).size=n+1/\(t.put j).1.fits (n+1)=true/\(t.put j).1.led=t.led/\(t.put j).1.plain=t.plain /\
  ((t.put j).1.tooFull=false->Ok (t.put j).1 (n+1)) /\
  ((t.put j).1.tooFull=true->∃t2 order,(t.put j).1.relaid ((insertAt es (t.put j).2 (k,x)).map (·.1)) (grown (n+1))=some (t2,order)/\Ok t2 (n+1)/\t2.led=t.led/\t2.plain=t.plain/\order.toList.Perm (List.range (n+1))/\sizeAbove (grown (n+1))<=2048 /\
   (order.filterMap ((insertAt es (t.put j).2 (k,x))[·]?)).toList.Perm ((k,x)::es.toList)/\(order.filterMap ((insertAt es (t.put j).2 (k,x))[·]?)).size=n+1/\Fronts t2 (order.filterMap ((insertAt es (t.put j).2 (k,x))[·]?))):=by
 obtain⟨a1,a2,a3,a4,a5,a6,a7,a8⟩:=hk.put hj he
 have hp:(insertAt es (t.put j).2 (k,x)).toList.Perm ((k,x)::es.toList):=by
  refine(SetTable.insertAt_perm es _ _).trans ?_
  rw[Array.toList_push]
  exact List.perm_append_singleton _ _
 have hs:(insertAt es (t.put j).2 (k,x)).size=n+1:=by
  rw[<-Ys,hp.length_eq,YI,Ys,hz]
 have hf:(t.put j).1.tooFull=decide ((n+1)*5 ≥ t.mask*3):=by
  unfold tooFull SetTable.fill
  rw[a5,a4,a1]
  rfl
 refine⟨hp,hs,a8,a2,a3,λhh=>⟨by rw[a1];exact hk.mask,a5,a4,a6,by rw[a1];exact a7,?_⟩,λhh=>?_⟩
 .rw[hf]at hh
  have:=of_decide_eq_false hh
  rw[a1];omega
 .rw[hf]at hh
  have:=Y2 hh
  obtain⟨t2,order,b1,b2,b3,b4,b5,b6,b7⟩:=Zm9 (t:=(t.put j).1) (n:=n) (by rw[a1];exact hk.mask) (by rw[a1];exact hk.room) (by rw[a1];omega) hn ((insertAt es (t.put j).2 (k,x)).map (·.1)) (by rw[Array.size_map,hs])
  have q:=Zlo (insertAt es (t.put j).2 (k,x)) order (by rw[hs];exact b5)
  refine⟨t2,order,b1,b2,b3.trans a2,b4.trans a3,b5,b6,q.trans hp,?_,λi e he=>?_⟩
  .rw[<-Ys,q.length_eq,Ys,hs]
  .rw[<-YW,Array.toList_filterMap,ZoN _ _ (λx hx=>by
    have:=Yq.mp (b5.mem_iff.mp hx)
    rw[Array.getElem?_eq_getElem ⋯];rfl)]at he
   cases ho:order.toList[i]? with
   |none=>rw[ho]at he;cases he
   |some y =>
    rw[ho]at he
    have he:(insertAt es (t.put j).2 (k,x))[y]?=some e:=he
    have:=b7 i y ho
    rw[Yg,YW,Array.getElem?_map,he]at this
    exact this
theorem add_num {ks:List Int}{k:Int}{tk:Tok}{Q:Bool->Shared->Prop} (hS:Znb prog w s.heap a ks) (hroom:ks.length<1228)
  (h:∀b h',Heap.SameBut a s.heap h'->Znb prog w h' a (if k∈ks then ks else k::ks)->Q b {s with heap:=h'}) :
  wpAny (model prog w) A (setAddHashed a (.int k tk) ((intKind prog w).hash k)) Q E s:=by
 have hS0:=hS
 obtain⟨es,ep,t,xs,⟨o,h1,h2,h3,h4,h5,h6⟩,e1,e2,e3,e4⟩:=hS
 have hlen:es.size=ks.length:=by rw[<-Ys,e1,Yh,<-Yh (f:=(·.1)),e3.length_eq]
 have hel:ElemsOf (intKind prog w) es.toList:=by
  intro e he
  rw[e1]at he
  obtain⟨p,hp,rfl⟩:=YH.mp he
  obtain⟨u,eu⟩:=Value.isInt_shape (e2 p hp)
  exact⟨⟨p.1,e2 p hp,rfl⟩,by show p.2.scannable=true;rw[eu];rfl⟩
 have hkey:(intKind prog w).is k (.int k tk)=true:=intKind_is _ _ _ _
 unfold setAddHashed setAddHashedIn
 refine YE (Ya (wpAny_setState_of h1 h3 h4.fits ?_))
 dsimp only
 rw[byScan_of (show(Value.int k tk).scannable=true from rfl) (by rw[hlen];exact Nat.lt_trans hroom nofun) hel]
 simp only[↓reduceIte]
 unfold setAddByScan
 refine Ya ?_
 refine Ya (wpAny_rule ?_)
 refine Ya (wpAny_setScan_of hkey h1 h3 h4.fits hel ?_)
 have hmem:(∃e∈es.toList,(intKind prog w).is k e.2=true)↔k∈ks:=by
  rw[<-e3.mem_iff,e1]
  constructor
  .rintro⟨e,he,q⟩
   obtain⟨p,hp,rfl⟩:=YH.mp he
   exact YH.mpr ⟨p,hp,(intKind prog w).inj p.2 _ _ (e2 p hp) q⟩
  .intro hk
   obtain⟨p,hp,q⟩:=YH.mp hk
   exact⟨_,YH.mpr ⟨p,hp,rfl⟩,by rw[<-q];exact e2 p hp⟩
 cases hr:List.findIdx? (λe=>(intKind prog w).is k e.2) es.toList with
 |some i =>
  dsimp only
  obtain⟨hi,hpi,_⟩:=List.findIdx?_eq_some_iff_getElem.mp hr
  have hk:k∈ks:=hmem.mp ⟨_,YK hi,hpi⟩
  have:=h false s.heap (Heap.SameBut.refl a s.heap) (by rw[Yd hk];exact hS0)
  exact Yc (Yc this)
 |none =>
  dsimp only
  have hk:k∉ks:=λhk=>by
   obtain⟨e,he,q⟩:=hmem.mpr hk
   have:=List.findIdx?_eq_none_iff.mp hr e he
   rw[q]at this;cases this
  obtain⟨j,f1,f2,f3⟩:=h4.freeSlot ((intKind prog w).hash k)
  obtain⟨g1,g2,g3,g4,g5,g6,g7⟩:=Znc (k:=(intKind prog w).hash k) (x:=.int k tk) h4 rfl ⋯ f2 f3
  have hL:layNew t es ((intKind prog w).hash k) (.int k tk)=(insertAt es (t.put j).2 ((intKind prog w).hash k,.int k tk),(t.put j).1,false,false):=by
   unfold layNew
   rw[f1]
   dsimp only
   rw[g2,g3]
   unfold orStandIn
   rw[Yd g3]
   rfl
  rw[hL]
  dsimp only
  refine Ya (Yc ?_)
  rw[g5.trans h6]
  simp only[↓reduceIte]
  refine Ya (m:=hashByValue 8 (.int k tk)) (Yc ?_)
  simp only[↓reduceIte]
  have hdone:∀(h':Heap) (es2:Array (Int×Value)) (ep2:Nat) (t2:SetTable),Heap.SameBut a s.heap h'->h'.get? a=some {o with data:=.set es2 ep2 t2}->Ok t2 (es.size+1)->t2.led=t.led->t2.plain=t.plain->es2.toList.Perm (((intKind prog w).hash k,.int k tk)::es.toList)->Znb prog w h' a (if k∈ks then ks else k::ks):=by
   intro h' es2 ep2 t2 _ hg hO hl hp hq
   rw[Yb hk]
   have hsz:es2.size=es.size+1:=by rw[<-Ys,hq.length_eq,YI,Ys]
   obtain⟨ys,y1,y2⟩:=ZgF hq ((k,.int k tk)::xs) (by rw[YJ,<-e1];rfl)
   refine⟨es2,ep2,t2,ys,⟨_,hg,h2,rfl,by rw[hsz];exact hO,hl.trans h5,hp.trans h6⟩,y1,λp hp=>?_,?_,List.nodup_cons.mpr ⟨hk,e4⟩⟩
   .rcases Yi.mp (y2.mem_iff.mp hp)with rfl|hp
    .exact hkey
    .exact e2 p hp
   .exact(List.Perm.map (λp:Int×Value=>p.1) y2).trans (List.Perm.cons k e3)
  refine Ya (wpAny_storeSet_of h1 h3 ?_ (Ze3 (by rw[g2];omega)))
  have k1:=Zme h1 h3 (insertAt es (t.put j).2 ((intKind prog w).hash k,.int k tk)) (t.put j).1
  have k2:=Heap.SameBut.update s.heap a (Obj.putSet (insertAt es (t.put j).2 ((intKind prog w).hash k,.int k tk)) (t.put j).1)
  cases hf:(t.put j).1.tooFull with
  |false =>
   refine Y6 (λz=>absurd z (by simp)) (λ_=>?_)
   exact Yc (Yc (h true _ k2 (hdone _ _ _ _ k2 k1 (g6 hf) g4 g5 g1)))
  |true =>
   obtain⟨t2,order,r1,r2,r3,r4,r5,r6,r7,r8,_⟩:=g7 hf
   refine Y6 (λ_=>?_) (λz=>absurd z (by simp))
   have hR:relayAll (t.put j).1 (insertAt es (t.put j).2 ((intKind prog w).hash k,.int k tk)) (grown (insertAt es (t.put j).2 ((intKind prog w).hash k,.int k tk)).size)=(order.filterMap ((insertAt es (t.put j).2 ((intKind prog w).hash k,.int k tk))[·]?),t2,false):=by
    unfold relayAll
    rw[g2,r1]
    dsimp only
    have:(coversAll order (es.size+1)&&t2.fits (order.filterMap ((insertAt es (t.put j).2 ((intKind prog w).hash k,.int k tk))[·]?)).size)=true:=by
     rw[r8,r2.fits,Bool.and_true]
     unfold coversAll
     exact List.isPerm_iff.mpr r5
    rw[Yd this]
   rw[hR]
   dsimp only
   refine Ya (Yc ?_)
   refine Ya (wpAny_storeSet_of k1 rfl ?_ (Ze3 (by rw[r8];omega)))
   have k3:=Zme k1 rfl (order.filterMap ((insertAt es (t.put j).2 ((intKind prog w).hash k,.int k tk))[·]?)) t2
   have k4:=k2.trans (Heap.SameBut.update _ a (Obj.putSet (order.filterMap ((insertAt es (t.put j).2 ((intKind prog w).hash k,.int k tk))[·]?)) t2))
   exact Yc (Yc (h true _ k4 (hdone _ _ _ _ k4 k3 r2 r3 r4 r7)))
end
theorem Znd {prog:Program}{w:World}{A:Around} (hh:A.handled=none) (I l:Addr) (hne:l≠I) (items:Array Value) :
  Walks prog w A I [I,l] [I] items.size (λi v=>items[i]?=some v) (λi h=>IsTupIter h I l i/\IsTup h l items) where
 sub:=λb hb=>Yi.mpr (.inl (YT.mp hb))
 frame:=λ_ _ _ st hk=>by
  obtain⟨⟨o,a1,a2⟩,o',b1,b2⟩:=st
  exact⟨⟨o,hk I (.head _) o a1,a2⟩,o',hk l (.tail _ (.head _)) o' b1,b2⟩
 item:=λi s Q E hi st hQ=>next_tuple_item st.1 st.2 (Array.getElem?_eq_getElem hi) λh' hit' hs'=>hQ _ h' s.toks (Array.getElem?_eq_getElem hi) ⟨hit',st.2.extBut hs'.extBut hne⟩ λb o hb e=>hs'.extBut b o (λh=>hb (YT.mpr h)) e
 done:=λs Q E st hQ=>next_tuple_end hh st.1 st.2 (by simp) λh' he'=>hQ h' s.toks λb o hb e=>he' b o (λh=>hb (YT.mpr h)) e
 self:=λ_ _ _ _ st hQ=>wpAny_pyIter_tupleiter st.1 hQ
structure Src (prog:Program) (w:World) (T:String) (l:Addr) (n:Nat) (P:Nat->Value->Prop) (OK:Heap->Prop):Prop where
 type:∀s:Shared,OK s.heap->s.TypeIs (.ref l) T
 keep:∀h h',OK h->(∀o,h.get? l=some o->h'.get? l=some o)->OK h'
 sub1:isSubtype (.type T) (.type "set")=pure false
 sub2:isSubtype (.type T) (.type "frozenset")=pure false
 notd:(Value.type T==Value.type "dict")=false
 iter:∀(A:Around) (s:Shared),A.handled=none->OK s.heap->∃(oI:Obj) (St:Nat->Heap->Prop),(∀(E Q:Value->Shared->Prop),Q (.ref s.heap.objs.size) {s with heap:=s.heap.push oI}->wpAny (model prog w) A (pyIter (.ref l)) Q E s) /\
  (∀A':Around,A'.handled=none->Walks prog w A' s.heap.objs.size [s.heap.objs.size,l] [s.heap.objs.size] n P St)/\St 0 (s.heap.push oI)
theorem Zne:isSubtype (.type "tuple") (.type "set")=pure false:=by rw[isSubtype_type];kernel_rfl
theorem Znf:isSubtype (.type "tuple") (.type "frozenset")=pure false:=by rw[isSubtype_type];kernel_rfl
theorem src_list {prog:Program}{w:World}{l:Addr} (items:Array Value):Src prog w "list" l items.size (λi v=>items[i]?=some v) (λh=>h.IsList l items) where
 type:=λs h=>h.typeIs
 keep:=λh h' x k=>x.at k
 sub1:=F.sub_list_set
 sub2:=F.sub_list_frozenset
 notd:=by decide
 iter:=λA s hh x=>⟨_,_,λE Q hq=>wpAny_pyIter_list x hq,λA' h'=>Walks.list h' _ l (Yl (by obtain⟨o,e,_⟩:=x;exact Yj e)) items,⟨⟨_,Yv _ rfl,rfl,rfl⟩,x.push _⟩⟩
theorem Zru {prog:Program}{w:World}{l:Addr} (items:Array Value):Src prog w "tuple" l items.size (λi v=>items[i]?=some v) (λh=>IsTup h l items) where
 type:=λs h=>h.typeIs
 keep:=λh h' x k=>by obtain⟨o,a,b⟩:=x;exact⟨o,k o a,b⟩
 sub1:=Zne
 sub2:=Znf
 notd:=by decide
 iter:=λA s hh x=>⟨_,_,λE Q hq=>iter_tuple x hq,λA' h'=>Znd h' _ l (Yl x.lt) items,⟨⟨_,Yv _ rfl,rfl,rfl⟩,x.push _⟩⟩
section
variable {prog:Program}{w:World}{A:Around}{R:Result->Shared->Prop}{I S:Addr}{fp wr:List Addr}{n:Nat}{P:Nat->Value->Prop}{St:Nat->Heap->Prop}{SK:Nat->Heap->Prop}
theorem ZoO (W:∀A',A'.handled=none->Walks prog w A' I fp wr n P St) (hh:A.handled=none) (hSf:S∉fp) (keep:∀i h h',SK i h->(∀b o,b∉wr->h.get? b=some o->h'.get? b=some o)->SK i h')
  (add:∀(A':Around) i v (s:Shared) (Q:Bool->Shared->Prop) (E:Value->Shared->Prop),i<n->P i v->SK i s.heap->(∀u h' tk,Heap.SameBut S s.heap h'->SK (i+1) h'->Q u {s with heap:=h',toks:=tk})->wpAny (model prog w) A' (setAdd S v) Q E s) :
  ∀(k i:Nat) (s:Shared),n-i=k->i<=n->St i s.heap->SK i s.heap ->
   (∀h' tk,(∀b o,b∉S::wr->s.heap.get? b=some o->h'.get? b=some o)->SK n h'->R (.ok (.ret .none)) {s with heap:=h',toks:=tk}) ->
   codeAny (model prog w) A (.builtin "set.update.loop" ⟨[.ref S,.ref I],[]⟩) R s:=by
 intro k
 induction k with
 |zero =>
  intro i s hk hi st sk hR
  have:i=n:= ⋯
  subst this
  refine codeAny_builtin F.entry_set_update_loop ?_
  rw[Around.under_plainId F.plain_set_update_loop _]
  show wpAny _ A.in1 (pyNext (.ref I) >>= _) _ _ s
  refine Ya ((W A.in1 hh).done s _ _ st λh' tk hkp=>?_)
  show wpAny _ A.in1 (ret Value.none) _ _ _
  exact Yc (hR h' tk (λb o hb e=>hkp b o (λz=>hb (.tail _ z)) e) (keep _ _ _ sk hkp))
 |succ k ih =>
  intro i s hk hi st sk hR
  refine codeAny_builtin F.entry_set_update_loop ?_
  rw[Around.under_plainId F.plain_set_update_loop _]
  show wpAny _ A.in1 (pyNext (.ref I) >>= _) _ _ s
  refine Ya ((W A.in1 hh).item i s _ _ ⋯ st λv h' tk hP st' hkp=>?_)
  show wpAny _ A.in1 (holding [v] (setAdd S v) >>= _) _ _ _
  refine Ya (YE ?_)
  refine add A.in1 i v _ _ _ ⋯ hP (keep _ _ _ sk hkp) λu h2 tk2 hs sk2=>?_
  refine Yc ⟨plainId_quiet F.plain_set_update_loop _,ih (i+1) _ ⋯ ⋯ ((W A.in1 hh).frame _ h' _ st' λb hb o e=>?_) sk2 λh3 tk3 hk3 sk3=>hR h3 tk3 (λb o hb e=>?_) sk3⟩
  .rw[hs.2 b (λz:b=S=>hSf (z▸hb))];exact e
  .refine hk3 b o hb ?_
   show h2.get? b=some o
   rw[hs.2 b (λz:b=S=>hb (by rw[z];exact .head _))]
   exact hkp b o (λz=>hb (.tail _ z)) e
end
section
variable {prog:Program}{w:World}{A:Around}{E:Value->Shared->Prop}{s:Shared}{T:String}{l:Addr}{n:Nat}{P:Nat->Value->Prop}{OK:Heap->Prop}{SK:Addr->Nat->Heap->Prop}
theorem Zrv (v:Value) {Q₁:Value->Shared->Prop} (h:Q₁ (.ref s.heap.objs.size) {s with heap:=s.heap.push {cls:=.type "set",dict:=none,data:=.set #[] 0 (.fresh 0 0 (!w.params.followText "set-order"))}}) :
  codeAny (model prog w) A (.call (.builtin "set.__new__") ⟨[.type "set",v],[]⟩) (wants Q₁ E) s:=by
 refine codeAny_of_tree ?_
 show wpAny _ A.in1 (do checkBuiltinCall "set.__new__" ⟨[.type "set",v],[]⟩;again (.builtin "set.__new__" ⟨[.type "set",v],[]⟩)) _ _ s
 refine Ya (wpAny_of_eq (F.newCall_set_1 v) (Yc ⟨plainId_quiet F.plain_set_new _,codeAny_builtin F.entry_set_new ?_⟩))
 rw[Around.under_plainId F.plain_set_new _]
 unfold Builtin.«set.__new__» Builtin.Frozenset.newClass
 have hsub:=sub_set_self
 obtain⟨hp,g,d,tk,os⟩:=s
 dsimp only
 wp_walk
 refine wpAny_askSetting (Yc ?_)
 dsimp only
 simp only[newObj]
 exact Ya (wpAny_alloc (Yc (Yc h)))
theorem ZoP {Q:Value->Shared->Prop} (Sr:Src prog w T l n P OK) (hh:A.handled=none) (ok:OK s.heap) (hl:l<s.heap.objs.size)
  (start:∀h',(h'.get? s.heap.objs.size=some {cls:=.type "set",dict:=none,data:=.set #[] 0 (.fresh 0 0 (!w.params.followText "set-order"))})->(∀b o,s.heap.get? b=some o->h'.get? b=some o)->SK s.heap.objs.size 0 h')
  (keep:∀S i h h',SK S i h->(∀b o,b≠s.heap.objs.size+1->h.get? b=some o->h'.get? b=some o)->SK S i h')
  (add:∀(A':Around) S i v (s':Shared) (Q:Bool->Shared->Prop) (E:Value->Shared->Prop),i<n->P i v->SK S i s'.heap->(∀u h' tk,Heap.SameBut S s'.heap h'->SK S (i+1) h'->Q u {s' with heap:=h',toks:=tk})->wpAny (model prog w) A' (setAdd S v) Q E s')
  (h:∀(h':Heap) (tk:Nat),SK s.heap.objs.size n h'->(∀b o,b<s.heap.objs.size->s.heap.get? b=some o->h'.get? b=some o)->Q (.ref s.heap.objs.size) {s with heap:=h',toks:=tk}) :
  wpAny (model prog w) A (call (.type "set") [.ref l]) Q E s:=by
 obtain⟨c,tl,hmro⟩:=F.called_set.mro
 have hmade:=F.called_set.made
 have hsub:=F.called_set.sub
 refine wpAny_call (codeAny_of_tree ?_)
 show wpAny _ _ (callAny (.type "set") _) _ _ _
 refine Yc ⟨Code.quiet_builtin _ (by decide +kernel),codeAny_builtin F.entry_type_call ?_⟩
 rw[Around.under_plain (weight_type_call_type "set" [.ref l] []) rfl]
 have h1:=F.called_set.notType
 have h2:=F.called_set.canCreate
 have hct:=F.typeCall_set_1 (.ref l)
 repeat (any_goals (first|assumption|wp_step))
 have hg:(s.heap.push {cls:=.type "set",dict:=none,data:=.set #[] 0 (.fresh 0 0 (!w.params.followText "set-order"))}).get? s.heap.objs.size=some {cls:=.type "set",dict:=none,data:=.set #[] 0 (.fresh 0 0 (!w.params.followText "set-order"))}:=Yv _ rfl
 refine codeAny_mono (Zrv (.ref l) (E:=E) (Q₁:=λobj s₁=>obj=.ref s.heap.objs.size/\s₁={s with heap:=s.heap.push {cls:=.type "set",dict:=none,data:=.set #[] 0 (.fresh 0 0 (!w.params.followText "set-order"))}}) ⟨rfl,rfl⟩) λr s₁ hr=>?_
 cases r with
 |error e=>exact hr
 |ok fl =>
  cases fl with
  |ret obj =>
   obtain⟨rfl,rfl⟩:=hr
   have hT:Shared.TypeIs {s with heap:=s.heap.push {cls:=.type "set",dict:=none,data:=.set #[] 0 (.fresh 0 0 (!w.params.followText "set-order"))}} (.ref s.heap.objs.size) "set":=⟨_,hg,rfl⟩
   have hli:=F.called_set.init.lookup
   have hbi:=F.called_set.init.bind (.ref s.heap.objs.size)
   repeat (any_goals (first|assumption|wp_step))
   refine codeAny_mono (codeAny_call_builtin (R:=wants (λr s₂=>r=.none/\∃h' tk,s₂={s with heap:=h',toks:=tk}/\SK s.heap.objs.size n h'/\(∀b o,b<s.heap.objs.size->s.heap.get? b=some o->h'.get? b=some o)) E) F.called_set.init.plain F.entry_set_init (check_set_init_1 hT ?_)) λr₂ s₂ hr₂=>?_
   .have ok1:OK (s.heap.push {cls:=.type "set",dict:=none,data:=.set #[] 0 (.fresh 0 0 (!w.params.followText "set-order"))}):=Sr.keep _ _ ok λo e=>Yk _ e
    have hTl:Shared.TypeIs {s with heap:=s.heap.push {cls:=.type "set",dict:=none,data:=.set #[] 0 (.fresh 0 0 (!w.params.followText "set-order"))}} (.ref l) T:=Sr.type _ ok1
    have hs1:=Sr.sub1
    have hs2:=Sr.sub2
    have hnd:=Sr.notd
    unfold Builtin.«set.__init__» noKeywords Builtin.Frozenset.updateFrom
    generalize hPI:pyIter=PI
    wp_walk
    subst hPI
    have hz:(s.heap.push {cls:=.type "set",dict:=none,data:=.set #[] 0 (.fresh 0 0 (!w.params.followText "set-order"))}).objs.size=s.heap.objs.size+1:=by rw[Heap.size_push]
    obtain⟨oI,St,hit,hW,hst⟩:=Sr.iter A.in1.in1 {s with heap:=s.heap.push {cls:=.type "set",dict:=none,data:=.set #[] 0 (.fresh 0 0 (!w.params.followText "set-order"))}} (by simp[hh]) ok1
    refine hit _ _ ?_
    refine Ya (wpAny_runValue ?_)
    dsimp only at hW hst⊢
    rw[hz]at hW⊢
    refine ZoO (SK:=SK s.heap.objs.size) (S:=s.heap.objs.size) hW (by simp[hh]) ?_ (λi h h' x k=>keep _ i h h' x λb o hb e=>k b o (λz=>hb (YT.mp z)) e) (λA' i v s' Q E=>add A' _ i v s' Q E) n 0 _ ⋯ (Yo _) hst ?_ (λh' tk hk sk=>?_)
    .simp only[Yi,List.not_mem_nil,or_false,not_or]
     exact⟨Yl (Nat.lt_succ_self _),Nat.ne_of_gt hl⟩
    .exact start _ (Yk _ hg) λb o e=>Yk _ (Yk _ e)
    .show wpAny _ _ _ _ _ _
     refine Yc ?_
     show wpAny _ _ (ret Value.none) _ _ _
     refine Yc ⟨rfl,h',tk,rfl,sk,λb o hb e=>hk b o ?_ (Yk _ (Yk _ e))⟩
     simp only[Yi,List.not_mem_nil,or_false,not_or]
     exact⟨Yl hb,Yl (YR hb)⟩
   .cases r₂ with
    |error e=>exact hr₂
    |ok f2 =>
     cases f2 with
     |ret r =>
      obtain⟨rfl,h',tk,rfl,sk,hk⟩:=hr₂
      repeat (any_goals (first|assumption|wp_step))
      exact h _ _ sk hk
     |_=>exact hr₂.elim
  |_=>exact hr.elim
theorem Zng {items:Array Value}{ns:List Int}{Q:Value->Shared->Prop} (Sr:Src prog w T l items.size (λi v=>items[i]?=some v) OK) (hh:A.handled=none) (ok:OK s.heap) (hl:l<s.heap.objs.size)
  (hi:IntsAre items.toList ns) (hn:ns.length<1228)
  (h:∀(h':Heap) (tk:Nat) (ks:List Int),Znb prog w h' s.heap.objs.size ks->(∀k,k∈ks↔k∈ns)->ks.Nodup->(∀b o,b<s.heap.objs.size->s.heap.get? b=some o->h'.get? b=some o)->Q (.ref s.heap.objs.size) {s with heap:=h',toks:=tk}) :
  wpAny (model prog w) A (call (.type "set") [.ref l]) Q E s:=by
 have hl1:items.size=ns.length:=by have:=hi.length;simpa using this
 refine ZoP (SK:=λS i h=>∃ks:List Int,Znb prog w h S ks/\S=s.heap.objs.size/\(∀k,k∈ks↔k∈ns.take i)/\ks.Nodup/\ks.length<=i) Sr hh ok hl (λh' e _=>?_) (λS i h h' x k=>?_) (λA' S i v s' Q' E' hi' hP x k=>?_) (λh' tk x k=>?_)
 .exact⟨[],⟨#[],0,_,[],⟨_,e,⟨rfl,rfl,rfl⟩,rfl,ZoJ _ _ _,rfl,rfl⟩,rfl,λp hp=>(by cases hp),.refl _,.nil⟩,rfl,λk=>by simp,.nil,Ye _⟩
 .obtain⟨ks,⟨es,ep,t,xs,a1,a2⟩,e,a3⟩:=x
  exact⟨ks,⟨es,ep,t,xs,a1.at λo eo=>k S o (by rw[e];exact Yl (Nat.lt_succ_self _)) eo,a2⟩,e,a3⟩
 .obtain⟨ks,a1,e,a3,a4,a5⟩:=x
  obtain⟨tk,rfl⟩:=IntsAre.int_at hi i v (by rw[YW];exact hP)
  unfold setAdd
  refine YE (Ya ((intKind prog w).pyHash (k:=ns.getD i 0) (intKind_is _ _ _ _) ?_))
  refine add_num (s:={s' with toks:=s'.toks+1}) a1 ⋯ λb h' hs hS=>k b h' _ hs ⟨_,hS,e,λx=>?_,?_,?_⟩
  .have et:ns.take (i+1)=ns.take i++[ns.getD i 0]:=by
    rw[Je,Yg,Yf ⋯];rfl
   rw[et,Yw,YT]
   split
   .rename_i hm
    exact⟨λz=>.inl ((a3 x).mp z),λz=>z.elim (a3 x).mpr λz=>z▸hm⟩
   .rw[Yi,a3 x]
    exact⟨λz=>z.elim .inr .inl,λz=>z.elim .inr .inl⟩
  .split
   .exact a4
   .exact List.nodup_cons.mpr ⟨by assumption,a4⟩
  .split
   .omega
   .rw[YI];omega
 .obtain⟨ks,a1,e,a3,a4,a5⟩:=x
  exact h h' tk ks a1 (λx=>by rw[a3,List.take_of_length_le ⋯]) a4 k
end
theorem Zrw {prog:Program}{w:World}{a:Addr}{es:Array (Int×Value)}{ep:Nat}{t:SetTable} (hlt:∀h,TabAt w h a es ep t->a<h.objs.size) :
  KdlSrc prog w "set" a a es.size (λi v=>∃e,(ZdH w a ep es)[i]?=some e/\v=e.2) (λh=>TabAt w h a es ep t) where
 type:=λs x=>x.typeIs
 there:=λh x=>⟨hlt h x,hlt h x⟩
 keep:=λh h' x k=>x.at λo e=>k a (.inl rfl) o e
 notList:=by decide
 notTuple:=by decide
 hint:=λA E s Q x hq=>ZoM x.typeIs hq
 iter:=λA s hh x=>⟨_,λi h=>i<=es.size/\∃sl,Zku h s.heap.objs.size a sl i es.size ep/\(w.params.followText "set-order"=false->below t.place sl=i)/\TabAt w h a es ep t,λE Q hq=>ZoL x hq,
  {sub:=λb hb=>Yi.mpr (.inl (YT.mp hb))
   frame:=λi h h' st k=>by
    obtain⟨a0,sl,a1,a2,a3⟩:=st
    exact⟨a0,sl,a1.at λo e=>k _ (.head _) o e,a2,a3.at λo e=>k a (.tail _ (.head _)) o e⟩
   item:=λi s' Q E hi st hQ=>by
    obtain⟨a0,sl,a1,a2,a3⟩:=st
    refine Zkv hh a1 a3 a0 a2 (λ_ e h' sl' e1 e2 e3 e4=>hQ e.2 h' s'.toks ⟨e,e1,rfl⟩ ⟨hi,sl',e2,e3,a3.at λo eo=>e4 a o (Yl (hlt _ x)) eo⟩ λb o hb eo=>e4 b o (λz=>hb (YT.mpr z)) eo) λz=>absurd z (Yl hi)
   done:=λs' Q E st hQ=>by
    obtain⟨a0,sl,a1,a2,a3⟩:=st
    exact Zkv hh a1 a3 a0 a2 (λz=>absurd z (YB _)) λ_ h' e4=>hQ h' s'.toks λb o hb eo=>e4 b o (λz=>hb (YT.mpr z)) eo
   self:=λi s' Q E st hQ=>by
    obtain⟨a0,sl,a1,a2,a3⟩:=st
    refine wpAny_pyIter_slot a1.typeIs ZoK (wpAny_call_entry ZoK a1.typeIs enSelf ?_ (arSelf _))
    show wpAny _ _ (ret (.ref _)) _ _ _
    exact Yc ⟨_,rfl,"set_iterator",_,a1.typeIs,Zjt.lookup,hQ⟩},
  ⟨Yo _,0,⟨_,Yv _ rfl,rfl,rfl⟩,λ_=>(by obtain⟨_,_,_,_,ok,_⟩:=x;exact Zln ok.rise),x.at λo e=>Yk _ e⟩⟩
end ST
namespace Lake
open PySem PySem.Spec PyProof.Rows PySem.W
section
variable {X:Cx}
theorem ZoQ:∀{a b:List Int},a.Nodup->(∀x∈a,x∈b)->a.length<=b.length
 |[],b,_,_=>Yo _
 |x::a,b,hn,hs=>by
  obtain⟨h1,h2⟩:=List.nodup_cons.mp hn
  have hx:=hs x (.head _)
  have h3:=ZoQ h2 (b:=b.erase x) λy hy=>(List.mem_erase_of_ne (λe:y=x=>h1 (e▸hy))).mpr (hs y (.tail _ hy))
  have h4:=List.length_erase_of_mem hx
  have h5:=List.length_pos_of_mem hx
  rw[YI];omega
noncomputable def tSortSet (K:Frag) (te:TE):TE:=fun σ H Q=>te σ H λv H1=>∃(p:Addr) (ns:List Int),v=.ref p/\(SqL K H1 p (ns.map V.int)\/SqT K H1 p (ns.map V.int))/\ns.length<64 /\
 ∀(zs:List Int) (l:Addr),(∀z,z∈zs↔z∈ns)->zs.Pairwise (· < ·)->H1 l=none->Q (.ref l) (upd H1 l (.lst (zs.map V.int)))
theorem ZoR {A:Around}{E:Value->Shared->Prop}{s:Shared}{prog:Program}{w:World}{a:Addr}{ks:List Int}{R:List Value->Shared->Prop} (hh:A.handled=none) (hS:ST.Znb prog w s.heap a ks) (hn:ks.length<1228)
  (k:∀(h':Heap) (tk:Nat) (vs:List Value) (ms:List Int),(∀b o,s.heap.get? b=some o->h'.get? b=some o)->s.heap.objs.size<h'.objs.size->IntsAre vs ms->ms.Perm ks->R vs {s with heap:=h',toks:=tk}) :
  wpAny (model prog w) A (collect (.ref a)) R E s:=by
 obtain⟨es,ep,t,xs,hT,e1,e2,e3,e4⟩:=hS
 have hsz:es.size=xs.length:=by rw[<-Ys,e1,Yh]
 have hxs:xs.length=ks.length:=by rw[<-e3.length_eq,Yh]
 have hlt:∀h,ST.TabAt w h a es ep t->a<h.objs.size:=λh x=>by obtain⟨o,eo,_⟩:=x;exact Yj eo
 refine Zjq (ST.Zrw (prog:=prog) hlt) hh hT (ST.Ze3 ⋯) λh' tk acc hk hlt' hacc=>?_
 obtain⟨ys,y1,y2⟩:=ST.ZgF (f:=ST.ent (intKind prog w)) (ST.ZhL w a ep es) xs e1
 have hyl:ys.length=xs.length:=y2.length_eq
 refine k h' tk acc.toList (ys.map (·.1)) hk hlt' (ZhB (by rw[Ys,hacc.1,Yh];omega) λj v hv=>?_) ((List.Perm.map (λp:Int×Value=>p.1) y2).trans e3)
 obtain⟨e,f1,rfl⟩:=hacc.2 j v (by rw[<-YW];exact hv)
 rw[<-YW,y1,YG]at f1
 cases hy:ys[j]? with
 |none=>rw[hy]at f1;cases f1
 |some p =>
  rw[hy]at f1
  have f1:ST.ent (intKind prog w) p=e:=YF f1
  subst f1
  obtain⟨u,eu⟩:=Value.isInt_shape (e2 p (y2.mem_iff.mp (List.mem_of_getElem? hy)))
  exact⟨p.1,u,by rw[YG,hy];rfl,eu⟩
theorem Zlq {K:Frag}{e:Expr}{te:TE}{p1 p2 ps pp:Pos} (hK:X.K=K) (hc:X.calm=true) (hg:Gl X "sorted") (hm:X.mg "sorted"=none) (hg2:Gl X "set") (hm2:X.mg "set"=none) (he:PE X e te)
  (hs1:starEach [e] X.env=(false,eval e X.env)::starEach [] X.env:=by rfl)
  (hs2:starEach [.Call (.Name "set" p2) [e] [] pp] X.env=(false,eval (.Call (.Name "set" p2) [e] [] pp) X.env)::starEach [] X.env:=by rfl) :
  PE X (.Call (.Name "sorted" p1) [.Call (.Name "set" p2) [e] [] pp] [] ps) (tSortSet K te):=by
 subst hK
 intro pins s σ H Q I h
 refine wpAny_Call_Name_kw (ZaF I hg hm ZeG ?_)
 refine PyProof.Rows.callWith_builtin1 ?_ hs2 (by rfl)
 rw[hs2]
 show wpAny _ _ (spliced ((false,eval (.Call (.Name "set" p2) [e] [] pp) X.env)::backTo ps (starEach [] X.env))) _ _ s
 refine Calls.spliced_cons ?_
 refine wpAny_Call_Name_kw (ZaF I hg2 hm2 bt_set ?_)
 refine PyProof.Rows.callWith_type1 ?_ hs1 (by rfl)
 rw[hs1]
 show wpAny _ _ (spliced ((false,eval e X.env)::backTo pp (starEach [] X.env))) _ _ s
 refine Calls.spliced_cons (thn (he pins s σ H _ I h) λu s1 ⟨v,H1,I1,r1,p,ns,ev,hp,hn,q⟩=>?_)
 subst ev
 cases(show u=Value.ref p from r1)
 refine Calls.spliced_nil ?_
 have hh:X.A.handled=none:=I1.ok.hd hc
 have go:∀{T:String}{OK:Heap->Prop}{items:Array Value},ST.Src X.prog X.w T p items.size (λi v=>items[i]?=some v) OK->OK s1.heap->p<s1.heap.objs.size->IntsAre items.toList ns ->
   wpAny (model X.prog X.w) X.A (call (.type "set") [.ref p]) (λv s2=>wpAny (model X.prog X.w) X.A (spliced (backTo ps (starEach [] X.env))) (λus s3=>wpAny (model X.prog X.w) X.A (call (.builtin "sorted") (v::us)) (EP X pins σ Q) X.xe s3) X.xe s2) X.xe s1:=by
  intro T OK items Sr ok hl hi
  refine ST.Zng Sr hh ok hl hi ⋯ λh' tk ks hS hk hd hkeep=>?_
  refine Calls.spliced_nil ?_
  have hks:ks.length<64:=by
   have:ks.length<=ns.length:=ZoQ hd λx hx=>(hk x).mp hx
   omega
  have k1:∀b o,s1.heap.get? b=some o->h'.get? b=some o:=λb o e=>hkeep b o (Yj e) e
  have I2:Inv X pins σ H1 {s1 with heap:=h',toks:=tk}:=I1.kept k1
  refine Calls.call_function_entry kind_sorted plain_sorted entry_sorted (args_sorted1 _) ?_
  unfold Builtin.«sorted»
  refine Ya (m:=checkCount "sorted" 1 1 _) (Yc ?_)
  refine Ya (ZoR (A:=X.A.in1) hh hS ⋯ λh2 tk2 vs ms hk2 hlt hI hP=>?_)
  have hml:ms.length=ks.length:=hP.length_eq
  have hvl:vs.length=ms.length:=hI.length
  refine Ya (wpAny_newList ?_ (by rw[hvl,hml];exact Yn (show _<=1000 by omega) nofun))
  have hoL:(h2.push (seqObj "list" vs.toArray 0)).get? h2.objs.size=some (seqObj "list" vs.toArray 0):=Yv _ rfl
  refine Ya (YE (wpAny_call_entry slot_list_sort ⟨_,hoL,rfl⟩ entry_list_sort (list_sort_tree hoL hI ⋯ λout zs a1 a2 a3=>⟨_,rfl,?_⟩) (args_list_sort _)))
  have hz2:h'.objs.size<=h2.objs.size:=Y3 hlt
  have hlen:zs.length=ms.length:=a2.length_eq
  have hzd:zs.Nodup:=(a2.trans hP).nodup_iff.mpr hd
  refine Yc ⟨_,rfl,.ref h2.objs.size,_,I2.laid (t':=tk2) (a:=h2.objs.size) (o:=.lst (zs.map V.int)) (λb o e=>?_) hz2 ?_,rfl,q zs _ (λz=>(a2.trans hP).mem_iff.trans (hk z)) ?_ (I2.hok.fresh hz2)⟩
  .have e1:=hk2 _ _ e
   have hb:b<h2.objs.size:=Yj e1
   show(sortedHeap (h2.push (seqObj "list" vs.toArray 0)) h2.objs.size vs out).get? b=some o
   rw[sortedHeap_old (Yl hb) (by rw[size_push'];exact YR hb)]
   exact Yk _ e1
  .obtain⟨n,e⟩:=sortedHeap_at (out:=out) hoL
   exact⟨by rw[Yh];exact Yn (show zs.length<=1000 by omega) nofun,out.toList,n,ZeC a1,by rw[e]⟩
  .exact List.Pairwise.imp₂ (λx y h1 h2=>Int.lt_iff_le_and_ne.mpr ⟨h1,h2⟩) a3 hzd
 rcases hp with hp|hp
 .obtain⟨its,rv,pl,hz⟩:=I1.list hp
  exact go (ST.src_list its.toArray) pl.isList (by obtain⟨o,_,eo,_⟩:=pl;exact Yj eo) (by simpa using intsAre_of rv)
 .obtain⟨its,rv,pl,hz⟩:=I1.tuple hp
  exact go (ST.Zru its.toArray) pl pl.lt (by simpa using intsAre_of rv)
end
end Lake
namespace ST
open PySem PySem.Spec PySem.SetTable PyProof.Rows
open PySem.W
section
variable {prog:Program}{w:World}{A:Around}{E:Value->Shared->Prop}{s:Shared}{a:Addr}{es:Array (Int×Value)}{ep n:Nat}{t:SetTable}
theorem items_int {ks:List Int}{vs:List Value} (h:ItemsAre (intKind prog w) ks vs):∀v∈vs,∃(i:Int) (t:Tok),v=.int i t:=by
 induction h with
 |nil=>intro v hv;cases hv
 |cons h1 h2 ih =>
  intro v hv
  rcases Yi.mp hv with rfl|hv
  .obtain⟨t,e⟩:=Value.isInt_shape h1
   exact⟨_,t,e⟩
  .exact ih v hv
end
end ST
namespace Lake
open PySem PySem.Spec PyProof.Rows PySem.W
noncomputable def rCountD (K:Frag):V->List V->Hp->VK->Prop:=λx vs H Q=>∃(l q:Addr) (as:List Addr) (e:Addr->Bool),x=.ref l/\vs=[.ref q]/\SqL K H l (as.map V.ref)/\as.length<=100000/\(∀a∈as,EqD K H 3 (.ref a) (.ref q) (e a))/\Q (.int (as.countP e:Nat)) H
noncomputable def rOrC (r1 r2:List V->Hp->VK->Prop):List V->Hp->VK->Prop:=λxs H Q=>r1 xs H Q\/r2 xs H Q
section
variable {X:Cx}
theorem Znh {K:Frag} (hK:X.K=K) {k:Nat} (hr:Room k X.A):MtM X "list.count" (rCountD K):=by
 subst hK
 have hu0:=hr.un
 intro pins s σ H x vs v us Q I rx rv h
 obtain⟨l,q,as,e,rfl,rfl,hH,hz,he,hQ⟩:=h
 cases rx
 obtain⟨u,rfl,ru⟩:=rv.one
 cases ru
 obtain⟨its,r,pl,_⟩:=I.list hH
 have hi:=Zgb r
 subst hi
 obtain⟨⟨cls,dd,data,sl⟩,ho,hc,n,hd⟩:=pl.isList
 simp only at hc hd
 subst hc hd
 refine call_meets F.slot_list_count ⟨_,ho,rfl⟩ F.entry_list_count (F.args_list_count_2 _ _)
  (SeqAt.list_countAt l (as.map Value.ref).toArray n dd sl (.ref q) (eU e)) ⟨ho,λw hw=>?_,⟨.int _,H,I.tok _,⟨s.toks,?_⟩,hQ⟩⟩
 .have hw':w∈as.map Value.ref:=by simpa using hw
  obtain⟨a,ha,rfl⟩:=YH.mp hw'
  exact Zf3 I (he a ha) _ _ _ (by show X.A.units+1+3<cLine;omega) rfl rfl
 .have:((as.map Value.ref).toArray.toList.countP (eU e):Nat)=(as.countP e:Nat):=by
   show(as.map Value.ref).countP (eU e)=_
   rw[List.countP_map];rfl
  rw[this]
theorem ZoS {f:Value}{r1 r2:List V->Hp->VK->Prop} (h1:Zax X f r1) (h2:Zax X f r2):Zax X f (rOrC r1 r2):=λpins s σ H xs us Q I r h=>h.elim (h1 pins s σ H xs us Q I r) (h2 pins s σ H xs us Q I r)
end
end Lake
namespace Internal
open PySem PySem.Spec PyProof.Rows Lake
open PySem.W (nsIn mg_of fnOf keepIn codeIn mg_none_of)
local macro_rules | `(tactic| walk_at "rd") => `(tactic| simp only [tIfS, tNot, tTest, tChain, rI0, rI, rU, tVar, tC, tB, tIf, tAndV, tNotV, tCall, tCallX, tCons, tNil, tAsg, tSeq, tRet, tNext, tOp, tUn, tAnd, tOr, tDrop, gName, gSub, tAug, tCB, tSl, tRaise, tLst, tTup, Lake.start, tYes, gTup, gCons, gNil, iniC, Option.join_some, Option.join_none, rEq, rNe, ZlR, ZlS, ZlT, ZlU, ZlV, ZlW, tBM, Bool.true_eq_false, YJ, List.map_nil, List.cons_append, List.nil_append, YI, List.length_nil, List.replicate, List.append_nil, List.set_cons_zero, List.set_cons_succ, List.getElem?_cons_zero, List.getElem?_cons_succ, Option.some.injEq, V.int.injEq, V.bl.injEq, V.ref.injEq, List.cons.injEq, and_true, true_and, exists_eq_left, exists_eq_left', exists_and_left, exists_eq, decide_eq_true_eq, Bool.not_eq_true', decide_eq_false_iff_not, cxK, and_assoc, Bool.false_eq_true, ↓reduceIte, ZlP, ZiC, Zj3, iRng1, iRng2, iList, iTup, rIxL, rIxT, rSetL, rCat, rIsi, rCount, tDelT, rInsert, rIndex, rLen, rLof, rTof, rTofF, tBMH, rIndexT, tChain3, rEqD, tRngV, rIn, rSlQ, iEnum, iEnumT, rAll, rAny, rIxQ, tRev, rSlL, tPart, tNoPart, tSl, ipI, rAppend, rRep, ZlX, Zn4, rExtend, rSortT, V.str.injEq, tDGet, sDPut, rCatK, rNInD, tLam, tSortR1, tSortR2, tMaxKD, tMinKD, gLst, tAsg2, rIndexT, rTofF, tBMH, tSortSet, rCountD, rOrC])
noncomputable def top (i:Nat):Stmt:=PySem.Challenge.pw_dipkin_k53_places_in_stretches.main.body.getD i (.Pass ⟨0,0,0,0⟩)
noncomputable abbrev s_need_numbers:Stmt:=top 13
noncomputable abbrev s_is_stretch:Stmt:=top 14
noncomputable abbrev s_need_stretch:Stmt:=top 15
noncomputable abbrev s_settle:Stmt:=top 17
noncomputable abbrev s_tree_of:Stmt:=top 18
noncomputable abbrev s_way_up:Stmt:=top 19
noncomputable abbrev s_young_of:Stmt:=top 20
noncomputable abbrev s_from_below:Stmt:=top 21
noncomputable abbrev s_need_loose:Stmt:=top 25
noncomputable abbrev s_best_ahead:Stmt:=top 26
noncomputable abbrev s_best_behind:Stmt:=top 27
noncomputable abbrev s_pair_at:Stmt:=top 28
noncomputable abbrev s_table_by:Stmt:=top 29
noncomputable abbrev s_places_by:Stmt:=top 31
noncomputable abbrev s_places_in:Stmt:=top 32
noncomputable abbrev s__law_deal:Stmt:=top 34
noncomputable abbrev s__law_take:Stmt:=top 35
noncomputable abbrev s__law_whole:Stmt:=top 36
noncomputable abbrev s__law_row:Stmt:=top 37
noncomputable abbrev s__law_elder:Stmt:=top 38
noncomputable abbrev s__law_tree:Stmt:=top 39
noncomputable abbrev s__law_over:Stmt:=top 40
noncomputable abbrev s__law_alone:Stmt:=top 41
noncomputable abbrev s__law_either:Stmt:=top 42
noncomputable abbrev s__law_pair:Stmt:=top 43
noncomputable abbrev s__law_under:Stmt:=top 44
noncomputable abbrev s__law_hand:Stmt:=top 45
noncomputable abbrev s__law_ruled:Stmt:=top 46
noncomputable abbrev s__law_table:Stmt:=top 47
noncomputable abbrev s__law_least_ones:Stmt:=top 48
noncomputable abbrev s__law_asked:Stmt:=top 49
noncomputable abbrev s__law_holds_so:Stmt:=top 50
noncomputable abbrev s__law_right:Stmt:=top 51
noncomputable abbrev s__law_stretches:Stmt:=top 52
noncomputable abbrev s_law:Stmt:=top 53
structure Txt (K:PySem.W.Frag) (mg:Str->Option Value):Prop where
 b_ValueError:mg "ValueError"=none
 b_all:mg "all"=none
 b_any:mg "any"=none
 b_bool:mg "bool"=none
 b_enumerate:mg "enumerate"=none
 b_int:mg "int"=none
 b_isinstance:mg "isinstance"=none
 b_len:mg "len"=none
 b_list:mg "list"=none
 b_max:mg "max"=none
 b_min:mg "min"=none
 b_range:mg "range"=none
 b_set:mg "set"=none
 b_sorted:mg "sorted"=none
 b_tuple:mg "tuple"=none
 c_DipError:mg "DipError"=some (.ref (clsAt mg "DipError"))
 x_DipError:PySem.W.excIn K (clsAt mg "DipError") bmV newV=true
 c_Unlike:mg "Unlike"=some (.ref (clsAt mg "Unlike"))
 x_Unlike:PySem.W.excIn K (clsAt mg "Unlike") bmV newV=true
 c_Empty:mg "Empty"=some (.ref (clsAt mg "Empty"))
 x_Empty:PySem.W.excIn K (clsAt mg "Empty") bmV newV=true
 c_TooMany:mg "TooMany"=some (.ref (clsAt mg "TooMany"))
 x_TooMany:PySem.W.excIn K (clsAt mg "TooMany") bmV newV=true
 c_NoTree:mg "NoTree"=some (.ref (clsAt mg "NoTree"))
 x_NoTree:PySem.W.excIn K (clsAt mg "NoTree") bmV newV=true
 c_NoTelling:mg "NoTelling"=some (.ref (clsAt mg "NoTelling"))
 x_NoTelling:PySem.W.excIn K (clsAt mg "NoTelling") bmV newV=true
 c_NoPlace:mg "NoPlace"=some (.ref (clsAt mg "NoPlace"))
 x_NoPlace:PySem.W.excIn K (clsAt mg "NoPlace") bmV newV=true
 c_NoNumber:mg "NoNumber"=some (.ref (clsAt mg "NoNumber"))
 x_NoNumber:PySem.W.excIn K (clsAt mg "NoNumber") bmV newV=true
 c_NoPast:mg "NoPast"=some (.ref (clsAt mg "NoPast"))
 x_NoPast:PySem.W.excIn K (clsAt mg "NoPast") bmV newV=true
 c_NoText:mg "NoText"=some (.ref (clsAt mg "NoText"))
 x_NoText:PySem.W.excIn K (clsAt mg "NoText") bmV newV=true
 c_NoLine:mg "NoLine"=some (.ref (clsAt mg "NoLine"))
 x_NoLine:PySem.W.excIn K (clsAt mg "NoLine") bmV newV=true
 ex_NoPlace:ExK K (clsAt mg "NoPlace")
 up_NoPlace:PySem.W.mroIn K (clsAt mg "NoPlace") (.ref (clsAt mg "DipError"))=some true
 is_NoPlace_DipError:PySem.W.kitOne K (.ref (clsAt mg "NoPlace")) (.ref (clsAt mg "DipError"))=some true
 is_NoPlace_Unlike:PySem.W.kitOne K (.ref (clsAt mg "NoPlace")) (.ref (clsAt mg "Unlike"))=some false
 is_NoPlace_Empty:PySem.W.kitOne K (.ref (clsAt mg "NoPlace")) (.ref (clsAt mg "Empty"))=some false
 is_NoPlace_TooMany:PySem.W.kitOne K (.ref (clsAt mg "NoPlace")) (.ref (clsAt mg "TooMany"))=some false
 is_NoPlace_NoTree:PySem.W.kitOne K (.ref (clsAt mg "NoPlace")) (.ref (clsAt mg "NoTree"))=some false
 is_NoPlace_NoTelling:PySem.W.kitOne K (.ref (clsAt mg "NoPlace")) (.ref (clsAt mg "NoTelling"))=some false
 is_NoPlace_NoPlace:PySem.W.kitOne K (.ref (clsAt mg "NoPlace")) (.ref (clsAt mg "NoPlace"))=some true
 is_NoPlace_NoNumber:PySem.W.kitOne K (.ref (clsAt mg "NoPlace")) (.ref (clsAt mg "NoNumber"))=some false
 is_NoPlace_NoPast:PySem.W.kitOne K (.ref (clsAt mg "NoPlace")) (.ref (clsAt mg "NoPast"))=some false
 is_NoPlace_NoText:PySem.W.kitOne K (.ref (clsAt mg "NoPlace")) (.ref (clsAt mg "NoText"))=some false
 is_NoPlace_NoLine:PySem.W.kitOne K (.ref (clsAt mg "NoPlace")) (.ref (clsAt mg "NoLine"))=some false
 is_NoPlace_V:PySem.W.kitOne K (.ref (clsAt mg "NoPlace")) (.type "ValueError")=some true
 m_MOST_HELD:mg "MOST_HELD"=some (.int 6 (tokAt mg "MOST_HELD"))
 m_MOST_HOLDING:mg "MOST_HOLDING"=some (.int 16 (tokAt mg "MOST_HOLDING"))
noncomputable def tabsL (K:PySem.W.Frag) (mg:Str->Option Value):List (Addr×Str):=[(Zd1 K mg "from_below",Zfv "from_below"),(Zd1 K mg "best_ahead",Zfv "best_ahead"),(Zd1 K mg "best_behind",Zfv "best_behind"),(Zd1 K mg "_law_table",Zfv "_law_table")]
noncomputable abbrev SpT:=PySem.W.Frag->(Str->Option Value)->Sp
noncomputable def spLaw (K:PySem.W.Frag) (mg:Str->Option Value):Sp:=λvs H Q E=>∃(a:Addr) (ns:List Int),vs=[.ref a]/\SqL K H a (ns.map V.int)/\ns.length<=63/\(∀p∈tabsL K mg,H p.1=some (ZhC p.2))/\∀H',Q (.bl true) H'
noncomputable def sp__law_whole:SpT:=λK mg vs H Q E=>∃i:Int,vs=[.int i]/\Q (.bl true) H
noncomputable def sp_way_up:SpT:=λK mg vs H Q E=>∃(t:Addr) (T:List Int) (p:Nat),vs=[.ref t,.int p]/\(SqL K H t (T.map V.int)\/SqT K H t (T.map V.int))/\T.length<=1000/\p<T.length/\∀(w:Addr) H',H w=none->Zd H H'->H' w=some (.lst ((ZmN T p).map V.int))->Q (.ref w) H'
noncomputable def dpI (T:List Int) (i:Int):Int:=((ZmN T i.toNat).length:Int)
noncomputable def sp_from_below:SpT:=λK mg vs H Q E=>∃(t:Addr) (T:List Int),vs=[.ref t]/\SqT K H t (T.map V.int)/\Zbh T/\Z4 K mg "from_below" H/\∀(l:Addr) (ps:List Int) H',H l=none->Zd H H'->ps.Perm (nats (T.length:Int))->(ps.Pairwise λx y=>dpI T y<=dpI T x)->H' l=some (.lst (ps.map V.int))->Q (.ref l) H'
noncomputable abbrev Pt:=Option (Int×Int)
noncomputable def PairAt (H:Hp) (v:V):Pt->Prop
 |none=>v=.non
 |some z=>∃a:Addr,v=.ref a/\H a=some (.tup [.int z.1,.int z.2])
noncomputable def PtsAt (H:Hp) (a:Addr) (ps:List Pt):Prop:=∃vals:List V,H a=some (.lst vals)/\vals.length=ps.length/\∀(i:Nat) (v:V) (p:Pt),vals[i]?=some v->ps[i]?=some p->PairAt H v p
noncomputable def TblAt (H:Hp) (l:Addr) (tab:List (List Pt)):Prop:=∃as:List Addr,H l=some (.lst (as.map V.ref))/\l∉as/\as.length=tab.length/\∀(i:Nat) (a:Addr) (ps:List Pt),as[i]?=some a->tab[i]?=some ps->PtsAt H a ps
noncomputable def optN:Option Nat->V
 |none=>.non
 |some j=>.int (j:Int)
noncomputable def ptAt (ps:List Pt) (j:Nat):Int×Int:=(ps.getD j none).getD (0,0)
noncomputable def fitsA (ts:List Int) (ps:List Pt) (i j:Nat):Prop:=j<i/\(ps.getD j none).isSome=true/\nth ts i<nth ts j/\(ptAt ps j).2<i
noncomputable def fitsB (ts:List Int) (ps:List Pt) (i j:Nat):Prop:=i<j/\j<ts.length/\(ps.getD j none).isSome=true/\nth ts i<=nth ts j/\(i:Int)<(ptAt ps j).1
noncomputable def BestA (ts:List Int) (ps:List Pt) (i:Nat):Option Nat->Prop
 |none=>∀j,¬ fitsA ts ps i j
 |some j=>fitsA ts ps i j/\∀j',fitsA ts ps i j'->(ptAt ps j').1<=(ptAt ps j).1
noncomputable def BestB (ts:List Int) (ps:List Pt) (i:Nat):Option Nat->Prop
 |none=>∀j,¬ fitsB ts ps i j
 |some j=>fitsB ts ps i j/\∀j',fitsB ts ps i j'->(ptAt ps j).2<=(ptAt ps j').2
noncomputable def sp_best_ahead:SpT:=λK mg vs H Q E=>∃(x q:Addr) (ts:List Int) (ps:List Pt) (i:Nat),vs=[.ref x,.ref q,.int (i:Int)]/\(SqL K H x (ts.map V.int)\/SqT K H x (ts.map V.int))/\PtsAt H q ps/\ps.length=ts.length/\ts.length<=16/\i<ts.length/\Z4 K mg "best_ahead" H/\∀(r:Option Nat) H',Zd H H'->BestA ts ps i r->Q (optN r) H'
noncomputable def sp_best_behind:SpT:=λK mg vs H Q E=>∃(x q:Addr) (ts:List Int) (ps:List Pt) (i:Nat),vs=[.ref x,.ref q,.int (i:Int)]/\(SqL K H x (ts.map V.int)\/SqT K H x (ts.map V.int))/\PtsAt H q ps/\ps.length=ts.length/\ts.length<=16/\i<ts.length/\Z4 K mg "best_behind" H/\∀(r:Option Nat) H',Zd H H'->BestB ts ps i r->Q (optN r) H'
noncomputable def FirstIs (ts:List Int) (tab:List (List Pt)) (i:Nat) (ah:Option Nat) (r:Option Int):Prop:=match ah with
 |none=>r=some (i:Int)
 |some c=>match r with
  |none=>∀j,¬ fitsA ts (tab.getD c []) i j
  |some m=>(∃j,fitsA ts (tab.getD c []) i j/\m=(ptAt (tab.getD c []) j).1)/\∀j,fitsA ts (tab.getD c []) i j->(ptAt (tab.getD c []) j).1<=m
noncomputable def LastIs (ts:List Int) (tab:List (List Pt)) (i:Nat) (bh:Option Nat) (r:Option Int):Prop:=match bh with
 |none=>r=some (i:Int)
 |some c=>match r with
  |none=>∀j,¬ fitsB ts (tab.getD c []) i j
  |some m=>(∃j,fitsB ts (tab.getD c []) i j/\m=(ptAt (tab.getD c []) j).2)/\∀j,fitsB ts (tab.getD c []) i j->m<=(ptAt (tab.getD c []) j).2
noncomputable def bothPt:Option Int->Option Int->Pt
 |some a,some b=>some (a,b)
 |_,_=>none
noncomputable def RuledIs (ts:List Int) (tab:List (List Pt)) (i:Nat) (ah bh:Option Nat) (p:Pt):Prop:=∃a b,FirstIs ts tab i ah a/\LastIs ts tab i bh b/\p=bothPt a b
noncomputable def kidOk (tab:List (List Pt)) (n:Nat):Option Nat->Prop
 |none=>True
 |some c=>c<tab.length/\(tab.getD c []).length=n
noncomputable def sp_pair_at:SpT:=λK mg vs H Q E=>∃(x l y:Addr) (ts:List Int) (tab:List (List Pt)) (ah bh:Option Nat) (i:Nat),vs=[.ref x,.ref l,.ref y,.int (i:Int)]/\(SqL K H x (ts.map V.int)\/SqT K H x (ts.map V.int))/\TblAt H l tab/\H y=some (.lst [optN ah,optN bh])/\kidOk tab ts.length ah/\kidOk tab ts.length bh/\ts.length<=16/\i<ts.length/\Z4 K mg "best_ahead" H/\Z4 K mg "best_behind" H/\∀(v:V) (p:Pt) H',Zd H H'->RuledIs ts tab i ah bh p->PairAt H' v p->Q v H'
noncomputable def sp_need_numbers:SpT:=λK mg vs H Q E=>∃(r:Addr) (ns:List Int) (k:Int),vs=[.ref r,.int k]/\(SqL K H r (ns.map V.int)\/SqT K H r (ns.map V.int))/\ns.length<=1000/\0<=k/\k<=1000/\(k<=ns.length->Q .non H)/\((ns.length:Int)<k->E (.ref (clsAt mg "Empty")) none H)
noncomputable def sp_settle:SpT:=λK mg vs H Q E=>∃(el sp:Addr) (es:List Int) (A B:List Nat) (i:Nat),vs=[.ref el,.ref sp,.int i,.int A.length]/\H el=some (.lst (es.map V.int))/\H sp=some (.lst (ZD (A++B)))/\el≠sp/\i<es.length/\(∀q∈A++B,q<es.length)/\(A++B).length<=1000 /\
 ∀H',(∀b o,b≠el->b≠sp->H b=some o->H' b=some o)->H' el=some (.lst ((ZeL es A B i).map V.int))->H' sp=some (.lst (ZD (A++[i])))->Q .non H'
noncomputable def sp_tree_of:SpT:=λK mg vs H Q E=>∃(r:Addr) (ns:List Int),vs=[.ref r]/\(SqL K H r (ns.map V.int)\/SqT K H r (ns.map V.int))/\ns.length<=1000/\∀(t:Addr) (es:List Int) H',Zq ns es->Zd H H'->ZhF H' t (es.map V.int)->Q (.ref t) H'
noncomputable def AheadIs (T:List Int) (v:Nat):Option Nat->Prop
 |none=>∀c,c<v->c<T.length->nth T c≠v
 |some c=>c<v/\c<T.length/\nth T c=v
noncomputable def BehindIs (T:List Int) (v:Nat):Option Nat->Prop
 |none=>∀c,v<c->c<T.length->nth T c≠v
 |some c=>v<c/\c<T.length/\nth T c=v
noncomputable def YoungAt (H:Hp) (y:Addr) (T:List Int):Prop:=∃as:List Addr,H y=some (.lst (as.map V.ref))/\as.length=T.length/\∀(v:Nat) (a:Addr),as[v]?=some a->∃ah bh,AheadIs T v ah/\BehindIs T v bh/\H a=some (.lst [optN ah,optN bh])
noncomputable def sp_young_of:SpT:=λK mg vs H Q E=>∃(t:Addr) (T:List Int),vs=[.ref t]/\SqT K H t (T.map V.int)/\Zbh T/\∀(y:Addr) H',H y=none->YoungAt H' y T->Zd H H'->Q (.ref y) H'
noncomputable def TabIs (T ts:List Int) (tab:List (List Pt)):Prop:=tab.length=T.length/\∀v,v<T.length->(tab.getD v []).length=ts.length/\∀i,i<ts.length->∃ah bh,AheadIs T v ah/\BehindIs T v bh/\RuledIs ts tab i ah bh ((tab.getD v []).getD i none)
noncomputable def FrL (H H':Hp) (l:Addr):Prop:=∃as:List Addr,H' l=some (.lst (as.map V.ref))/\∀a∈as,H a=none
noncomputable def sp_table_by:SpT:=λK mg vs H Q E=>∃(t x:Addr) (T ts:List Int),vs=[.ref t,.ref x]/\SqT K H t (T.map V.int)/\(SqL K H x (ts.map V.int)\/SqT K H x (ts.map V.int))/\Zbh T/\ts.length<=16/\Z4 K mg "from_below" H/\Z4 K mg "best_ahead" H/\Z4 K mg "best_behind" H/\∀(l:Addr) (tab:List (List Pt)) H',H l=none->TblAt H' l tab->FrL H H' l->TabIs T ts tab->Zd H H'->Q (.ref l) H'
noncomputable def sp_need_loose:SpT:=λK mg vs H Q E=>∃(r x:Addr) (ns ts:List Int),vs=[.ref r,.ref x]/\(SqL K H r (ns.map V.int)\/SqT K H r (ns.map V.int))/\(SqL K H x (ts.map V.int)\/SqT K H x (ts.map V.int))/\0<ns.length/\ns.length<=6/\ts.length<=16/\Q .non H
noncomputable def sp__law_deal:SpT:=λK mg vs H Q E=>∃(a:Addr) (ns:List Int) (k:Int),vs=[.ref a,.int k]/\SqL K H a (ns.map V.int)/\0<=k/\k<=100/\∀p H',H p=none->Zd H H'->ZK H' p->Q (.ref p) H'
noncomputable def sp__law_take:SpT:=λK mg vs H Q E=>∃(p:Addr) (many:Int),vs=[.ref p,.int many]/\0<many/\many<=1000000001/\ZK H p/\∀d H',0<=d->d<many->ZK H' p->Exc p H H'->Q (.int d) H'
noncomputable def sp__law_row:SpT:=λK mg vs H Q E=>∃(p:Addr) (most:Int),vs=[.ref p,.int most]/\0<=most/\most<=1000/\ZK H p/\∀(r:Addr) (ns:List Int) H',H r=none->(ns.length:Int)<=most->H' r=some (.lst (ns.map V.int))->ZK H' p->Exc p H H'->Q (.ref r) H'
noncomputable def sp__law_elder:SpT:=λK mg vs H Q E=>∃(r:Addr) (ns:List Int) (i:Nat),vs=[.ref r,.int (i:Int)]/\(SqL K H r (ns.map V.int)\/SqT K H r (ns.map V.int))/\ns.length<=1000/\i<ns.length/\∀(e:Int) H',ZC (nth ns) ns.length i e->Zd H H'->Q (.int e) H'
noncomputable def sp__law_tree:SpT:=λK mg vs H Q E=>∃(r:Addr) (ns:List Int),vs=[.ref r]/\(SqL K H r (ns.map V.int)\/SqT K H r (ns.map V.int))/\ns.length<=1000/\((∀(t:Addr) (es:List Int) H',Zq ns es->Zd H H'->H' t=some (.tup (es.map V.int))->Q (.ref t) H')\/∀(t:Addr) (es:List Int) H',Zq ns es->Zd H H'->ZhF H' t (es.map V.int)->Q (.ref t) H')
noncomputable def sp__law_over:SpT:=λK mg vs H Q E=>∃(t:Addr) (T:List Int) (p:Nat),vs=[.ref t,.int p]/\H t=some (.tup (T.map V.int))/\T.length<=1000/\p<T.length/\ZbO T T.length (nth T p)/\∀(w:Addr) H',H w=none->Zd H H'->H' w=some (.lst ((ZmN T p).map V.int))->Q (.ref w) H'
noncomputable def sp__law_hand:SpT:=λK mg vs H Q E=>∃(t:Addr) (T:List Int) (v:Nat) (lt:Bool),vs=[.ref t,.int (v:Int),.bl lt]/\H t=some (.tup (T.map V.int))/\Zbh T/\v<T.length/\∀(o:Option Nat) H',(lt=false->AheadIs T v o)->(lt=true->BehindIs T v o)->Zd H H'->Q (optN o) H'
noncomputable def sp__law_ruled:SpT:=λK mg vs H Q E=>∃(t x l:Addr) (T ts:List Int) (tab:List (List Pt)) (v i:Nat),vs=[.ref t,.ref x,.ref l,.int (v:Int),.int (i:Int)]/\H t=some (.tup (T.map V.int))/\H x=some (.lst (ts.map V.int))/\TblAt H l tab/\Zbh T/\v<T.length/\i<ts.length/\ts.length<=16/\(∀c,c<T.length->nth T c=v->c<tab.length/\(tab.getD c []).length=ts.length)/\∀(u:V) (p:Pt) (ah bh:Option Nat) H',AheadIs T v ah->BehindIs T v bh->RuledIs ts tab i ah bh p->PairAt H' u p->Zd H H'->Q u H'
noncomputable def unN (T:List Int) (v:Nat):Nat:=((List.range T.length).filter λo=>decide (o=v\/v∈way T o)).length
noncomputable def unL (T:List Int) (v:Nat):List Int:=((List.range T.length).filter λo=>decide (o=v\/v∈way T o)).map λ(o:Nat)=>(o:Int)
noncomputable def sp__law_under:SpT:=λK mg vs H Q E=>∃(t:Addr) (T:List Int) (v:Nat),vs=[.ref t,.int (v:Int)]/\H t=some (.tup (T.map V.int))/\Zbh T/\∀(l:Addr) (us:List V) H',H l=none->H' l=some (.lst us)->us.length=unN T v/\us=(unL T v).map V.int->Zd H H'->Q (.ref l) H'
noncomputable def FsOk (ts:List Int) (tab:List (List Pt)) (i:Nat) (ah:Option Nat) (fs:List Int):Prop:=match ah with
 |none=>fs=[(i:Int)]
 |some c=>∀x,x∈fs↔∃j,fitsA ts (tab.getD c []) i j/\x=(ptAt (tab.getD c []) j).1
noncomputable def LsOk (ts:List Int) (tab:List (List Pt)) (i:Nat) (bh:Option Nat) (ls:List Int):Prop:=match bh with
 |none=>ls=[(i:Int)]
 |some c=>∀x,x∈ls↔∃j,fitsB ts (tab.getD c []) i j/\x=(ptAt (tab.getD c []) j).2
noncomputable def unI (T:List Int) (i:Int):Int:=(unN T i.toNat:Int)
noncomputable def sp__law_table:SpT:=λK mg vs H Q E=>∃(r x:Addr) (ns ts:List Int),vs=[.ref r,.ref x]/\H r=some (.lst (ns.map V.int))/\H x=some (.lst (ts.map V.int))/\ns.length<=6/\ts.length<=16/\Z4 K mg "_law_table" H/\∀(l:Addr) (T:List Int) (tab:List (List Pt)) H',H l=none->Zq ns T->TblAt H' l tab->TabIs T ts tab->Zd H H'->Q (.ref l) H'
noncomputable def sp__law_either:SpT:=λK mg vs H Q E=>∃(p r:Addr) (xs:List V),vs=[.ref p,.ref r]/\ZK H p/\r≠p/\H r=some (.lst xs)/\xs.length<=1000/\∀(u:Addr) H',H u=none->(H' u=some (.lst xs)\/H' u=some (.tup xs))->ZK H' p->Exc p H H'->Q (.ref u) H'
noncomputable def sp__law_pair:SpT:=λK mg vs H Q E=>∃(p:Addr) (most wide:Int),vs=[.ref p,.int most,.int wide]/\1<=most/\most<=100/\0<=wide/\wide<=100/\ZK H p/\∀(t r x:Addr) (ns ts:List Int) H',H r=none->H x=none->0<ns.length->(ns.length:Int)<=most->(ts.length:Int)<=wide->H' r=some (.lst (ns.map V.int))->H' x=some (.lst (ts.map V.int))->H' t=some (.tup [.ref r,.ref x])->ZK H' p->Exc p H H'->Q (.ref t) H'
noncomputable def Ris (N:Nat) (r:List Int):Prop:=(∀x∈r,0<=x/\x<(N:Int))/\r.Pairwise (· < ·)
noncomputable def atL (ts r:List Int):List Int:=r.map λx=>nth ts x.toNat
noncomputable def HoldsL (ns ts r:List Int):Prop:=r.length=ns.length/\Ris ts.length r/\∃W,Zq ns W/\Zq (atL ts r) W
noncomputable abbrev Win (q r:List Int):Prop:=nth r 0<=nth q 0/\nth q 1<=nth r 1
noncomputable def LeastL (S:List Int->Prop) (rs:List (List Int)):Prop:=(rs.Pairwise λx y=>lxI x y=true)/\∀r,r∈rs↔(S r/\∀q,S q->Win q r->q=r)
noncomputable def TopS (T:List Int) (tab:List (List Pt)) (r:List Int):Prop:=∃e:Int×Int,some e∈tab.getD (T.idxOf (-1)) []/\r=[e.1,e.2]
noncomputable def sp__law_least_ones:SpT:=λK mg vs H Q E=>∃(l:Addr) (ps:List (List Int)),vs=[.ref l]/\TupsAt H l ps/\(∀r∈ps,∃x y,r=[x,y]/\0<=y/\y<100000)/\ps.length<=16/\∀(l':Addr) (rs:List (List Int)) H',H l'=none->LeastL (λr=>r∈ps) rs->rs.length<=16->TupsAt H' l' rs->Zd H H'->Q (.ref l') H'
noncomputable abbrev keyI (i:Int):Key:=.inl i
noncomputable def StandsBy (T ts:List Int) (tab:List (List Pt)) (f:Nat->Nat):Prop:=∀v,v<T.length->f v<ts.length/\((tab.getD v []).getD (f v) none).isSome=true/\∀c,c<T.length->nth T c=(v:Int)->(c<v->BestA ts (tab.getD c []) (f v) (some (f c)))/\(v<c->BestB ts (tab.getD c []) (f v) (some (f c)))
noncomputable def sp_places_by:SpT:=λK mg vs H Q E=>∃(t x l:Addr) (T ts:List Int) (tab:List (List Pt)) (i:Nat),vs=[.ref t,.ref x,.ref l,.int (i:Int)]/\ZhF H t (T.map V.int)/\(SqL K H x (ts.map V.int)\/SqT K H x (ts.map V.int))/\TblAt H l tab/\Zbh T/\TabIs T ts tab/\ts.length<=16/\i<ts.length/\((tab.getD (T.idxOf (-1)) []).getD i none).isSome=true/\Z4 K mg "from_below" H/\Z4 K mg "best_ahead" H/\Z4 K mg "best_behind" H/\∀(r:Addr) (f:Nat->Nat) H',H r=none->f (T.idxOf (-1))=i->StandsBy T ts tab f->Zd H H'->H' r=some (.lst ((List.range T.length).map λv=>V.int (f v:Int)))->Q (.ref r) H'
noncomputable def sp__law_alone:SpT:=λK mg vs H Q E=>∃(e C:Addr) (i j:Nat),vs=[.ref e,.int (i:Int)]/\i<10/\j<10/\H e=some (ZkV e C)/\KindsOf K mg C (λk=>decide (k=j))/\∀H',Zd H H'->Q (.bl (decide (i=j))) H'
theorem kinds_NoPlace {K:PySem.W.Frag}{mg:Str->Option Value} (T:Txt K mg):KindsOf K mg (clsAt mg "NoPlace") (λk=>decide (k=5)):=⟨T.ex_NoPlace,T.is_NoPlace_Unlike,T.is_NoPlace_Empty,T.is_NoPlace_TooMany,T.is_NoPlace_NoTree,T.is_NoPlace_NoTelling,T.is_NoPlace_NoPlace,T.is_NoPlace_NoNumber,T.is_NoPlace_NoPast,T.is_NoPlace_NoText,T.is_NoPlace_NoLine,T.is_NoPlace_DipError,T.is_NoPlace_V⟩
section
variable {P:Program}{w:World}{K:PySem.W.Frag}{mg:Str->Option Value}{base:Heap}
theorem sc_need_numbers:FnScope ["row","fewest"] ["row","fewest"] (defScope s_need_numbers):=by infer_instance
theorem sc_is_stretch:FnScope ["many","a","b"] ["many","a","b"] (defScope s_is_stretch):=by infer_instance
theorem sc_need_stretch:FnScope ["many","a","b"] ["many","a","b"] (defScope s_need_stretch):=by infer_instance
theorem sc_settle:FnScope ["elders","spine","place","keep"] ["elders","spine","place","keep"] (defScope s_settle):=by infer_instance
theorem sc_tree_of:FnScope ["row","elders","spine","place","keep"] ["row"] (defScope s_tree_of):=by infer_instance
theorem sc_way_up:FnScope ["tree","place","way","at"] ["tree","place"] (defScope s_way_up):=by infer_instance
theorem sc_young_of:FnScope ["tree","young","place","elder"] ["tree"] (defScope s_young_of):=by infer_instance
theorem sc_from_below:FnScope ["tree"] ["tree"] (defScope s_from_below):=by infer_instance
theorem sc_need_loose:FnScope ["row","text"] ["row","text"] (defScope s_need_loose):=by infer_instance
theorem sc_best_ahead:FnScope ["text","pairs","i","fit"] ["text","pairs","i"] (defScope s_best_ahead):=by infer_instance
theorem sc_best_behind:FnScope ["text","pairs","i","fit"] ["text","pairs","i"] (defScope s_best_behind):=by infer_instance
theorem sc_pair_at:FnScope ["text","table","young","i","ahead","behind","first","last","j"] ["text","table","young","i"] (defScope s_pair_at):=by infer_instance
theorem sc_table_by:FnScope ["tree","text","young","table","v"] ["tree","text"] (defScope s_table_by):=by infer_instance
theorem sc_places_by:FnScope ["tree","text","table","i","young","chosen","v","ahead","behind"] ["tree","text","table","i"] (defScope s_places_by):=by infer_instance
theorem sc_places_in:FnScope ["row","text","a","b","tree","within","table","i","pair"] ["row","text","a","b"] (defScope s_places_in):=by infer_instance
theorem sc__law_deal:FnScope ["script","k","cell","seed","number","turn"] ["script","k"] (defScope s__law_deal):=by infer_instance
theorem sc__law_take:FnScope ["pot","many","digit"] ["pot","many"] (defScope s__law_take):=by infer_instance
theorem sc__law_whole:FnScope ["thing"] ["thing"] (defScope s__law_whole):=by infer_instance
theorem sc__law_row:FnScope ["pot","most","many","kind","turn","row","k"] ["pot","most"] (defScope s__law_row):=by infer_instance
theorem sc__law_elder:FnScope ["row","place","earlier","later"] ["row","place"] (defScope s__law_elder):=by infer_instance
theorem sc__law_tree:FnScope ["row"] ["row"] (defScope s__law_tree):=by infer_instance
theorem sc__law_over:FnScope ["tree","place","way","here"] ["tree","place"] (defScope s__law_over):=by infer_instance
theorem sc__law_alone:FnScope ["e","place","some"] ["e","place"] (defScope s__law_alone):=by infer_instance
theorem sc__law_either:FnScope ["pot","some"] ["pot","some"] (defScope s__law_either):=by infer_instance
theorem sc__law_pair:FnScope ["pot","most","wide","row","text"] ["pot","most","wide"] (defScope s__law_pair):=by infer_instance
theorem sc__law_under:FnScope ["tree","place"] ["tree","place"] (defScope s__law_under):=by infer_instance
theorem sc__law_hand:FnScope ["tree","place","later","told"] ["tree","place","later"] (defScope s__law_hand):=by infer_instance
theorem sc__law_ruled:FnScope ["tree","text","table","place","at","firsts","lasts","ahead","behind","pairs"] ["tree","text","table","place","at"] (defScope s__law_ruled):=by infer_instance
theorem sc__law_table:FnScope ["row","text","tree","table","place"] ["row","text"] (defScope s__law_table):=by infer_instance
theorem sc__law_least_ones:FnScope ["pairs","told","pair","inner"] ["pairs"] (defScope s__law_least_ones):=by infer_instance
theorem sc__law_asked:FnScope ["row","text","a","b","told","e"] ["row","text","a","b"] (defScope s__law_asked):=by infer_instance
theorem sc__law_holds_so:FnScope ["row","text","a","b","told"] ["row","text","a","b","told"] (defScope s__law_holds_so):=by infer_instance
theorem sc__law_right:FnScope ["row","text","pairs","a","b","told"] ["row","text","pairs","a","b"] (defScope s__law_right):=by infer_instance
theorem sc__law_stretches:FnScope ["pot","text","pairs","many","told","a","b"] ["pot","text","pairs"] (defScope s__law_stretches):=by infer_instance
theorem sc_law:FnScope ["script","k","pot","row","text","pairs","handed","a","b"] ["script"] (defScope s_law):=by infer_instance
theorem ok__law_deal {f:Addr}{fd:FuncData} (F:Fun K "_law_deal" "_law_deal" s__law_deal f fd) (T:Txt K mg):FnOk P w K mg base (CXE P w) 1 f fd ["script","k"] (sp__law_deal K mg):=by
 refine F.okX sc__law_deal (λvs H Q E h=>?_) (λcdv A outer s H vs Q E hr h=>?_)
 .obtain⟨a,ns,k,rfl,_⟩:=h;rfl
 obtain⟨a,ns,k,rfl,hS,h0,h1,k1⟩:=h
 refine⟨_,(Ze (Zs (i:=2) sc__law_deal.nd rfl (Or.inl rfl) Zf)
   (Ze (ZN (Zj ZcB (pv 1) (Zk (Zp (K:=K) rfl) rfl T.b_len YC (Za (pv 0) Zb)) (Zl _)) (Zg (Zs (i:=2) sc__law_deal.nd rfl (Or.inl rfl) (Zv ZdT (Zm Zr (pv 0) (pv 1) (λ_ _=>rfl)) (Zv Zb5 (Zv Zb5 (Zv Zb5 (Zv ZcO Zf Zf) (Zv ZcO Zf Zf)) (Zv ZcO Zf Zf)) (Zv ZcO Zf Zf))))) ZA)
   (Ze (ZN (Zj Ziw (pv 2) (Zv ZcO Zf Zf) (Zl _)) (Zg (Zu (ZQ (Za (Zv ZdS (pv 2) (Zv ZcO Zf Zf)) Zb)))) ZA)
   (Ze (Zs (i:=3) sc__law_deal.nd rfl (Or.inl rfl) (Zv Zav (Zv Zav (Zv ZdT (pv 2) Zf) (Zv Zb5 Zf (pv 1))) Zf))
   (Ze (Zs (i:=4) sc__law_deal.nd rfl (Or.inl rfl) Zf)
   (Ze (ZaC (Zbj PassesOwn.never rfl (ZJ rfl T.b_range (Za Zf Zb)) (Zn (i:=5) sc__law_deal.nd rfl (Or.inl rfl)) (Ze (Zs (i:=3) sc__law_deal.nd rfl (Or.inl rfl) (Zv ZdT (Zv Zav (Zv Zb5 (pv 3) Zf) Zf) Zf))
   (Zg (Zs (i:=4) sc__law_deal.nd rfl (Or.inl rfl) (Zv Zav (Zv Zb5 (pv 4) Zf) (Zv ZdT (Zv Zhv (Zv ZdT (Zv Zb5 (pv 3) (pv 3)) Zf) Zf) Zf)))))))
   (Zg (Zu (ZQ (Za (pv 4) Zb)))))))))),?_⟩
 simp only[tIfS,tNot,tTest,tChain,rI0,rI,rU,tVar,tC,tB,tIf,tAndV,tNotV,tCall,tCallX,tCons,tNil,tAsg,tSeq,tRet,tNext,tOp,tUn,tAnd,tOr,tDrop,gName,gSub,tAug,tCB,tSl,tRaise,tLst,tTup,Lake.start,tYes,gTup,gCons,gNil,iniC,Option.join_some,Option.join_none,rEq,rNe,ZlR,ZlS,ZlT,ZlU,ZlV,ZlW,tBM,Bool.true_eq_false,YJ,List.map_nil,List.cons_append,List.nil_append,YI,List.length_nil,List.replicate,List.append_nil,List.set_cons_zero,List.set_cons_succ,List.getElem?_cons_zero,List.getElem?_cons_succ,Option.some.injEq,V.int.injEq,V.bl.injEq,V.ref.injEq,List.cons.injEq,and_true,true_and,exists_eq_left,exists_eq_left',exists_and_left,exists_eq,decide_eq_true_eq,Bool.not_eq_true',decide_eq_false_iff_not,cxK,and_assoc,Bool.false_eq_true,↓reduceIte,ZlP,ZiC,Zj3,iRng1,iRng2,iList,iTup,rIxL,rIxT,rSetL,rCat,rIsi,rCount,tDelT,rInsert,rIndex,rLen,rLof,rTof,rTofF,tBMH,rIndexT,tChain3,rEqD,tRngV,rIn,rSlQ,iEnum,iEnumT,rAll,rAny,rIxQ,tRev,rSlL,tPart,tNoPart,tSl,ipI,rAppend,rRep,ZlX,Zn4,rExtend,rSortT,V.str.injEq,tDGet,sDPut,rCatK,rNInD,tLam,tSortR1,tSortR2,tMaxKD,tMinKD,gLst,tAsg2,rIndexT,rTofF,tBMH,tSortSet,rCountD,rOrC,cp18,cp60,qm1,qm2,qm3,qm4]
 have fin:∀g:Int,0<=g->∀p,H p=none->Q (V.ref p) (upd H p (.lst [V.int g])):=λg hg p hp=>k1 p _ hp ((Zd.refl H).upd hp) ⟨_,Zc,hg⟩
 refine⟨_,.inl hS,Zy (λhk=>?_) (λhk=>?_)⟩
 case' refine_1 =>
  obtain⟨j,hj0⟩:=Y8 h0
  have hj:j<(ns.map V.int).length:= ⋯
  refine⟨_,hS,_,ZeY hj0 hj,ns[j]'(by simpa using hj),by simp,Zy (λc=>⟨by decide,fin _ (Int.sub_nonneg.mpr c)⟩) (λ_=>⟨by decide,ZlQ nofun nofun,by decide,by decide,?_⟩)⟩
 case' refine_2 =>
  refine Zy (λz=>absurd z nofun) (λ_=>⟨by decide,ZlQ nofun nofun,by decide,by decide,?_⟩)
 all_goals
  refine ZeA (λi σ H'=>∃v2 g o v5,σ=[some (.ref a),some (.int k),v2,some (.int o),some (.int g),v5]/\0<=g/\H'=H) ⟨_,0,_,none,rfl,Int.le_refl _,rfl⟩ ?_ ?_
  .rintro i σ H' hi ⟨v2,g,o,v5,rfl,hg,rfl⟩
   walk_at "rd"
   have b1:=Int.emod_nonneg (o*48271+12345) (b:=2147483647) nofun
   have b2:=Int.emod_lt_of_pos (o*48271+12345) (b:=2147483647) nofun
   refine⟨mul_r nofun nofun,by decide,mul_r nofun nofun,ZlQ ⋯ ⋯,by decide,⟨by decide,by decide⟩,by decide,?_⟩
   have b3:=Int.emod_nonneg ((o*48271+12345) % 2147483647*((o*48271+12345) % 2147483647) % 2147483629 / 64) (b:=16777216) nofun
   have b4:=Int.mul_nonneg hg (show(0:Int)<=16777216 by decide)
   omega
  .rintro σ H' ⟨v2,g,o,v5,rfl,hg,rfl⟩
   walk_at "rd"
   exact⟨by decide,fin g hg⟩
theorem ok__law_take {f:Addr}{fd:FuncData} (F:Fun K "_law_take" "_law_take" s__law_take f fd) (T:Txt K mg):FnOk P w K mg base (CXE P w) 1 f fd ["pot","many"] (sp__law_take K mg):=by
 refine F.okX sc__law_take (λvs H Q E h=>?_) (λcdv A outer s H vs Q E hr h=>?_)
 .obtain⟨p,many,rfl,_⟩:=h;rfl
 obtain⟨p,many,rfl,h0,h1,⟨x,hp,hx⟩,k1⟩:=h
 refine⟨_,(Ze (Zs (i:=2) sc__law_take.nd rfl (Or.inl rfl) (Zv ZdT (Zm Zr (pv 0) Zf (λ_ _=>rfl)) (pv 1)))
   (Ze (ZcM (Zv Zhv (Zm Zr (pv 0) Zf (λ_ _=>rfl)) (pv 1)) (Zf0 (pv 0) Zf set_list (λ_=>rfl)))
   (Zg (Zu (pv 2))))),?_⟩
 walk_at "rd"
 refine⟨_,SqL.of hp,_,rfl,_,rfl,h0,?_⟩
 refine⟨_,SqL.of hp,_,rfl,_,rfl,⟨h0,⋯⟩,_,hp,_,rfl,?_⟩
 exact k1 _ _ (Int.emod_nonneg _ ⋯) (Int.emod_lt_of_pos _ h0) ⟨_,Zc,Int.ediv_nonneg hx ⋯⟩ Exc.upd
theorem ok__law_row {f:Addr}{fd:FuncData} (F:Fun K "_law_row" "_law_row" s__law_row f fd) (Zo:Callee P w K mg base "_law_take" 1 ["pot","many"] (sp__law_take K mg)) (T:Txt K mg):FnOk P w K mg base (CXE P w) 2 f fd ["pot","most"] (sp__law_row K mg):=by
 refine F.okX sc__law_row (λvs H Q E h=>?_) (λcdv A outer s H vs Q E hr h=>?_)
 .obtain⟨p,most,rfl,_⟩:=h;rfl
 obtain⟨p,most,rfl,h0,h1,hP,k1⟩:=h
 refine⟨_,(Ze (Zs (i:=2) sc__law_row.nd rfl (Or.inl rfl) (Zi Zo (hr.mono nofun) rfl Zx (Za (pv 0) (Za (Zv Zav (pv 1) Zf) Zb))))
   (Ze (Zs (i:=3) sc__law_row.nd rfl (Or.inl rfl) (Zi Zo (hr.mono nofun) rfl Zx (Za (pv 0) (Za Zf Zb))))
   (Ze (Zs (i:=4) sc__law_row.nd rfl (Or.inl rfl) (Zv Zav Zf (Zi Zo (hr.mono nofun) rfl Zx (Za (pv 0) (Za Zf Zb)))))
   (Ze (Zs (i:=5) sc__law_row.nd rfl (Or.inr rfl) (ZQ Zb))
   (Ze (ZaC (Zbj PassesOwn.never rfl (ZJ rfl T.b_range (Za (pv 2) Zb)) (Zn (i:=6) sc__law_row.nd rfl (Or.inl rfl)) (Zg (ZN (Zj ZcB (pv 3) Zf (Zl _)) (Zg (Z8 (Zb4 PySem.F.plainAttrs_list PySem.F.slot_list_append PySem.F.type_list_append Zap (pv 5) (Za (Zi Zo (hr.mono nofun) rfl Zx (Za (pv 0) (Za (pv 4) Zb))) Zb)))) (Zg (ZN (Zj ZdU (pv 3) Zf (Zl _)) (Zg (Z8 (Zb4 PySem.F.plainAttrs_list PySem.F.slot_list_insert PySem.F.type_list_insert ZmK (pv 5) (Za (Zi Zo (hr.mono nofun) rfl Zx (Za (pv 0) (Za (Zv Zav (pv 6) Zf) Zb))) (Za (pv 6) Zb))))) (Zg (ZN (Zj ZdU (pv 3) Zf (Zl _)) (Zg (Z8 (Zb4 PySem.F.plainAttrs_list PySem.F.slot_list_append PySem.F.type_list_append Zap (pv 5) (Za (Zv ZdS (Zv ZdT (pv 6) (pv 4)) (Zv Zhv (pv 6) (pv 4))) Zb)))) (Zg (ZN (Zj ZdU (pv 3) Zf (Zl _)) (Zg (Z8 (Zb4 PySem.F.plainAttrs_list PySem.F.slot_list_append PySem.F.type_list_append Zap (pv 5) (Za (Zm Zr (ZQ (Za (pv 6) (Za (Zb2 ZaG (pv 6)) Zb))) (Zv ZdT (pv 4) Zf) (λ_ _=>rfl)) Zb)))) (Zg (ZN (Zj ZdU (pv 3) Zf (Zl _)) (Zg (Z8 (Zb4 PySem.F.plainAttrs_list PySem.F.slot_list_append PySem.F.type_list_append Zap (pv 5) (Za (Zv Zb5 (Zv ZdS (Zi Zo (hr.mono nofun) rfl Zx (Za (pv 0) (Za Zf Zb))) Zf) (Zv ZcO Zf Zf)) Zb)))) (Zg (Z8 (Zb4 PySem.F.plainAttrs_list PySem.F.slot_list_append PySem.F.type_list_append Zap (pv 5) (Za (Zv ZdS (Zi Zo (hr.mono nofun) rfl Zx (Za (pv 0) (Za Zf Zb))) Zf) Zb))))))))))))))))
   (Ze (ZN (Zj ZdU (pv 3) Zf (Zl _)) (Zg (Zs (i:=5) sc__law_row.nd rfl (Or.inr rfl) (Z2 ["k","row"] [none,some 5] rfl rfl rfl (ZJ rfl T.b_range (Za (pv 2) Zb)) (λ_ _ _ _ _=>(Zn (i:=0) (show(["k","row"]:List Str).Nodup from by decide +kernel) rfl (Or.inl rfl))) (λ_ _ _ _ _=>ZW) (λ_ _ _ _ _=>(pe_bmK (K:=K) rfl PySem.F.plainAttrs_list PySem.F.slot_list_index PySem.F.type_list_index (Zob (K:=K) rfl) (pv 1) (Za (pv 0) Zb))) Zt))) ZA)
   (Zg (Zu (pv 5))))))))),?_⟩
 refine Zaj (fun σ Hx=>∃m:Int,σ=[some (.ref p),some (.int most),some (.int m),none,none,none,none]/\0<=m/\m<=most/\ZK Hx p/\Exc p H Hx) (λR hR=>?_) ?_
 .walk_at "rd"
  exact⟨p,_,rfl,⋯,⋯,hP,λd H1 d0 d1 P1 e1=>hR _ _ ⟨d,rfl,d0,⋯,P1,e1⟩⟩
 rintro σ H1 ⟨many,rfl,m0,m1,P1,e1⟩
 refine Zaj (fun σ Hx=>∃k:Int,σ=[some (.ref p),some (.int most),some (.int many),some (.int k),none,none,none]/\0<=k/\k<8/\ZK Hx p/\Exc p H Hx) (λR hR=>?_) ?_
 .walk_at "rd"
  exact⟨p,_,rfl,by decide,by decide,P1,λd H2 d0 d1 P2 e2=>hR _ _ ⟨d,rfl,d0,d1,P2,e1.trans e2⟩⟩
 clear P1 e1 H1
 rintro σ H1 ⟨kd,rfl,d0,d1,P1,e1⟩
 refine Zaj (fun σ Hx=>∃t:Int,σ=[some (.ref p),some (.int most),some (.int many),some (.int kd),some (.int t),none,none]/\2<=t/\t<6/\ZK Hx p/\Exc p H Hx) (λR hR=>?_) ?_
 .walk_at "rd"
  exact⟨p,_,rfl,by decide,by decide,P1,λd H2 d0 d1 P2 e2=>⟨d,rfl,hR _ _ ⟨_,rfl,⋯,⋯,P2,e1.trans e2⟩⟩⟩
 clear P1 e1 H1
 rintro σ H1 ⟨tn,rfl,t0,t1,P1,e1⟩
 refine Zaj (fun σ Hx=>∃q:Addr,σ=[some (.ref p),some (.int most),some (.int many),some (.int kd),some (.int tn),some (.ref q),none]/\H q=none/\q≠p/\Hx q=some (.lst [])/\ZK Hx p/\Exc p H Hx) (λR hR=>?_) ?_
 .walk_at "rd"
  exact⟨Yo _,λq hq=>hR _ _ ⟨q,rfl,e1.free (P1.ne hq) hq,P1.ne hq,Zc,P1.upd hq,e1.same ((Zd.refl H1).upd hq)⟩⟩
 clear P1 e1 H1
 rintro σ H1 ⟨q,rfl,zq,nqp,hq1,P1,e1⟩
 refine Zaj (fun σ Hx=>∃(ns:List Int) (v6:Option V),σ=[some (.ref p),some (.int most),some (.int many),some (.int kd),some (.int tn),some (.ref q),v6]/\(ns.length:Int)=many/\(kd=3->∀j:Nat,(j:Int)<many->(j:Int)∈ns)/\Hx q=some (.lst (ns.map V.int))/\ZK Hx p/\Exc p H Hx) (λR hR=>?_) ?_
 .walk_at "rd"
  refine⟨⋯,⋯,?_⟩
  refine ZeA (λi σ Hx=>∃(ns:List Int) (v6:Option V),σ=[some (.ref p),some (.int most),some (.int many),some (.int kd),some (.int tn),some (.ref q),v6]/\ns.length=i/\(kd=3->∀j:Nat,j<i->(j:Int)∈ns)/\Hx q=some (.lst (ns.map V.int))/\ZK Hx p/\Exc p H Hx) ⟨[],none,rfl,rfl,(λ_ j hj=>absurd hj ⋯),hq1,P1,e1⟩ ?_ ?_
  .rintro i σ Hx hi ⟨ns,v6,rfl,hl,hin,hqx,Px,ex⟩
   have hi':i<1000:= ⋯
   have hb:(ns.map V.int).length<sizeLine:=YA (show _<=1000 by rw[Yh];omega) nofun
   have app:kd≠3->∀(y:Int) (Hy:Hp),Hy q=some (.lst (ns.map V.int))->ZK Hy p->Exc p H Hy->∃x_1,Hy q=some (HO.lst x_1)/\x_1.length<sizeLine/\∃ns':List Int,ns'.length=i+1/\(kd=3->∀(j:Nat),j<i+1->(j:Int)∈ns')/\upd Hy q (HO.lst (x_1++[V.int y])) q=some (HO.lst (List.map V.int ns'))/\ZK (upd Hy q (HO.lst (x_1++[V.int y]))) p/\Exc p H (upd Hy q (HO.lst (x_1++[V.int y]))):=λn3 y Hy hy Py ey =>
    ⟨_,hy,hb,ns++[y],by simp[hl],(λz=>absurd z n3),by rw[Zc];simp,Py.updN nqp,ey.updN zq⟩
   walk_at "rd"
   refine Zy (λk3=>⟨ZX hqx,p,_,rfl,⋯,⋯,Px,λd H2 d0 d1 P2 e2=>app ⋯ d H2 (e2 _ _ nqp hqx) P2 (ex.trans e2)⟩) λk3=>?_
   refine Zy (λk4=>⟨ZX hqx,p,_,rfl,⋯,⋯,Px,λd H2 d0 d1 P2 e2=>?_⟩) λk4=>?_
   .refine⟨_,d,rfl,e2 _ _ nqp hqx,d0,⋯,hb,ns.take d.toNat++(0+(i:Int))::ns.drop d.toNat,by simp;omega,λ_ j hj=>?_,by rw[Zc];simp,P2.updN nqp,(ex.trans e2).updN zq⟩
    by_cases ej:j=i
    .rw[ej];simp
    .have hm:=hin k4 j ⋯
     rw[<-Jk d.toNat ns]at hm
     rcases Yw.mp hm with z|z
     .exact YS _ z
     .exact Ym _ (Yz _ z)
   refine Zy (λk5=>⟨ZX hqx,⋯,⟨⋯,⋯⟩,app k4 _ Hx hqx Px ex⟩) λk5=>?_
   refine Zy (λk6=>⟨ZX hqx,by decide,λu hu=>⟨by decide,?_⟩⟩) λk6=>?_
   .obtain⟨v,hv,y,rfl⟩:=Zjf (xs:=[V.int (0+(i:Int)),V.int (-(0+(i:Int)))]) (i:=tn % 2) (λv=>∃y:Int,v=V.int y) ⋯ (by show _<((2:Nat):Int);omega) (by
     intro x hx
     simp only[Yi,List.not_mem_nil,or_false]at hx
     rcases hx with rfl|rfl<;>exact⟨_,rfl⟩)
    have g:=(Zd.refl Hx).upd (o:=.lst [V.int (0+(i:Int)),V.int (-(0+(i:Int)))]) hu
    exact⟨_,SqL.of Zc,_,hv,app k4 y _ (g _ _ hqx) (Px.same g) (ex.same g)⟩
   exact Zy (λk7=>⟨ZX hqx,p,_,rfl,by decide,by decide,Px,λd H2 d0 d1 P2 e2=>⟨d,rfl,cp59,ZlQ ⋯ ⋯,app k4 _ H2 (e2 _ _ nqp hqx) P2 (ex.trans e2)⟩⟩) λk7=>⟨ZX hqx,p,_,rfl,by decide,by decide,Px,λd H2 d0 d1 P2 e2=>⟨d,rfl,app k4 _ H2 (e2 _ _ nqp hqx) P2 (ex.trans e2)⟩⟩
  .rintro σ Hx ⟨ns,v6,rfl,hl,hin,hqx,Px,ex⟩
   exact hR _ _ ⟨ns,v6,rfl,⋯,(λz j hj=>hin z j ⋯),hqx,Px,ex⟩
 clear P1 e1 hq1 H1
 rintro σ H1 ⟨ns,v6,rfl,hl,hin,hq1,P1,e1⟩
 refine Zaj (fun σ Hx=>∃(q:Addr) (ns:List Int) (v6:Option V),σ=[some (.ref p),some (.int most),some (.int many),some (.int kd),some (.int tn),some (.ref q),v6]/\H q=none/\(ns.length:Int)=many/\Hx q=some (.lst (ns.map V.int))/\ZK Hx p/\Exc p H Hx) (λR hR=>?_) ?_
 .walk_at "rd"
  refine Zy (λk3=>⟨⋯,⋯,?_⟩) λk3=>hR _ _ ⟨q,ns,v6,rfl,zq,hl,hq1,P1,e1⟩
  refine comp_map (n:=many.toNat) (λj=>V.int ((ns.idxOf ((j:Nat):Int):Nat):Int)) (YA (show _<=1000 by omega) nofun) (λj Hx s hj=>hj) (λHx s=>Ye _) ?_ ?_
  .rintro j x Hx Hy hj s ⟨rfl,rfl⟩
   have e0:((0:Int)+(j:Int))=(j:Int):= ⋯
   rw[e0]
   walk_at "rd"
   exact⟨ZX (s _ _ hq1),_,SqL.of (s _ _ hq1),⋯,hin k3 j ⋯,CW.next hj rfl s⟩
  .intro l Hx s hlx
   have em:(List.range many.toNat).map (λj=>V.int ((ns.idxOf ((j:Nat):Int):Nat):Int))=((List.range many.toNat).map λj=>((ns.idxOf ((j:Nat):Int):Nat):Int)).map V.int:=by rw[YZ];rfl
   rw[em]
   exact hR _ _ ⟨l,_,v6,rfl,e1.free ((P1.same s).ne hlx) (s.free hlx),by simp;omega,Zc,(P1.same s).upd hlx,(e1.same s).same ((Zd.refl Hx).upd hlx)⟩
 rintro σ H2 ⟨q2,ms,v6',rfl,zq2,hl2,hq2,P2,e2⟩
 walk_at "rd"
 exact k1 q2 ms _ zq2 ⋯ hq2 P2 e2
theorem ok__law_elder {f:Addr}{fd:FuncData} (F:Fun K "_law_elder" "_law_elder" s__law_elder f fd) (T:Txt K mg):FnOk P w K mg base (CXE P w) 1 f fd ["row","place"] (sp__law_elder K mg):=by
 refine F.okX sc__law_elder (λvs H Q E h=>?_) (λcdv A outer s H vs Q E hr h=>?_)
 .obtain⟨r,ns,i,rfl,_⟩:=h;rfl
 obtain⟨r,ns,i,rfl,hr1,hn,hi,k1⟩:=h
 refine⟨_,(Ze (Z3 (i:=2) ["other","row","place"] [none,some 0,some 1] sc__law_elder.nd rfl (Or.inl rfl) rfl rfl rfl (ZJ rfl T.b_range (Za (pv 1) Zb)) (λ_ _ _ _ _=>(Zn (i:=0) (show(["other","row","place"]:List Str).Nodup from by decide +kernel) rfl (Or.inl rfl))) (λ_ _ _ _ _=>Zaa (Zj Zgs (Zm (ZeZ (K:=K) rfl) (pv 1) (pv 0) (λ_ _=>rfl)) (Zm (ZeZ (K:=K) rfl) (pv 1) (pv 2) (λ_ _=>rfl)) (Zl _))) (λ_ _ _ _ _=>(pv 0)) Zt)
   (Ze (Z3 (i:=3) ["other","row","place"] [none,some 0,some 1] sc__law_elder.nd rfl (Or.inl rfl) rfl rfl rfl (Zf1 rfl T.b_range (Za (Zv Zav (pv 1) Zf) (Za (Zk (Zp (K:=K) rfl) rfl T.b_len YC (Za (pv 0) Zb)) Zb))) (λ_ _ _ _ _=>(Zn (i:=0) (show(["other","row","place"]:List Str).Nodup from by decide +kernel) rfl (Or.inl rfl))) (λ_ _ _ _ _=>Zaa (Zj ZcB (Zm (ZeZ (K:=K) rfl) (pv 1) (pv 0) (λ_ _=>rfl)) (Zm (ZeZ (K:=K) rfl) (pv 1) (pv 2) (λ_ _=>rfl)) (Zl _))) (λ_ _ _ _ _=>(pv 0)) Zt)
   (Ze (ZN (PW.pt (ZdN (Zj (Zhm (K:=K) rfl hr) (pv 2) (ZQ Zb) (Zl _)) (ZdM (Zj (Zhm (K:=K) rfl hr) (pv 3) (ZQ Zb) (Zl _))))) (Zg (Zu (Zm Zr (Zv Zhk (Zv Zhk (Zfi Zg4 (pv 2) (Zfh (Zb2 ZaG Zf)) Zi3) (Zfi Zg4 (pv 3) Zi3 (Zfh Zf))) (ZQ (Za (Zb2 ZaG Zf) Zb))) Zf (λ_ _=>rfl)))) ZA)
   (Ze (ZN (Zj ZcC (Zm (ZeZ (K:=K) rfl) (pv 0) (Zm Zr (pv 2) (Zb2 ZaG Zf) (λ_ _=>rfl)) (λ_ _=>rfl)) (Zm (ZeZ (K:=K) rfl) (pv 0) (Zm Zr (pv 3) Zf (λ_ _=>rfl)) (λ_ _=>rfl)) (Zl _)) (Zg (Zu (Zm Zr (pv 2) (Zb2 ZaG Zf) (λ_ _=>rfl)))) ZA)
   (Zg (Zu (Zm Zr (pv 3) Zf (λ_ _=>rfl)))))))),?_⟩
 have eL:(ns.map V.int).length=ns.length:=Yh ..
 have EE:=ZdX (f:=nth ns) hi
 generalize hA:((List.range i).filter λq=>decide (nth ns q<=nth ns i))=A at EE
 generalize hB:((List.range (ns.length-(i+1))).filter λj=>decide (nth ns (i+1+j)<nth ns i))=B at EE
 have hqa:∀q∈A,q<ns.length:=λq hq=>by
  rw[<-hA]at hq
  have:=Yq.mp (YO.mp hq).1;omega
 have hqb:∀j∈B,i+1+j<ns.length:=λj hq=>by
  rw[<-hB]at hq
  have:=Yq.mp (YO.mp hq).1;omega
 refine Zaj (fun σ Hz=>∃a,σ=[some (.ref r),some (.int (i:Int)),some (.ref a),none]/\Zd H Hz/\Hz a=some (.lst (ZD A))) (λR hR=>?_) ?_
 .walk_at "rd"
  refine⟨⋯,⋯,?_⟩
  have e1:((i:Int)).toNat=i:= ⋯
  rw[e1]
  refine Zad (n:=i) (λq=>decide (nth ns q<=nth ns i)) (λq=>V.int ((q:Nat):Int)) (YA (show _<=1000 by omega) nofun) (λj Hx s hj=>hj) (λHx s=>Ye _) ?_ ?_
  .rintro j x Hx Hz hj s ⟨rfl,rfl⟩
   have e0:((0:Int)+(j:Int))=(j:Int):= ⋯
   rw[e0]
   walk_at "rd"
   exact⟨_,s.q hr1,_,ZY ⋯,_,s.q hr1,_,ZY ⋯,_,rfl,_,rfl,Zy (λh=>CF.take hj (Yu h) rfl s) (λh=>CF.skip hj (Yt h) s)⟩
  .intro l1 H1 s1 hl1
   exact hR _ _ ⟨l1,rfl,s1.Zai hl1,by rw[Zc,hA];rfl⟩
 rintro σ Hx ⟨a,rfl,sx,hxa⟩
 refine Zaj (fun σ Hy=>∃b,σ=[some (.ref r),some (.int (i:Int)),some (.ref a),some (.ref b)]/\Zd H Hy/\Hy a=some (.lst (ZD A))/\Hy b=some (.lst (ZD (B.map λj=>i+1+j)))) (λR hR=>?_) ?_
 .walk_at "rd"
  refine⟨_,(sx.q hr1),⋯,⋯,⋯,by rw[eL];omega,?_⟩
  have e1:((((ns.map V.int).length:Nat):Int)-((i:Int)+1)).toNat=ns.length-(i+1):=by rw[eL];omega
  rw[e1]
  refine Zad (n:=ns.length-(i+1)) (λq=>decide (nth ns (i+1+q)<nth ns i)) (λq=>V.int ((i+1+q:Nat):Int)) (YA (show _<=1000 by omega) nofun) (λj Hx s hj=>hj) (λHx s=>Ye _) ?_ ?_
  .rintro j x Hy Hz hj s ⟨rfl,rfl⟩
   have e0:((i:Int)+1+(j:Int))=((i+1+j:Nat):Int):= ⋯
   rw[e0]
   walk_at "rd"
   exact⟨_,(sx.trans s).q hr1,_,ZY ⋯,_,(sx.trans s).q hr1,_,ZY ⋯,_,rfl,_,rfl,Zy (λh=>CF.take hj (Yu h) rfl s) (λh=>CF.skip hj (Yt h) s)⟩
  .intro l1 H1 s1 hl1
   exact hR _ _ ⟨l1,rfl,(sx.trans s1).Zai hl1,(s1.Zai hl1) _ _ hxa,by rw[Zc,hB];simp[ZD,Function.comp_def]⟩
 clear sx hxa Hx
 rintro σ Hx ⟨b,rfl,sx,hxa,hxb⟩
 have ka:ZbL (ZD A) (some (-1)) none=ZD (A.drop (A.length-1)):=by rw[cut_m1,ZS];simp[ZD,List.map_drop]
 have kb:ZbL (ZD (B.map λj=>i+1+j)) none (some 1)=ZD ((B.take 1).map λj=>i+1+j):=by rw[Zq9];simp[ZD,List.map_take]
 have lA:A.length<=1000:=by rw[<-hA];exact Yn (Jc _ _) (by simp;omega)
 refine Zaj (fun σ Hy=>σ=[some (.ref r),some (.int (i:Int)),some (.ref a),some (.ref b)]/\Zd Hx Hy/\A≠[]/\B≠[]) (λR hR=>?_) ?_
 .refine ifR (λH1=>Zd Hx H1/\(A=[]\/B=[])) (λH1=>Zd Hx H1/\A≠[]/\B≠[]) ?_ ?_ ?_
  .rintro H1 ⟨s1,hc⟩
   have key:∃e:Int,atI (ZD (A.drop (A.length-1))++ZD ((B.take 1).map λj=>i+1+j)++[V.int (-1)]) 0=some (V.int e)/\ZC (nth ns) ns.length i e:=by
    rcases hc with rfl|rfl
    .cases B with
     |nil=>exact⟨-1,rfl,by simpa using EE⟩
     |cons j B'=>exact⟨((i+1+j:Nat):Int),rfl,by simpa using EE⟩
    .rcases snoc_cases A with rfl|⟨ys,y,rfl⟩
     .exact⟨-1,rfl,by simpa using EE⟩
     .refine⟨(y:Int),?_,by simpa using EE⟩
      have:(ys++[y]).drop ((ys++[y]).length-1)=[y]:=by simp
      rw[this];rfl
   obtain⟨e,he,hE⟩:=key
   have m1:=s1 _ _ hxa
   have m2:=s1 _ _ hxb
   walk_at "rd"
   refine⟨_,SqL.of m1,λc1 z1=>?_⟩
   rw[ka]
   have u1:=(Zd.refl H1).upd (o:=.lst (ZD (A.drop (A.length-1)))) z1
   refine⟨_,SqL.of (u1 _ _ m2),λc2 z2=>?_⟩
   rw[kb]
   have u2:=(Zd.refl _).upd (o:=.lst (ZD ((B.take 1).map λj=>i+1+j))) z2
   refine⟨_,u2 _ _ Zc,_,Zc,Yn (show _<=1001 by rw[ZS,ZS];simp;omega) nofun,λc3 z3=>⟨by decide,λc4 z4=>?_⟩⟩
   have u4:=(Zd.refl _).upd (o:=.lst [V.int (-1)]) z4
   refine⟨_,u4 _ _ Zc,_,Zc,Yn (show _<=1003 by rw[YQ,ZS,ZS];simp;omega) nofun,λc5 z5=>⟨_,SqL.of Zc,_,he,k1 e _ hE (((((((sx.trans s1).trans u1).trans u2).Zai z3).trans u4).Zai z5))⟩⟩
  .rintro H1 ⟨s1,hc⟩
   walk_at "rd"
   exact hR _ _ ⟨rfl,s1,hc⟩
  .intro B0 hT hU
   walk_at "rd"
   refine⟨Yo _,λc hc=>?_⟩
   have u1:=(Zd.refl Hx).upd (o:=.lst []) hc
   refine⟨_,Zl3 (u1 _ _ hxa) Zc,?_⟩
   by_cases zA:A=[]
   .exact Zy (λ_=>hT _ ⟨u1,.inl zA⟩) λz=>absurd (Yu zA) z
   refine Zy (λz=>absurd (Y2 z) zA) λ_=>⟨Yo _,λd hd=>?_⟩
   have u2:=u1.Zai (o:=.lst []) hd
   refine⟨_,Zl3 (u2 _ _ hxb) Zc,?_⟩
   by_cases zB:B=[]
   .have:decide (B.map (λj=>i+1+j)=[])=true:=Yu (by rw[zB];rfl)
    rw[this];exact hT _ ⟨u2,.inr zB⟩
   .have:decide (B.map (λj=>i+1+j)=[])=false:=Yt (by simpa using zB)
    rw[this];exact hU _ ⟨u2,zA,zB⟩
 rintro σ Hy ⟨rfl,sy,nA,nB⟩
 replace hxa:=sy _ _ hxa
 replace hxb:=sy _ _ hxb
 replace sx:=sx.trans sy
 rcases snoc_cases A with rfl|⟨ys,y,rfl⟩
 .exact absurd rfl nA
 cases B with
 |nil=>exact absurd rfl nB
 |cons j B' =>
  have hy:y<ns.length:=hqa y (by simp)
  have hj:i+1+j<ns.length:=hqb j (by simp)
  have el:atI (ZD (ys++[y])) (-1)=some (V.int (y:Int)):=by rw[ZcF];exact ZnS _ _
  have ej:atI (ZD ((j::B').map λj=>i+1+j)) 0=some (V.int ((i+1+j:Nat):Int)):=Zfm (j:=0) rfl
  have eg:(ys++[y]).getLast?=some y:=by simp
  rw[eg]at EE
  walk_at "rd"
  refine⟨_,SqL.of hxa,_,el,_,_,rfl,sx.q hr1,_,ZY hy,_,SqL.of hxb,_,ej,_,_,rfl,sx.q hr1,_,ZY hj,_,rfl,_,rfl,Zy (λz=>⟨_,SqL.of hxa,_,el,k1 _ _ ?_ sx⟩) λz=>⟨_,SqL.of hxb,_,ej,k1 _ _ ?_ sx⟩⟩
  .simp only[List.head?_cons,Yb (show ¬ nth ns y<=nth ns (i+1+j) by omega)]at EE
   exact EE
  .simp only[List.head?_cons,Yd (show nth ns y<=nth ns (i+1+j) by omega)]at EE
   exact EE
theorem ok__law_tree {f:Addr}{fd:FuncData} (F:Fun K "_law_tree" "_law_tree" s__law_tree f fd) (ZcW:Callee P w K mg base "_law_elder" 1 ["row","place"] (sp__law_elder K mg)) (T:Txt K mg):FnOk P w K mg base (CXE P w) 2 f fd ["row"] (sp__law_tree K mg):=by
 refine F.okX sc__law_tree (λvs H Q E h=>?_) (λcdv A outer s H vs Q E hr h=>?_)
 .obtain⟨r,ns,rfl,_⟩:=h;rfl
 obtain⟨r,ns,rfl,hr0,hn,k1⟩:=h
 refine⟨_,(Zg (Zu (ZaD (ZoS (ZiQ (K:=K) rfl) (Zf2 (K:=K) rfl)) rfl T.b_tuple ZdW (Za (Z2 ["place","row"] [none,some 0] rfl rfl rfl (ZJ rfl T.b_range (Za (Zk (Zp (K:=K) rfl) rfl T.b_len YC (Za (pv 0) Zb)) Zb)) (λ_ _ _ _ _=>(Zn (i:=0) (show(["place","row"]:List Str).Nodup from by decide +kernel) rfl (Or.inl rfl))) (λ_ _ _ _ _=>ZW) (λ_ _ _ _ _=>(Zi ZcW (hr.mono nofun) rfl Zx (Za (pv 1) (Za (pv 0) Zb)))) Zt) Zb)))),?_⟩
 walk_at "rd"
 have eL:(ns.map V.int).length=ns.length:=Yh ..
 refine⟨_,hr0,⋯,⋯,?_⟩
 have e1:(((ns.map V.int).length:Nat):Int).toNat=ns.length:=by rw[eL];omega
 rw[e1]
 refine Zam (n:=ns.length) (λi acc Hx=>∃es:List Int,acc=es.map V.int/\es.length=i/\(∀p,p<i->ZC (nth ns) ns.length p (es.getD p 0))/\Zd H Hx) (YA (show _<=1000 by omega) nofun) ⟨[],rfl,rfl,(λp hp=>absurd hp ⋯),Zd.refl _⟩ (λi acc Hx _ hi=>hi) (λacc Hx _=>Ye _) ?_ ?_
 .rintro i x acc Hx Hy hi hla ⟨es,rfl,hl,hE,sx⟩ ⟨rfl,rfl⟩
  walk_at "rd"
  refine⟨r,ns,i,by rw[Int.zero_add],sx.q hr0,hn,hi,λe H2 he s2=>CA.take hi hla ⟨es++[e],by simp,by simp[hl],λp hp=>?_,sx.trans s2⟩⟩
  by_cases z:p<es.length
  .rw[show(es++[e]).getD p 0=es.getD p 0 by simp[Yg,Y5 z]]
   exact hE p ⋯
  .have ep:p=es.length:= ⋯
   rw[show(es++[e]).getD p 0=e by rw[ep];simp[Yg],ep,hl]
   exact he
 .rintro l acc Hx ⟨es,rfl,hl,hE,sx⟩ _ hlx
  refine k1.elim (λk1=>.inr ⟨l,rfl,_,.inl ⟨SqL.of Zc,λt ht=>k1 t es _ ⟨hl,hE⟩ ((sx.Zai hlx).Zai ht) Zc⟩⟩) λk1=>.inl ⟨l,rfl,_,SqL.of Zc,λt H5 ht s5 tf=>k1 t es _ ⟨hl,hE⟩ ((sx.Zai hlx).trans s5) tf⟩
theorem ok_settle {f:Addr}{fd:FuncData} (F:Fun K "settle" "settle" s_settle f fd) (T:Txt K mg):FnOk P w K mg base (CXE P w) 1 f fd ["elders","spine","place","keep"] (sp_settle K mg):=by
 refine F.okX sc_settle (λvs H Q E h=>?_) (λcdv A outer s H vs Q E hr h=>?_)
 .obtain⟨el,sp,es,A,B,i,rfl,_⟩:=h;rfl
 obtain⟨el,sp,es,A',B,i,rfl,hel,hsp,hne,hi,hq,hlen,k1⟩:=h
 refine⟨_,(Ze (ZN (Zj ZcB (pv 3) (Zk (Zp (K:=K) rfl) rfl T.b_len YC (Za (pv 1) Zb)) (Zl _)) (Zg (ZcM (pv 2) (Zf0 (pv 0) (Zm Zr (pv 1) (pv 3) (λ_ _=>rfl)) set_list (λ_=>rfl)))) ZA)
   (Ze (ZN (Zj ZcC (pv 3) Zf (Zl _)) (Zg (ZcM (Zm Zr (pv 1) (Zv ZdS (pv 3) Zf) (λ_ _=>rfl)) (Zf0 (pv 0) (pv 2) set_list (λ_=>rfl)))) ZA)
   (Ze (Zk1 (pv 1) (pv 3))
   (Zg (Z8 (Zb4 PySem.F.plainAttrs_list PySem.F.slot_list_append PySem.F.type_list_append Zap (pv 1) (Za (pv 2) Zb))))))),?_⟩
 walk_at "rd"
 have hb1:(ZD A').length<sizeLine:=by
  rw[ZS]
  rw[YQ]at hlen
  exact YA (show _<=1000 by omega) nofun
 have etk:List.take A'.length (ZD (A'++B))=ZD A':=by
  rw[ZcF]
  have:A'.length=(ZD A').length:=(ZS A').symm
  rw[this,List.take_left]
 have hle:A'.length<=(ZD (A'++B)).length:=by rw[ZS,YQ];omega
 have esn:ZD A'++[V.int (i:Nat)]=ZD (A'++[i]):=by rw[ZcF];rfl
 refine⟨_,.inl (SqL.of hsp),?_⟩
 rw[ZS,YQ]
 -- the end: behind the two stores
 have fin:∀(es1:List Int) (Hx:Hp),(∀b o,b≠el->b≠sp->H b=some o->Hx b=some o)->Hx el=some (.lst (es1.map V.int))->Hx sp=some (.lst (ZD (A'++B)))->es1=ZeL es A' B i ->
   ∃(xs:List V) (k:Nat),(A'.length:Int)=(k:Int)/\Hx sp=some (HO.lst xs)/\k<=xs.length/\tyV K "list" (V.ref sp) (upd Hx sp (HO.lst (List.take k xs)))/\∃x,upd Hx sp (HO.lst (List.take k xs)) sp=some (HO.lst x)/\x.length<sizeLine/\Q V.non (upd (upd Hx sp (HO.lst (List.take k xs))) sp (HO.lst (x++[V.int (i:Nat)]))):=by
  intro es1 Hx h1 h2 h3 h4
  refine⟨_,A'.length,rfl,h3,hle,ZX Zc,_,Zc,by rw[etk];exact hb1,k1 _ (λb o n1 n2 z=>by rw[Zh n2,Zh n2];exact h1 b o n1 n2 z) (by rw[Zh hne,Zh hne,h2,h4]) (by rw[Zc,etk,esn])⟩
 -- elders[place]=spine[keep-1]
 have mid:∀(es1:List Int) (Hx:Hp),(∀b o,b≠el->b≠sp->H b=some o->Hx b=some o)->Hx el=some (.lst (es1.map V.int))->es1.length=es.length->Hx sp=some (.lst (ZD (A'++B)))->∀q,A'.getLast?=some q->es1.set i (q:Int)=ZeL es A' B i ->
   ∃x,SqL K Hx sp x/\∃x_1,atI x ((A'.length:Int)-1)=some x_1/\∃x,Hx el=some (HO.lst x)/\∃x_2,ixN x.length (i:Int)=some x_2/\∃(xs:List V) (k:Nat),(A'.length:Int)=(k:Int)/\upd Hx el (HO.lst (x.set x_2 x_1)) sp=some (HO.lst xs)/\k<=xs.length/\tyV K "list" (V.ref sp) (upd (upd Hx el (HO.lst (x.set x_2 x_1))) sp (HO.lst (List.take k xs))) /\
    ∃x_3,upd (upd Hx el (HO.lst (x.set x_2 x_1))) sp (HO.lst (List.take k xs)) sp=some (HO.lst x_3)/\x_3.length<sizeLine/\Q V.non (upd (upd (upd Hx el (HO.lst (x.set x_2 x_1))) sp (HO.lst (List.take k xs))) sp (HO.lst (x_3++[V.int (i:Nat)]))):=by
  intro es1 Hx h1 h2 hl1 h3 q hq h4
  have hpos:0<A'.length:=by
   cases A' with
   |nil=>cases hq
   |cons _ _=>simp
  have hat:(A'++B)[A'.length-1]?=some q:=by
   rw[Y5 ⋯]
   rw[List.getLast?_eq_getElem?]at hq;exact hq
  have ei:((A'.length:Int)-1)=((A'.length-1:Nat):Int):= ⋯
  refine⟨_,SqL.of h3,_,by rw[ei];exact Zfm hat,_,h2,i,by rw[Yh,hl1];exact Zfn hi,?_⟩
  have em:(es1.map V.int).set i (V.int (q:Nat))=(es1.set i (q:Int)).map V.int:=by rw[List.map_set]
  rw[em]
  exact fin _ _ (λb o n1 n2 z=>by rw[Zh n1];exact h1 b o n1 n2 z) Zc (by rw[Zh hne.symm];exact h3) h4
 cases B with
 |nil =>
  rw[Yb (by simp)]
  cases hq:A'.getLast? with
  |none =>
   have:A'=[]:=List.getLast?_eq_none_iff.mp hq
   rw[Yb (by rw[this];simp)]
   exact fin es H (λb o _ _ z=>z) hel hsp (by unfold ZeL;rw[hq];rfl)
  |some q =>
   have:A'≠[]:=λz=>by rw[z]at hq;cases hq
   rw[Yd (by have:=List.length_pos_iff.mpr this;omega)]
   exact mid es H (λb o _ _ z=>z) hel rfl hsp q hq (by unfold ZeL;rw[hq];rfl)
 |cons b Br =>
  rw[Yd (by simp;omega)]
  have hat:(A'++b::Br)[A'.length]?=some b:=by rw[YV (Ye _)];simp
  have hbn:b<es.length:=hq b (by simp)
  refine⟨_,SqL.of hsp,_,Zfm hat,_,_,rfl,hel,b,by rw[Yh];exact Zfn hbn,?_⟩
  have em:(es.map V.int).set b (V.int (i:Nat))=(es.set b (i:Int)).map V.int:=by rw[List.map_set]
  rw[em]
  cases hq2:A'.getLast? with
  |none =>
   have:A'=[]:=List.getLast?_eq_none_iff.mp hq2
   rw[Yb (by rw[this];simp)]
   exact fin (es.set b i) _ (λc o n1 n2 z=>by rw[Zh n1];exact z) Zc (by rw[Zh hne.symm];exact hsp) (by unfold ZeL;rw[hq2];rfl)
  |some q =>
   have:A'≠[]:=λz=>by rw[z]at hq2;cases hq2
   rw[Yd (by have:=List.length_pos_iff.mpr this;omega)]
   exact mid (es.set b i) _ (λc o n1 n2 z=>by rw[Zh n1];exact z) Zc (by simp) (by rw[Zh hne.symm];exact hsp) q hq2 (by unfold ZeL;rw[hq2];rfl)
theorem ok_tree_of {f:Addr}{fd:FuncData} (F:Fun K "tree_of" "tree_of" s_tree_of f fd) (ZhM:Callee P w K mg base "settle" 1 ["elders","spine","place","keep"] (sp_settle K mg)) (T:Txt K mg):FnOk P w K mg base (CXE P w) 2 f fd ["row"] (sp_tree_of K mg):=by
 refine F.okX sc_tree_of (λvs H Q E h=>?_) (λcdv A outer s H vs Q E hr h=>?_)
 .obtain⟨r,ns,rfl,_⟩:=h;rfl
 obtain⟨r,ns,rfl,hS,hn,k1⟩:=h
 refine⟨_,(Ze (Zs (i:=1) sc_tree_of.nd rfl (Or.inl rfl) (Zv op_rep (ZQ (Za (Zb2 ZaG Zf) Zb)) (Zk (Zp (K:=K) rfl) rfl T.b_len YC (Za (pv 0) Zb))))
   (Ze (Zs (i:=2) sc_tree_of.nd rfl (Or.inl rfl) (ZQ Zb))
   (Ze (ZaC (Zbj PassesOwn.never rfl (ZJ rfl T.b_range (Za (Zk (Zp (K:=K) rfl) rfl T.b_len YC (Za (pv 0) Zb)) Zb)) (Zn (i:=3) sc_tree_of.nd rfl (Or.inl rfl)) (Ze (Zs (i:=4) sc_tree_of.nd rfl (Or.inl rfl) (Zk (Zp (K:=K) rfl) rfl T.b_len YC (Za (pv 2) Zb)))
   (Ze (ZaC (Zhg PassesOwn.never (PW.pt (ZbK (Zj ZcC (pv 4) Zf (Zl _)) (Zbq (Zj ZcC (Zm (ZeZ (K:=K) rfl) (pv 0) (Zm Zr (pv 2) (Zv ZdS (pv 4) Zf) (λ_ _=>rfl)) (λ_ _=>rfl)) (Zm (ZeZ (K:=K) rfl) (pv 0) (pv 3) (λ_ _=>rfl)) (Zl _))))) (Zg (ps_aug (i:=4) sc_tree_of.nd rfl (Or.inl rfl) Zf ip_sub))))
   (Zg (Z8 (Zi ZhM (hr.mono nofun) rfl Zx (Za (pv 1) (Za (pv 2) (Za (pv 3) (Za (pv 4) Zb)))))))))))
   (Zg (Zu (ZaD (ZiQ (K:=K) rfl) rfl T.b_tuple ZdW (Za (pv 1) Zb))))))),?_⟩
 walk_at "rd"
 have eL:(ns.map V.int).length=ns.length:=Yh ..
 refine⟨by decide,λp hp=>⟨_,((Zd.refl H).upd hp).q hS,_,Zc,⋯,by rw[eL];omega,?_,λel hel=>⟨Yo _,λsp hsp=>?_⟩⟩⟩
 .exact Yn (show _<=1000 by simp;omega) nofun
 have s0:Zd H (upd (upd (upd H p (.lst [V.int (-1)])) el (.lst (List.replicate (((ns.map V.int).length:Nat):Int).toNat [V.int (-1)]).flatten)) sp (.lst [])):=(((Zd.refl H).upd hp).Zai hel).Zai hsp
 refine⟨_,s0.q hS,⋯,by rw[eL];omega,?_⟩
 have en:(((ns.map V.int).length:Nat):Int).toNat=ns.length:=by rw[eL];omega
 have hel0:(upd (upd (upd H p (.lst [V.int (-1)])) el (.lst (List.replicate (((ns.map V.int).length:Nat):Int).toNat [V.int (-1)]).flatten)) sp (.lst [])) el=some (.lst ((List.replicate ns.length (-1:Int)).map V.int)):=by
  have:=((Zd.refl _).Zai (o:=.lst []) hsp) el _ Zc
  rw[this,en];simp
 have hsp0:(upd (upd (upd H p (.lst [V.int (-1)])) el (.lst (List.replicate (((ns.map V.int).length:Nat):Int).toNat [V.int (-1)]).flatten)) sp (.lst [])) sp=some (.lst (ZD [])):=Zc
 have nes:el≠sp:=λz=>by
  subst z
  rw[Zc]at hsp;cases hsp
 have zel:H el=none:=((Zd.refl H).upd hp).free hel
 have zsp:H sp=none:=(((Zd.refl H).upd hp).Zai hel).free hsp
 rw[en]at hel0 hsp0 s0⊢
 generalize (upd (upd (upd H p (.lst [V.int (-1)])) el (.lst (List.replicate ns.length [V.int (-1)]).flatten)) sp (.lst []))=H0 at s0 hel0 hsp0⊢
 refine ZeA (λi σ Hx=>∃(es:List Int) (S:List Nat) (v3 v4:Option V),σ=[some (.ref r),some (.ref el),some (.ref sp),v3,v4]/\Zd H Hx/\Hx el=some (.lst (es.map V.int))/\Hx sp=some (.lst (ZD S))/\es.length=ns.length/\Zhn (nth ns) i S/\(∀p e,p<i->e=es.getD p 0->ZC (nth ns) i p e)/\∀p,i<=p->p<ns.length->es.getD p 0=-1)
  ⟨List.replicate ns.length (-1),[],none,none,rfl,s0,hel0,hsp0,by simp,⟨List.Pairwise.nil,λq=>by simp⟩,λp e hp=>⋯,λp _ hp=>by simp[Yg,hp]⟩ ?_ ?_
 .rintro i σ Hx hi ⟨es,S,v3,v4,rfl,sx,hxe,hxs,hesl,hS2,hE,hE2⟩
  walk_at "rd"
  have hin:i<ns.length:= ⋯
  have hSl:S.length<=1000:=by
   rcases Zod S i 0 hS2.1 (λq hq=>⟨Yo _,((hS2.2 q).mp hq).1⟩)with z|z
   .omega
   .rw[z];simp
  refine⟨_,.inl (SqL.of hxs),?_⟩
  rw[ZS]
  refine Zl0 S.length (λj σ Hy=>∃A B,S=A++B/\B.length=j/\(∀q∈B,nth ns i<nth ns q)/\σ=[some (.ref r),some (.ref el),some (.ref sp),some (.int (0+(i:Int))),some (.int (A.length:Nat))]/\Hy=Hx) ⟨S,[],by simp,rfl,(λq hq=>absurd hq (by simp)),rfl,rfl⟩ ?_
  rintro j σ Hy hj ⟨A,B,hAB,hBl,hBg,rfl,rfl⟩
  walk_at "rd"
  have hmem:∀q,q∈A++B->q<i:=λq hq=>((hS2.2 q).mp (by rw[hAB];exact hq)).1
  have hix:(0+(i:Int))=(i:Int):= ⋯
  rw[hix]
  by_cases hA0:A=[]
  case' pos =>
   rw[Yb (by rw[hA0];simp)]
   have hA:∀q∈A,nth ns q<=nth ns i:=λq hq=>absurd hq (by rw[hA0];simp)
  case' neg =>
   obtain⟨q,Al,rfl⟩:∃q Al,A=Al++[q]:=⟨A.getLast hA0,A.dropLast,(List.dropLast_concat_getLast hA0).symm⟩
   have hal:(Al++[q]).length=Al.length+1:=by simp
   rw[Yd (by rw[hal];omega)]
   have eiA:(((Al++[q]).length:Nat):Int)-1=(Al.length:Int):=by rw[hal];omega
   have hat:S[Al.length]?=some q:=by
    rw[hAB,Ja,YV (Ye _)];simp
   have hqi:q<i:=hmem q (by simp)
   refine⟨_,SqL.of hxs,_,by rw[eiA];exact Zfm hat,_,_,rfl,sx.q hS,_,ZY ⋯,_,sx.q hS,_,ZY hin,_,rfl,_,rfl,Zy (λhlt=>?_) (λhge=>?_)⟩
   .have hj2:j+1<=S.length:=by rw[hAB,YQ,hal];omega
    refine⟨_,WI.next,hj2,Al,q::B,by rw[hAB];simp,by simp[hBl],λx hx=>?_,by rw[eiA],rfl⟩
    rcases Yi.mp hx with z|z
    .rw[z];exact hlt
    .exact hBg x z
   have hA:∀x∈Al++[q],nth ns x<=nth ns i:=λx hx=>by
    by_cases z:x=q
    .rw[z];omega
    .have hxa:x∈Al:=by
      rcases Yw.mp hx with y|y
      .exact y
      .exact absurd (by simpa using y) z
     have hpw:=hS2.1
     rw[hAB]at hpw
     have hxq:x<q:=(List.pairwise_append.mp (List.pairwise_append.mp hpw).1).2.2 x hxa q (by simp)
     have:=((hS2.2 x).mp (by rw[hAB];exact YS _ hx)).2 q hxq hqi
     omega
   generalize Al++[q]=A at hA hAB hmem hA0⊢
  all_goals
   have SS:=Zho (f:=nth ns) (i:=i) (A:=A) (B:=B) (by rw[<-hAB];exact hS2) hA hBg
   refine⟨el,sp,es,A,B,i,rfl,hxe,by rw[<-hAB];exact hxs,nes,⋯,λq hq=>by have:=hmem q hq;omega,by rw[<-hAB];exact hSl,λH' q1 q2 q3=>?_⟩
   have hbi:∀b,B.head?=some b->b≠i:=λb hb=>by
    have:=hmem b (Ym _ (List.mem_of_head? hb));omega
   refine⟨λb o z=>q1 b o (Zz z zel) (Zz z zsp) (sx b o z),ZeL es A B i,q2,A++[i],q3,by rw[Zj6];exact hesl,SS.1,λp e hp he=>?_,λp hp1 hp2=>?_⟩
   .rw[Zg8 _ _ _ _ _ ⋯ hbi]at he
    by_cases z:p=i
    .subst z
     rw[Yd rfl,hE2 p (Ye _) ⋯]at he
     rw[he];exact SS.2.1
    .rw[Yb z]at he
     rw[he]
     exact SS.2.2 p _ ⋯ (hE p _ ⋯ rfl)
   .rw[Zg8 _ _ _ _ _ ⋯ hbi,Yb ⋯,Yb (λz=>?_)]
    .exact hE2 p ⋯ hp2
    .have:=hmem p (Ym _ (List.mem_of_head? z));omega
 .rintro σ Hx ⟨es,S,v3,v4,rfl,sx,hxe,hxs,hesl,hS2,hE,hE2⟩
  walk_at "rd"
  exact⟨_,SqL.of hxe,λt H7 zt s7 ht=>k1 t es H7 ⟨hesl,λp hp=>hE p _ hp rfl⟩ (sx.trans s7) ht⟩
theorem ok_way_up {f:Addr}{fd:FuncData} (F:Fun K "way_up" "way_up" s_way_up f fd) (T:Txt K mg):FnOk P w K mg base (CXE P w) 1 f fd ["tree","place"] (sp_way_up K mg):=by
 refine F.okX sc_way_up (λvs H Q E h=>?_) (λcdv A outer s H vs Q E hr h=>?_)
 .obtain⟨t,T,p,rfl,_⟩:=h;rfl
 obtain⟨t,T',p,rfl,ht,hn,hp,k1⟩:=h
 have hQ:∀Hx,Zd H Hx->(SqL K Hx t (T'.map V.int)\/SqT K Hx t (T'.map V.int)):=λHx sx=>ht.elim (λz=>.inl (sx.seq z)) λz=>.inr (sx.Zf5 z)
 refine⟨_,(Ze (Zs (i:=2) sc_way_up.nd rfl (Or.inl rfl) (ZQ Zb))
   (Ze (Zs (i:=3) sc_way_up.nd rfl (Or.inl rfl) (Zm (ZeZ (K:=K) rfl) (pv 0) (pv 1) (λ_ _=>rfl)))
   (Ze (ZaC (Zhg PassesOwn.never (PW.pt (ZbK (ZnP Zgs ZcB Zf (pv 3) (Zk (Zp (K:=K) rfl) rfl T.b_len YC (Za (pv 0) Zb))) (Zbq (Zj ZcB (Zk (Zp (K:=K) rfl) rfl T.b_len YC (Za (pv 2) Zb)) (Zk (Zp (K:=K) rfl) rfl T.b_len YC (Za (pv 0) Zb)) (Zl _))))) (Ze (Z8 (Zb4 PySem.F.plainAttrs_list PySem.F.slot_list_append PySem.F.type_list_append Zap (pv 2) (Za (pv 3) Zb)))
   (Zg (Zs (i:=3) sc_way_up.nd rfl (Or.inl rfl) (Zm (ZeZ (K:=K) rfl) (pv 0) (pv 3) (λ_ _=>rfl)))))))
   (Zg (Zu (pv 2)))))),?_⟩
 walk_at "rd"
 refine⟨Yo _,λl hl=>⟨_,hQ _ ((Zd.refl H).upd hl),_,ZY hp,?_⟩⟩
 refine Zl0 T'.length (λj σ Hx=>Zd H Hx/\Hx l=some (.lst (ZD (Z0 T' j (nth T' p))))/\(Z0 T' j (nth T' p)).length=j/\σ=[some (.ref t),some (.int p),some (.ref l),some (.int (Zau T' j (nth T' p)))]) ⟨(Zd.refl H).upd hl,Zc,rfl,rfl⟩ ?_
 rintro j σ Hx hj ⟨sx,hxl,hjl,rfl⟩
 walk_at "rd"
 have hlen:(ZD (Z0 T' j (nth T' p))).length=j:=by rw[ZS];exact hjl
 have eL:(T'.map V.int).length=T'.length:=Yh ..
 have done:(j=T'.length\/¬ (0<=Zau T' j (nth T' p)/\Zau T' j (nth T' p)<T'.length))->Q (.ref l) Hx:=λz=>by
  refine k1 l Hx hl sx ?_
  have:Z0 T' T'.length (nth T' p)=Z0 T' j (nth T' p):=by
   rcases z with z|z
   .rw[<-z]
   .exact ZiI T' j _ _ hj hjl z
  rw[hxl];unfold ZmN;rw[this];simp[ZD]
 refine Zy (λh0=>⟨_,hQ _ sx,Zy (λh1=>⟨_,.inl (SqL.of hxl),_,hQ _ sx,Zy (λh2=>?_) λh2=>done (.inl (by rw[hlen,eL]at h2;omega))⟩) λh1=>done (.inr (by rw[eL]at h1;omega))⟩) λh0=>done (.inr ⋯)
 rw[eL]at h1;rw[hlen,eL]at h2
 obtain⟨a1,a2⟩:=ZiH T' j (nth T' p) h0 h1 hjl
 have ei:Zau T' j (nth T' p)=(((Zau T' j (nth T' p)).toNat:Nat):Int):= ⋯
 refine⟨_,WI.next,ZX hxl,_,hxl,by rw[hlen];exact YA (show _<=1000 by omega) nofun,_,hQ _ (sx.upd hl),_,(congrArg (atI _) ei).trans (ZY ⋯),⋯,sx.upd hl,?_,?_,?_⟩
 .rw[Zc,a1,ZcF]
  have:ZD [(Zau T' j (nth T' p)).toNat]=[V.int (Zau T' j (nth T' p))]:=by rw[ei];simp[ZD]
  rw[this]
 .rw[a1];simp[hjl]
 .rw[a2]
theorem ok__law_whole {f:Addr}{fd:FuncData} (F:Fun K "_law_whole" "_law_whole" s__law_whole f fd) (T:Txt K mg):FnOk P w K mg base (CXE P w) 1 f fd ["thing"] (sp__law_whole K mg):=by
 refine F.okX sc__law_whole (λvs H Q E h=>?_) (λcdv A outer s H vs Q E hr h=>?_)
 .obtain⟨n,rfl,_⟩:=h;rfl
 obtain⟨i,rfl,k1⟩:=h
 refine⟨_,(Zg (Zu (ZkM (Zk (ZM (K:=K) rfl) rfl T.b_isinstance Zw (Za (pv 0) (Za (Zg3 (v:=.ty "int") rfl T.b_int bt_int rfl) Zb))) (ZkL (pe_not (Zk (ZM (K:=K) rfl) rfl T.b_isinstance Zw (Za (pv 0) (Za (Zg3 (v:=.ty "bool") rfl T.b_bool Zq8 rfl) Zb)))))))),?_⟩
 walk_at "rd"
 exact⟨_,ty_ii,iteT ⟨_,ty_ib,k1⟩⟩
theorem ok_need_numbers {f:Addr}{fd:FuncData}{dV:Value} (F:FunD K "need_numbers" "need_numbers" s_need_numbers f fd dV) (T:Txt K mg):FnOk P w K mg base (CXE P w) 1 f fd ["row","fewest"] (sp_need_numbers K mg):=by
 refine F.okX sc_need_numbers (λvs H Q E h=>?_) (λcdv A outer s H vs Q E hr h=>?_)
 .obtain⟨r,ns,k,rfl,_⟩:=h;rfl
 obtain⟨r,ns,k,rfl,hS,hn,h0,h1,k1,k2⟩:=h
 refine⟨_,(Zg (ZN (Zj ZcB (Zk (Zp (K:=K) rfl) rfl T.b_len YC (Za (pv 0) Zb)) (pv 1) (Zl _)) (Zg (Zfj rfl rfl T.c_Empty T.x_Empty (Za (ZeE (Zbr nofun (Zhl (Zk (Zp (K:=K) rfl) rfl T.b_len YC (Za (pv 0) Zb)) (Zbr nofun (Zhl (pv 1) (Zbr nofun Zje)))))) Zb) Zg5)) ZA)),?_⟩
 walk_at "rd"
 have eN:(ns.map V.int).length=ns.length:=Yh ..
 exact⟨_,hS,Zy (λz=>⟨_,hS,⋯,by rw[eN];omega,h0,⋯,λy=>⟨by decide,k2 (by rw[eN]at z;exact z)⟩⟩) λz=>k1 (by rw[eN]at z;omega)⟩
theorem ok__law_over {f:Addr}{fd:FuncData} (F:Fun K "_law_over" "_law_over" s__law_over f fd) (T:Txt K mg):FnOk P w K mg base (CXE P w) 1 f fd ["tree","place"] (sp__law_over K mg):=by
 refine F.okX sc__law_over (λvs H Q E h=>?_) (λcdv A outer s H vs Q E hr h=>?_)
 .obtain⟨t,T,p,rfl,_⟩:=h;rfl
 obtain⟨t,T',p,rfl,ht,hn,hp,hen,k1⟩:=h
 refine⟨_,(Ze (Zs (i:=2) sc__law_over.nd rfl (Or.inl rfl) (ZQ Zb))
   (Ze (Zs (i:=3) sc__law_over.nd rfl (Or.inl rfl) (Zm ZI (pv 0) (pv 1) (λ_ _=>rfl)))
   (Ze (ZaC (Zhg PassesOwn.never (Zj Ziw (pv 3) Zf (Zl _)) (Ze (Z8 (Zb4 PySem.F.plainAttrs_list PySem.F.slot_list_append PySem.F.type_list_append Zap (pv 2) (Za (pv 3) Zb)))
   (Zg (Zs (i:=3) sc__law_over.nd rfl (Or.inl rfl) (Zm ZI (pv 0) (pv 3) (λ_ _=>rfl)))))))
   (Zg (Zu (pv 2)))))),?_⟩
 walk_at "rd"
 have eL:(T'.map V.int).length=T'.length:=Yh ..
 refine⟨Yo _,λl hl=>⟨_,SqT.of (((Zd.refl H).upd hl) _ _ ht),_,ZY hp,?_⟩⟩
 have nlt:t≠l:=Zz ht hl
 refine Zrb (λm σ Hx=>∃(h:Int) (L:List Nat),m+L.length=T'.length/\ZbO T' m h/\L++Z0 T' m h=way T' p/\Zd H Hx/\Hx l=some (.lst (ZD L))/\σ=[some (.ref t),some (.int p),some (.ref l),some (.int h)]) T'.length ⟨nth T' p,[],by simp,hen,rfl,(Zd.refl H).upd hl,Zc,rfl⟩ ?_
 rintro m σ Hx ⟨h,L,hm,he,hw,sx,hxl,rfl⟩
 walk_at "rd"
 refine Zy (λz=>?_) λz=>?_
 .cases m with
  |zero=>exact absurd (show h=-1 from he) ⋯
  |succ m =>
   rcases he with he|⟨he1,he2,he3⟩
   .omega
   .obtain⟨j,rfl⟩:=Y8 he1
    have ej:((j:Int)).toNat=j:= ⋯
    rw[ej]at he3
    simp only[Z0,Yd (And.intro he1 he2),ej]at hw
    refine⟨_,fun σ' H' z=>z,ZX hxl,_,hxl,YA (show _<=1000 by rw[ZS];omega) nofun,_,SqT.of (by rw[Zh nlt];exact sx _ _ ht),_,ZY ⋯,m,⋯,nth T' j,L++[j],by simp;omega,he3,by rw[<-hw];simp,sx.upd hl,?_,rfl⟩
    rw[Zc,ZcF];rfl
 .refine k1 l Hx hl sx ?_
  have:Z0 T' m h=[]:=by
   cases m with
   |zero=>rfl
   |succ m=>simp only[Z0];rw[Yb ⋯]
  rw[this,List.append_nil]at hw
  rw[hxl,Zfq,hw];simp[ZD]
theorem ok_from_below {f:Addr}{fd:FuncData} (F:Fun K "from_below" "from_below" s_from_below f fd) (ZhN:Callee P w K mg base "way_up" 1 ["tree","place"] (sp_way_up K mg)) (L:Zjs K mg "from_below" f) (B:BM mg base) (T:Txt K mg):FnOk P w K mg base (CXE P w) 5 f fd ["tree"] (sp_from_below K mg):=by
 refine F.okL L B sc_from_below (λvs H Q E h=>?_) (λcdv A outer s H vs Q E LI hr h=>?_)
 .obtain⟨t,T,rfl,_⟩:=h;rfl
 obtain⟨t,T',rfl,ht,hG,hTb,k1⟩:=h
 refine⟨_,(Zg (Zu (Zm3 (Nc:=["place","tree"]) (js:=[none,some 0]) (pn:="place") (q:=Zfv "from_below") (P:=Zd1 K mg "from_below") rfl hr ⟨rfl,rfl,rfl,rfl,rfl,rfl,rfl,λ_ _ _ _ _ _=>rfl⟩ (λ_ _ _ _ _ _=>(Zk (Zp (K:=K) rfl) rfl T.b_len YC (Za (Zi ZhN ((hr.in1.in1.deeper _).mono nofun) rfl Zx (Za (pv 1) (Za (pv 0) Zb))) Zb))) rfl T.b_sorted (Za (ZiD rfl T.b_range (Za (Zk (Zp (K:=K) rfl) rfl T.b_len YC (Za (pv 0) Zb)) Zb)) Zb) (ZcP (Zjr ⟨LI.code,LI.bm,LI.ql⟩ rfl) (ZcP ZeM Zi2))))),?_⟩
 walk_at "rd"
 have eL:(T'.map V.int).length=T'.length:=Yh ..
 have h40:=hG.1
 refine⟨_,.inr (ht),⋯,⋯,λp1 hp1=>?_⟩
 rw[eL]
 have g1:=(Zd.refl H).Zai (o:=.rng 0 (T'.length:Int)) hp1
 have h1:=Zc (H:=H) (a:=p1) (o:=.rng 0 (T'.length:Int))
 generalize upd H p1 (.rng 0 (T'.length:Int))=H4 at g1 h1⊢
 refine⟨g1 _ _ hTb,λf1 H5 zf s5 LO=>⟨_,s5 _ _ h1,⋯,⋯,LO,dpI T',λi H6 i0 i1 s6=>?_,λps l H6 hpm hpw s6 zl hl=>k1 l ps H6 ((g1.trans s5).free zl) ((g1.trans s5).trans s6) hpm hpw hl⟩⟩
 obtain⟨j,rfl⟩:=Y8 i0
 have g6:=(g1.trans s5).trans s6
 exact⟨t,T',j,rfl,.inr ((g6).Zf5 ht),⋯,⋯,λw H7 zw s7 hw=>⟨w,rfl,_,.inl (SqL.of hw),by rw[Yh];rfl,s7⟩⟩
theorem nthV {ns:List Int}{i:Nat} (h:i<ns.length):(ns.map V.int)[i]?=some (V.int (nth ns i)):=by
 unfold nth
 rw[YG,Yf h,Yg,Yf h];rfl
noncomputable instance (ts:List Int) (ps:List Pt) (i j:Nat):Decidable (fitsA ts ps i j):=by unfold fitsA;exact inferInstance
noncomputable instance (ts:List Int) (ps:List Pt) (i j:Nat):Decidable (fitsB ts ps i j):=by unfold fitsB;exact inferInstance
theorem PairAt.same {H H':Hp}{v:V}{pr:Pt} (h:PairAt H v pr) (s:Zd H H'):PairAt H' v pr:=by
 cases pr with
 |none=>exact h
 |some z=>obtain⟨a,e,h⟩:=h;exact⟨a,e,s _ _ h⟩
theorem PtsAt.same {H H':Hp}{a:Addr}{ps:List Pt} (h:PtsAt H a ps) (s:Zd H H'):PtsAt H' a ps:=by
 obtain⟨vals,h1,h2,h3⟩:=h
 exact⟨vals,s _ _ h1,h2,λi v p e1 e2=>(h3 i v p e1 e2).same s⟩
theorem TblAt.same {H H':Hp}{a:Addr}{tab:List (List Pt)} (h:TblAt H a tab) (s:Zd H H'):TblAt H' a tab:=by
 obtain⟨as,h1,h0,h2,h3⟩:=h
 exact⟨as,s _ _ h1,h0,h2,λi v p e1 e2=>(h3 i v p e1 e2).same s⟩
theorem pt_get {H:Hp}{vals:List V}{ps:List Pt} (hl:vals.length=ps.length) (h:∀(i:Nat) (v:V) (p:Pt),vals[i]?=some v->ps[i]?=some p->PairAt H v p) {j:Nat} (hj:j<ps.length):∃v,atI vals (j:Int)=some v/\PairAt H v (ps.getD j none):=by
 refine⟨vals[j]'⋯,ZeY rfl ⋯,h j _ _ (Yf ⋯) ?_⟩
 rw[Yg,Yf hj];rfl
theorem pt_some {H:Hp}{v:V}{ps:List Pt}{j:Nat} (h:PairAt H v (ps.getD j none)) (hs:(ps.getD j none).isSome=true):∃a,v=.ref a/\H a=some (.tup [.int (ptAt ps j).1,.int (ptAt ps j).2]):=by
 unfold ptAt
 cases e:ps.getD j none with
 |none=>rw[e]at hs;cases hs
 |some z=>rw[e]at h;exact h
theorem pt_non {H:Hp}{v:V}{ps:List Pt}{j:Nat} (h:PairAt H v (ps.getD j none)):v=.non↔(ps.getD j none).isSome=false:=by
 cases e:ps.getD j none with
 |none=>rw[e]at h;exact⟨λ_=>rfl,λ_=>h⟩
 |some z=>rw[e]at h;obtain⟨a,rfl,_⟩:=h;exact⟨λz=>absurd z (λy=>by cases y),λz=>absurd z (by simp)⟩
theorem best_of {ps:List Pt}{ns:List Int}{i:Nat}{P:Nat->Prop} (hm:∀x,x∈ns↔∃j:Nat,x=j/\P j) (hi:i<ns.length):∃j:Nat,nth ns i=j/\P j:=(hm _).mp (by unfold nth;rw[Yg,Yf hi];exact YK hi)
theorem max_ex (P:Nat->Prop) (f:Nat->Int):∀n,(∀j,j<n->¬ P j)\/∃j,(j<n/\P j)/\∀j',j'<n->P j'->f j'<=f j
 |0=>.inl λj h=>absurd h ⋯
 |n+1=>by
  classical
  rcases max_ex P f n with h|⟨j,hj,h⟩
  .by_cases c:P n
   .refine .inr ⟨n,⟨⋯,c⟩,λj' h1 h2=>?_⟩
    by_cases e:j'=n
    .subst e;exact Int.le_refl _
    .exact absurd h2 (h j' ⋯)
   .refine .inl λj' h1 h2=>?_
    by_cases e:j'=n
    .subst e;exact c h2
    .exact h j' ⋯ h2
  .by_cases c:P n/\f j<f n
   .refine .inr ⟨n,⟨⋯,c.1⟩,λj' h1 h2=>?_⟩
    by_cases e:j'=n
    .subst e;exact Int.le_refl _
    .have:=h j' ⋯ h2;omega
   .refine .inr ⟨j,⟨⋯,hj.2⟩,λj' h1 h2=>?_⟩
    by_cases e:j'=n
    .subst e
     exact Int.not_lt.mp λz=>c ⟨h2,z⟩
    .exact h j' ⋯ h2
theorem first_ex (ts:List Int) (tab:List (List Pt)) (i:Nat) (ah:Option Nat):∃r,FirstIs ts tab i ah r:=by
 cases ah with
 |none=>exact⟨_,rfl⟩
 |some c =>
  rcases max_ex (fitsA ts (tab.getD c []) i) (λj=>(ptAt (tab.getD c []) j).1) i with h|⟨j,hj,h⟩
  .exact⟨none,λj hj=>h j hj.1 hj⟩
  .exact⟨some _,⟨j,hj.2,rfl⟩,λj' hj'=>h j' hj'.1 hj'⟩
theorem last_ex (ts:List Int) (tab:List (List Pt)) (i:Nat) (bh:Option Nat):∃r,LastIs ts tab i bh r:=by
 cases bh with
 |none=>exact⟨_,rfl⟩
 |some c =>
  rcases max_ex (fitsB ts (tab.getD c []) i) (λj=>-(ptAt (tab.getD c []) j).2) ts.length with h|⟨j,hj,h⟩
  .exact⟨none,λj hj=>h j hj.2.1 hj⟩
  .exact⟨some _,⟨j,hj.2,rfl⟩,λj' hj'=>by have:=h j' hj'.2.1 hj';omega⟩
theorem tbl_get {H:Hp}{as:List Addr}{tab:List (List Pt)} (hl:as.length=tab.length) (h:∀(i:Nat) (a:Addr) (ps:List Pt),as[i]?=some a->tab[i]?=some ps->PtsAt H a ps) {c:Nat} (hc:c<tab.length):∃a,atI (as.map V.ref) (c:Int)=some (V.ref a)/\PtsAt H a (tab.getD c []):=by
 refine⟨as[c]'⋯,?_,h c _ _ (Yf ⋯) ?_⟩
 .rw[ZeY rfl (by rw[Yh];omega)];simp
 .rw[Yg,Yf hc];rfl
theorem getD_of {vals:List V}{j:Nat}{w:V} (h:atI vals (j:Int)=some w):vals.getD j .non=w:=by
 by_cases hj:j<vals.length
 .unfold atI at h
  rw[Zfn hj]at h
  rw[Yg,show vals[j]?=some w from h];rfl
 .obtain⟨_,_,_,_,_,z⟩:=Zi4 h
  omega
noncomputable def AheadTo (T:List Int) (j v:Nat):Option Nat->Prop
 |none=>∀c,c<v->c<j->nth T c≠v
 |some c=>c<v/\c<j/\nth T c=v
noncomputable def BehindTo (T:List Int) (j v:Nat):Option Nat->Prop
 |none=>∀c,v<c->c<j->nth T c≠v
 |some c=>v<c/\c<j/\nth T c=v
noncomputable def YTo (H:Hp) (as:List Addr) (T:List Int) (j:Nat):Prop:=∀(v:Nat) (a:Addr),as[v]?=some a->∃ah bh,AheadTo T j v ah/\BehindTo T j v bh/\H a=some (.lst [optN ah,optN bh])
theorem AheadTo.skip {T:List Int}{j v:Nat}{o:Option Nat} (h:AheadTo T j v o) (n:¬ (j<v/\nth T j=v)):AheadTo T (j+1) v o:=by
 cases o with
 |none =>
  intro c c1 c2 e
  by_cases z:c=j
  .subst z;exact n ⟨c1,e⟩
  .exact h c c1 ⋯ e
 |some c=>exact⟨h.1,by have:=h.2.1;omega,h.2.2⟩
theorem BehindTo.skip {T:List Int}{j v:Nat}{o:Option Nat} (h:BehindTo T j v o) (n:¬ (v<j/\nth T j=v)):BehindTo T (j+1) v o:=by
 cases o with
 |none =>
  intro c c1 c2 e
  by_cases z:c=j
  .subst z;exact n ⟨c1,e⟩
  .exact h c c1 ⋯ e
 |some c=>exact⟨h.1,by have:=h.2.1;omega,h.2.2⟩
theorem YTo.same {H H':Hp}{as:List Addr}{T:List Int}{j:Nat} (h:YTo H as T j) (s:Zd H H'):YTo H' as T j:=λv a e=>by
 obtain⟨ah,bh,h1,h2,h3⟩:=h v a e
 exact⟨ah,bh,h1,h2,s _ _ h3⟩
theorem YTo.skip {H:Hp}{as:List Addr}{T:List Int}{j:Nat} (h:YTo H as T j) (n:∀v:Nat,v<as.length->nth T j≠v):YTo H as T (j+1):=λv a e=>by
 obtain⟨ah,bh,h1,h2,h3⟩:=h v a e
 have hv:=(Yr.mp e).1
 exact⟨ah,bh,h1.skip λz=>n v hv z.2,h2.skip λz=>n v hv z.2,h3⟩
theorem YTo.set {H:Hp}{as:List Addr}{T:List Int}{j q:Nat}{a:Addr}{ah bh:Option Nat} (h:YTo H as T j) (nd:as.Nodup) (ea:as[q]?=some a) (hA:AheadTo T (j+1) q ah) (hB:BehindTo T (j+1) q bh) (eq:nth T j=q):YTo (upd H a (.lst [optN ah,optN bh])) as T (j+1):=λv b e=>by
 by_cases c:v=q
 .subst c
  rw[ea]at e;cases e
  exact⟨ah,bh,hA,hB,Zc⟩
 .have nb:b≠a:=λz=>by
   subst z
   obtain⟨h1,e1⟩:=Yr.mp ea
   obtain⟨h2,e2⟩:=Yr.mp e
   exact c ((List.getElem_inj nd (h₀:=h2) (h₁:=h1)).mp (e2.trans e1.symm))
  obtain⟨ah',bh',h1,h2,h3⟩:=h v b e
  exact⟨ah',bh',h1.skip λz=>c (by have:=z.2;omega),h2.skip λz=>c (by have:=z.2;omega),by rw[Zh nb];exact h3⟩
theorem fs_none {ts:List Int}{tab:List (List Pt)}{i:Nat}{ah:Option Nat} (h:FsOk ts tab i ah []):FirstIs ts tab i ah none:=by
 cases ah with
 |none=>exact absurd (show([]:List Int)=[(i:Int)]from h) (by simp)
 |some c=>exact λj hj=>absurd ((h _).mpr ⟨j,hj,rfl⟩) (by simp)
theorem fs_some {ts fs:List Int}{tab:List (List Pt)}{i:Nat}{ah:Option Nat}{m:Int} (h:FsOk ts tab i ah fs) (hm:m∈fs) (hx:∀a∈fs,a<=m):FirstIs ts tab i ah (some m):=by
 cases ah with
 |none =>
  have e:fs=[(i:Int)]:=h
  rw[e]at hm
  exact congrArg some (YT.mp hm)
 |some c =>
  obtain⟨j,hj,e⟩:=(h m).mp hm
  exact⟨⟨j,hj,e⟩,λj' hj'=>hx _ ((h _).mpr ⟨j',hj',rfl⟩)⟩
theorem ls_none {ts:List Int}{tab:List (List Pt)}{i:Nat}{bh:Option Nat} (h:LsOk ts tab i bh []):LastIs ts tab i bh none:=by
 cases bh with
 |none=>exact absurd (show([]:List Int)=[(i:Int)]from h) (by simp)
 |some c=>exact λj hj=>absurd ((h _).mpr ⟨j,hj,rfl⟩) (by simp)
theorem ls_some {ts fs:List Int}{tab:List (List Pt)}{i:Nat}{bh:Option Nat}{m:Int} (h:LsOk ts tab i bh fs) (hm:m∈fs) (hx:∀a∈fs,m<=a):LastIs ts tab i bh (some m):=by
 cases bh with
 |none =>
  have e:fs=[(i:Int)]:=h
  rw[e]at hm
  exact congrArg some (YT.mp hm)
 |some c =>
  obtain⟨j,hj,e⟩:=(h m).mp hm
  exact⟨⟨j,hj,e⟩,λj' hj'=>hx _ ((h _).mpr ⟨j',hj',rfl⟩)⟩
theorem both_left {a:Option Int}:bothPt none a=none:=by cases a<;>rfl
theorem both_right {a:Option Int}:bothPt a none=none:=by cases a<;>rfl
theorem dpI_elder {ns T:List Int} (hT:Zq ns T) {p q:Nat} (hp:p<ns.length) (h:nth T p=q):dpI T (p:Int)=dpI T (q:Int)+1:=by
 unfold dpI
 simp only[Jf,Zfq,Yh]
 rw[ZbN hT hp h,YI];omega
theorem nats_nodup (n:Int):(nats n).Nodup:=by
 unfold nats
 exact List.Pairwise.map _ (λa b (h:a≠b)=>λ(e:(a:Int)=(b:Int))=>h ⋯) List.nodup_range
theorem kid_first {ns T qs:List Int} (hT:Zq ns T) (hpm:qs.Perm (nats (T.length:Int))) (hpw:qs.Pairwise λx y=>dpI T y<=dpI T x) {k c v:Nat} (e:qs[k]?=some (v:Int)) (hc:c<T.length) (h:nth T c=v):(c:Int)∈qs.take k:=by
 have eT:=hT.1
 have hd:=dpI_elder hT (p:=c) ⋯ h
 have hm:(c:Int)∈qs:=hpm.mem_iff.mpr (YH.mpr ⟨c,Yq.mpr ⋯,rfl⟩)
 obtain⟨m,hm1,em⟩:=YU hm
 obtain⟨hk,ek⟩:=Yr.mp e
 by_cases hlt:m<k
 .exact List.mem_take_iff_getElem.mpr ⟨m,⋯,em⟩
 .exfalso
  by_cases he:m=k
  .subst he
   rw[em]at ek
   rw[ek]at hd;omega
  .have:=List.pairwise_iff_getElem.mp hpw k m hk hm1 ⋯
   rw[em,ek]at this
   omega
noncomputable def DoneAt (T ts:List Int) (tab:List (List Pt)) (v:Nat):Prop:=(tab.getD v []).length=ts.length/\∀i,i<ts.length->∃ah bh,AheadIs T v ah/\BehindIs T v bh/\RuledIs ts tab i ah bh ((tab.getD v []).getD i none)
theorem getD_set {tab:List (List Pt)}{v c:Nat}{rs:List Pt} (h:c≠v):(tab.set v rs).getD c []=tab.getD c []:=by
 rw[Yg,Yg,List.getElem?_set_ne (Ne.symm h)]
theorem getD_setS {tab:List (List Pt)}{v:Nat}{rs:List Pt} (h:v<tab.length):(tab.set v rs).getD v []=rs:=by
 rw[Yg,List.getElem?_set_self h];rfl
theorem ruled_set {T ts:List Int}{tab:List (List Pt)}{v w i:Nat}{rs:List Pt}{ah bh:Option Nat}{p:Pt} (hA:AheadIs T w ah) (hB:BehindIs T w bh) (hk:∀c,c<T.length->nth T c=w->c≠v) (h:RuledIs ts tab i ah bh p):RuledIs ts (tab.set v rs) i ah bh p:=by
 obtain⟨a,b,h1,h2,h3⟩:=h
 refine⟨a,b,?_,?_,h3⟩
 .cases ah with
  |none=>exact h1
  |some c =>
   unfold FirstIs at h1⊢
   dsimp only at h1⊢
   rw[getD_set (hk c hA.2.1 hA.2.2)];exact h1
 .cases bh with
  |none=>exact h2
  |some c =>
   unfold LastIs at h2⊢
   dsimp only at h2⊢
   rw[getD_set (hk c hB.2.1 hB.2.2)];exact h2
theorem DoneAt.set {T ts:List Int}{tab:List (List Pt)}{v w:Nat}{rs:List Pt} (h:DoneAt T ts tab w) (hw:w≠v) (hk:∀c,c<T.length->nth T c=w->c≠v):DoneAt T ts (tab.set v rs) w:=by
 unfold DoneAt
 rw[getD_set hw]
 refine⟨h.1,λi hi=>?_⟩
 obtain⟨ah,bh,hA,hB,hR⟩:=h.2 i hi
 exact⟨ah,bh,hA,hB,ruled_set hA hB hk hR⟩
theorem DoneAt.new {T ts:List Int}{tab:List (List Pt)}{v:Nat}{rs:List Pt}{ah bh:Option Nat} (hv:v<tab.length) (hl:rs.length=ts.length) (hA:AheadIs T v ah) (hB:BehindIs T v bh) (hk:∀c,c<T.length->nth T c=v->c≠v) (h:∀i,i<ts.length->RuledIs ts tab i ah bh (rs.getD i none)):DoneAt T ts (tab.set v rs) v:=by
 unfold DoneAt
 rw[getD_setS hv]
 exact⟨hl,λi hi=>⟨ah,bh,hA,hB,ruled_set hA hB hk (h i hi)⟩⟩
theorem PairAt.excL {H H':Hp}{v:V}{pr:Pt}{l:Addr}{xs:List V} (h:PairAt H v pr) (hl:H l=some (.lst xs)) (s:Exc l H H'):PairAt H' v pr:=by
 cases pr with
 |none=>exact h
 |some z =>
  obtain⟨a,e,h⟩:=h
  exact⟨a,e,s _ _ (λy=>by rw[y,hl]at h;cases h) h⟩
theorem lmin (f:Nat->Int) (a:Nat):∀d,∃m,a<=m/\m<=a+d/\(∀r,a<=r->r<=a+d->f m<=f r)/\∀r,a<=r->r<m->f m<f r
 |0=>⟨a,⋯,⋯,λr h1 h2=>by rw[show r=a by omega];exact Int.le_refl _,λr h1 h2=>absurd h2 ⋯⟩
 |d+1=>by
  obtain⟨m,h1,h2,h3,h4⟩:=lmin f a d
  by_cases c:f (a+(d+1))<f m
  .refine⟨a+(d+1),⋯,⋯,λr r1 r2=>?_,λr r1 r2=>?_⟩
   .by_cases e:r=a+(d+1)
    .rw[e];exact Int.le_refl _
    .have:=h3 r r1 ⋯;omega
   .have:=h3 r r1 ⋯;omega
  .refine⟨m,h1,⋯,λr r1 r2=>?_,h4⟩
   by_cases e:r=a+(d+1)
   .rw[e];omega
   .exact h3 r r1 ⋯
theorem kid_ahead {ns T:List Int} (hT:Zq ns T) {c1 c2 v:Nat} (h12:c1<c2) (h2v:c2<v) (hv:v<ns.length) (e1:nth T c1=v) (e2:nth T c2=v):False:=by
 obtain⟨m,m1,m2,m3,m4⟩:=lmin (nth ns) c1 (c2-c1)
 have E1:ZC (nth ns) ns.length c1 (v:Int):=e1▸hT.2 c1 ⋯
 have E2:ZC (nth ns) ns.length c2 (v:Int):=e2▸hT.2 c2 ⋯
 have hv1:Over (nth ns) v c1:=(Zbg ⋯ hv E1).mpr (.inl rfl)
 have lt:nth ns v<nth ns m:=by
  rcases hv1 with h|h
  .omega
  .exact h.2 m ⋯ ⋯
 have hm:Over (nth ns) m v:=by
  by_cases c:m=c1
  .have:Over (nth ns) m c2:=.inl ⟨⋯,λr r1 r2=>m3 r ⋯ ⋯⟩
   exact((Zbg ⋯ ⋯ E2).mp this).resolve_left ⋯
  .have:Over (nth ns) m c1:=.inr ⟨⋯,λr r1 r2=>m4 r r1 r2⟩
   exact((Zbg ⋯ ⋯ E1).mp this).resolve_left ⋯
 rcases hm with h|h
 .have:=h.2 v ⋯ ⋯;omega
 .omega
theorem kid_behind {ns T:List Int} (hT:Zq ns T) {c1 c2 v:Nat} (hv1:v<c1) (h12:c1<c2) (hc:c2<ns.length) (e1:nth T c1=v) (e2:nth T c2=v):False:=by
 obtain⟨m,m1,m2,m3,m4⟩:=lmin (nth ns) c1 (c2-c1)
 have E1:ZC (nth ns) ns.length c1 (v:Int):=e1▸hT.2 c1 ⋯
 have E2:ZC (nth ns) ns.length c2 (v:Int):=e2▸hT.2 c2 ⋯
 have hv2:Over (nth ns) v c2:=(Zbg ⋯ ⋯ E2).mpr (.inl rfl)
 have le:nth ns v<=nth ns m:=by
  rcases hv2 with h|h
  .exact h.2 m ⋯ ⋯
  .omega
 have hm:Over (nth ns) m v:=by
  by_cases c:m=c1
  .have:Over (nth ns) m c2:=.inl ⟨⋯,λr r1 r2=>m3 r ⋯ ⋯⟩
   exact((Zbg ⋯ ⋯ E2).mp this).resolve_left ⋯
  .have:Over (nth ns) m c1:=.inr ⟨⋯,λr r1 r2=>m4 r r1 r2⟩
   exact((Zbg ⋯ ⋯ E1).mp this).resolve_left ⋯
 rcases hm with h|h
 .omega
 .have:=h.2 v ⋯ ⋯;omega
theorem ahead_uniq {T:List Int} (hG:Zbh T) {v:Nat}{o1 o2:Option Nat} (hv:v<T.length) (h1:AheadIs T v o1) (h2:AheadIs T v o2):o1=o2:=by
 obtain⟨_,ns,hT⟩:=hG
 have eT:=hT.1
 cases o1 with
 |none =>
  cases o2 with
  |none=>rfl
  |some c=>exact absurd h2.2.2 (h1 c h2.1 h2.2.1)
 |some c =>
  cases o2 with
  |none=>exact absurd h1.2.2 (h2 c h1.1 h1.2.1)
  |some d =>
   by_cases z:c=d
   .rw[z]
   .exfalso
    rcases Nat.lt_or_gt_of_ne z with z|z
    .exact kid_ahead hT z h2.1 ⋯ h1.2.2 h2.2.2
    .exact kid_ahead hT z h1.1 ⋯ h2.2.2 h1.2.2
theorem behind_uniq {T:List Int} (hG:Zbh T) {v:Nat}{o1 o2:Option Nat} (h1:BehindIs T v o1) (h2:BehindIs T v o2):o1=o2:=by
 obtain⟨_,ns,hT⟩:=hG
 have eT:=hT.1
 cases o1 with
 |none =>
  cases o2 with
  |none=>rfl
  |some c=>exact absurd h2.2.2 (h1 c h2.1 h2.2.1)
 |some c =>
  cases o2 with
  |none=>exact absurd h1.2.2 (h2 c h1.1 h1.2.1)
  |some d =>
   by_cases z:c=d
   .rw[z]
   .exfalso
    rcases Nat.lt_or_gt_of_ne z with z|z
    .exact kid_behind hT h1.1 z (by have:=h2.2.1;omega) h1.2.2 h2.2.2
    .exact kid_behind hT h2.1 z (by have:=h1.2.1;omega) h2.2.2 h1.2.2
theorem first_uniq {ts:List Int}{t1 t2:List (List Pt)}{i:Nat}{ah:Option Nat}{r1 r2:Option Int} (he:∀c,ah=some c->t1.getD c []=t2.getD c []) (h1:FirstIs ts t1 i ah r1) (h2:FirstIs ts t2 i ah r2):r1=r2:=by
 cases ah with
 |none=>exact(show r1=_ from h1).trans (show r2=_ from h2).symm
 |some c =>
  unfold FirstIs at h1 h2
  dsimp only at h1 h2
  rw[he c rfl]at h1
  cases r1 with
  |none =>
   cases r2 with
   |none=>rfl
   |some b=>obtain⟨⟨j,hj,_⟩,_⟩:=h2;exact absurd hj (h1 j)
  |some a =>
   cases r2 with
   |none=>obtain⟨⟨j,hj,_⟩,_⟩:=h1;exact absurd hj (h2 j)
   |some b =>
    obtain⟨⟨j,hj,ej⟩,hj'⟩:=h1
    obtain⟨⟨k,hk,ek⟩,hk'⟩:=h2
    have x1:=hj' k hk
    have x2:=hk' j hj
    rw[show a=b by omega]
theorem last_uniq {ts:List Int}{t1 t2:List (List Pt)}{i:Nat}{ah:Option Nat}{r1 r2:Option Int} (he:∀c,ah=some c->t1.getD c []=t2.getD c []) (h1:LastIs ts t1 i ah r1) (h2:LastIs ts t2 i ah r2):r1=r2:=by
 cases ah with
 |none=>exact(show r1=_ from h1).trans (show r2=_ from h2).symm
 |some c =>
  unfold LastIs at h1 h2
  dsimp only at h1 h2
  rw[he c rfl]at h1
  cases r1 with
  |none =>
   cases r2 with
   |none=>rfl
   |some b=>obtain⟨⟨j,hj,_⟩,_⟩:=h2;exact absurd hj (h1 j)
  |some a =>
   cases r2 with
   |none=>obtain⟨⟨j,hj,_⟩,_⟩:=h1;exact absurd hj (h2 j)
   |some b =>
    obtain⟨⟨j,hj,ej⟩,hj'⟩:=h1
    obtain⟨⟨k,hk,ek⟩,hk'⟩:=h2
    have x1:=hj' k hk
    have x2:=hk' j hj
    rw[show a=b by omega]
theorem tab_uniq {T ts:List Int}{t1 t2:List (List Pt)} (hG:Zbh T) (h1:TabIs T ts t1) (h2:TabIs T ts t2):t1=t2:=by
 obtain⟨h40,ns,hT⟩:=id hG
 have eT:=hT.1
 have row:∀n v:Nat,v<T.length->T.length<dpI T (v:Int)+n->t1.getD v []=t2.getD v []:=λn=>by
  induction n with
  |zero =>
   intro v hv hn
   exfalso
   have:=Zj7 T T.length (nth T v)
   unfold dpI at hn
   rw[Jf,Zfq,Yh]at hn
   unfold way at hn
   omega
  |succ n ih =>
   intro v hv hn
   have kid:∀c,c<T.length->nth T c=v->t1.getD c []=t2.getD c []:=λc hc e=>by
    have:=dpI_elder hT (p:=c) ⋯ e
    exact ih c hc ⋯
   obtain⟨l1,q1⟩:=h1.2 v hv
   obtain⟨l2,q2⟩:=h2.2 v hv
   refine List.ext_getElem ⋯ λi i1 i2=>?_
   obtain⟨a1,b1,A1,B1,f1,g1,F1,G1,e1⟩:=q1 i ⋯
   obtain⟨a2,b2,A2,B2,f2,g2,F2,G2,e2⟩:=q2 i ⋯
   have ea:=ahead_uniq hG hv A1 A2
   have eb:=behind_uniq hG B1 B2
   subst ea eb
   have ef:=first_uniq (λc z=>by subst z;exact kid c A1.2.1 A1.2.2) F1 F2
   have eg:=last_uniq (λc z=>by subst z;exact kid c B1.2.1 B1.2.2) G1 G2
   subst ef eg
   have:=e1.trans e2.symm
   rw[Yg,Yg (l:=t2.getD v []),Yf i1,Yf i2]at this
   exact this
 refine List.ext_getElem (by rw[h1.1,h2.1]) λv v1 v2=>?_
 have hv:v<T.length:=by rw[<-h1.1];exact v1
 have:=row (T.length+1) v hv (by unfold dpI;omega)
 rw[Yg,Yg,Yf v1,Yf v2]at this
 exact this
theorem ok_best_ahead {f:Addr}{fd:FuncData} (F:Fun K "best_ahead" "best_ahead" s_best_ahead f fd) (L:Zjs K mg "best_ahead" f) (B:BM mg base) (T:Txt K mg):FnOk P w K mg base (CXE P w) 1 f fd ["text","pairs","i"] (sp_best_ahead K mg):=by
 refine F.okL L B sc_best_ahead (λvs H Q E h=>?_) (λcdv A outer s H vs Q E LI hr h=>?_)
 .obtain⟨x,q,ts,ps,i,rfl,_⟩:=h;rfl
 obtain⟨x,q,ts,ps,i,rfl,hx,hq,hl,h16,hi,hTb,k1⟩:=h
 refine⟨_,(Ze (Z3 (i:=3) ["j","i","pairs","text"] [none,some 2,some 1,some 0] sc_best_ahead.nd rfl (Or.inl rfl) rfl rfl rfl (ZJ rfl T.b_range (Za (pv 2) Zb)) (λ_ _ _ _ _=>(Zn (i:=0) (show(["j","i","pairs","text"]:List Str).Nodup from by decide +kernel) rfl (Or.inl rfl))) (λ_ _ _ _ _=>Zaa (PW.pt (ZbK (Zj Zay (Zm (r:=rIxL K) Zr (pv 2) (pv 0) (λ_ _=>rfl)) ZP (Zl _)) (ZbK (Zj ZcC (Zm (ZeZ (K:=K) rfl) (pv 3) (pv 0) (λ_ _=>rfl)) (Zm (ZeZ (K:=K) rfl) (pv 3) (pv 1) (λ_ _=>rfl)) (Zl _)) (Zbq (Zj ZcB (Zm (r:=rIxT K) ZI (Zm (r:=rIxL K) Zr (pv 2) (pv 0) (λ_ _=>rfl)) Zf (λ_ _=>rfl)) (pv 1) (Zl _))))))) (λ_ _ _ _ _=>(pv 0)) Zt)
   (Zg (Zu (ZoB (Nc:=["j","pairs"]) (js:=[none,some 1]) (pn:="j") (q:=Zfv "best_ahead") (P:=Zd1 K mg "best_ahead") rfl hr ⟨rfl,rfl,rfl,rfl,rfl,rfl,rfl,λ_ _ _ _ _ _=>rfl⟩ (λ_ _ _ _ _ _=>(Zm (r:=rIxT K) ZI (Zm (r:=rIxL K) Zr (pv 1) (pv 0) (λ_ _=>rfl)) Zf (λ_ _=>rfl))) rfl T.b_max (Za (pv 3) Zb) (ZcP (Zjr ⟨LI.code,LI.bm,LI.ql⟩ rfl) (ZcP ZP Zi2)))))),?_⟩
 walk_at "rd"
 obtain⟨vals,hqv,hvl,hvp⟩:=hq
 refine⟨⋯,⋯,?_⟩
 rw[show((i:Nat):Int).toNat=i by omega]
 refine Zad (n:=i) (λj=>decide (fitsA ts ps i j)) (λj=>V.int (j:Int)) (YA (show _<=1000 by omega) nofun) (λj Hz s hj=>hj) (λHz s=>Ye _) ?_ ?_
 .rintro j y Hz Hw hj sz ⟨rfl,rfl⟩
  rw[show(0:Int)+(j:Int)=((j:Nat):Int) by omega]
  walk_at "rd"
  obtain⟨v,ev,hv⟩:=pt_get hvl hvp (show j<ps.length by omega)
  have hv:=hv.same sz
  refine⟨_,SqL.of (sz _ _ hqv),_,ev,Zy (λc=>?_) λc=>?_⟩
  .have hs:(ps.getD j none).isSome=true:=by
    cases e:(ps.getD j none).isSome with
    |true=>rfl
    |false=>exact absurd ((pt_non hv).mpr e) c
   obtain⟨a,rfl,ha⟩:=pt_some hv hs
   refine⟨_,sz.q hx,_,ZY ⋯,_,sz.q hx,_,ZY ⋯,_,rfl,_,rfl,Zy (λc2=>?_) λc2=>CF.skip hj (Yt λz=>c2 z.2.2.1) sz⟩
   refine⟨_,SqL.of (sz _ _ hqv),_,ev,a,rfl,_,SqT.of ha,_,rfl,_,rfl,?_⟩
   exact Zy (λc3=>CF.take hj (Yu ⟨hj,hs,c2,c3⟩) rfl sz) λc3=>CF.skip hj (Yt λz=>c3 z.2.2.2) sz
  .refine CF.skip hj (Yt λz=>?_) sz
   have z1:=z.2.1
   rw[(pt_non hv).mp (Decidable.of_not_not c)]at z1
   cases z1
 .intro lf Hz sz hlf
  have eN:(((List.range i).filter λj=>decide (fitsA ts ps i j)).map λ(j:Nat)=>V.int (j:Int))=(((List.range i).filter λj=>decide (fitsA ts ps i j)).map λ(j:Nat)=>(j:Int)).map V.int:=by rw[YZ];rfl
  rw[eN]
  have hmem:∀y,y∈(((List.range i).filter λj=>decide (fitsA ts ps i j)).map λ(j:Nat)=>(j:Int))↔∃j:Nat,y=j/\fitsA ts ps i j:=λy=>by
   rw[YH]
   constructor
   .rintro⟨j,hj,rfl⟩
    exact⟨j,rfl,Y2 (YO.mp hj).2⟩
   .rintro⟨j,rfl,hj⟩
    exact⟨j,YO.mpr ⟨Yq.mpr hj.1,Yu hj⟩,rfl⟩
  generalize (((List.range i).filter λj=>decide (fitsA ts ps i j)).map λ(j:Nat)=>(j:Int))=ns at hmem⊢
  have g1:=sz.Zai (o:=.lst (ns.map V.int)) hlf
  have h1:=Zc (H:=Hz) (a:=lf) (o:=.lst (ns.map V.int))
  generalize upd Hz lf (.lst (ns.map V.int))=H1 at g1 h1⊢
  refine⟨Z4.same hTb g1,λf1 H5 zf s5 LO=>⟨lf,rfl,ns,s5 _ _ h1,LO,λn=>(ptAt ps n.toNat).1,λn H6 hn s6=>?_,λhns H6 s6=>?_,λa H6 ha hB s6=>?_⟩⟩
  .obtain⟨j,rfl,hj⟩:=(hmem n).mp hn
   obtain⟨v,ev,hv⟩:=pt_get hvl hvp (show j<ps.length by have:=hj.1;omega)
   have sA:=g1.trans (s5.trans s6)
   obtain⟨a,rfl,ha⟩:=pt_some (hv.same sA) hj.2.1
   exact⟨_,SqL.of (sA _ _ hqv),_,ev,a,rfl,_,SqT.of ha,_,rfl,by simp,Zd.refl _⟩
  .exact k1 none H6 (g1.trans (s5.trans s6)) λj hj=>by
    have:=(hmem (j:Int)).mpr ⟨j,rfl,hj⟩
    rw[hns]at this;cases this
  .obtain⟨j,e,hj⟩:=best_of (ps:=ps) hmem ha
   rw[e]
   refine k1 (some j) H6 (g1.trans (s5.trans s6)) ⟨hj,λj' hj'=>?_⟩
   obtain⟨b,hb,eb⟩:=YU ((hmem (j':Int)).mpr ⟨j',rfl,hj'⟩)
   have:=(hB b hb).1
   rw[e,show nth ns b=(j':Int) by unfold nth;rw[Yg,Yf hb,eb];rfl]at this
   simpa using this
theorem ok_best_behind {f:Addr}{fd:FuncData} (F:Fun K "best_behind" "best_behind" s_best_behind f fd) (L:Zjs K mg "best_behind" f) (B:BM mg base) (T:Txt K mg):FnOk P w K mg base (CXE P w) 1 f fd ["text","pairs","i"] (sp_best_behind K mg):=by
 refine F.okL L B sc_best_behind (λvs H Q E h=>?_) (λcdv A outer s H vs Q E LI hr h=>?_)
 .obtain⟨x,q,ts,ps,i,rfl,_⟩:=h;rfl
 obtain⟨x,q,ts,ps,i,rfl,hx,hq,hl,h16,hi,hTb,k1⟩:=h
 refine⟨_,(Ze (Z3 (i:=3) ["j","i","pairs","text"] [none,some 2,some 1,some 0] sc_best_behind.nd rfl (Or.inl rfl) rfl rfl rfl (Zf1 rfl T.b_range (Za (Zv Zav (pv 2) Zf) (Za (Zk (Zp (K:=K) rfl) rfl T.b_len YC (Za (pv 0) Zb)) Zb))) (λ_ _ _ _ _=>(Zn (i:=0) (show(["j","i","pairs","text"]:List Str).Nodup from by decide +kernel) rfl (Or.inl rfl))) (λ_ _ _ _ _=>Zaa (PW.pt (ZbK (Zj Zay (Zm (r:=rIxL K) Zr (pv 2) (pv 0) (λ_ _=>rfl)) ZP (Zl _)) (ZbK (Zj Ziw (Zm (ZeZ (K:=K) rfl) (pv 3) (pv 0) (λ_ _=>rfl)) (Zm (ZeZ (K:=K) rfl) (pv 3) (pv 1) (λ_ _=>rfl)) (Zl _)) (Zbq (Zj ZcC (Zm (r:=rIxT K) ZI (Zm (r:=rIxL K) Zr (pv 2) (pv 0) (λ_ _=>rfl)) Zf (λ_ _=>rfl)) (pv 1) (Zl _))))))) (λ_ _ _ _ _=>(pv 0)) Zt)
   (Zg (Zu (ZoC (Nc:=["j","pairs"]) (js:=[none,some 1]) (pn:="j") (q:=Zfv "best_behind") (P:=Zd1 K mg "best_behind") rfl hr ⟨rfl,rfl,rfl,rfl,rfl,rfl,rfl,λ_ _ _ _ _ _=>rfl⟩ (λ_ _ _ _ _ _=>(Zm (r:=rIxT K) ZI (Zm (r:=rIxL K) Zr (pv 1) (pv 0) (λ_ _=>rfl)) Zf (λ_ _=>rfl))) rfl T.b_min (Za (pv 3) Zb) (ZcP (Zjr ⟨LI.code,LI.bm,LI.ql⟩ rfl) (ZcP ZP Zi2)))))),?_⟩
 walk_at "rd"
 obtain⟨vals,hqv,hvl,hvp⟩:=hq
 have eX:(ts.map V.int).length=ts.length:=Yh ..
 refine⟨_,hx,⋯,⋯,⋯,⋯,?_⟩
 rw[eX,show(((ts.length:Nat):Int)-((i:Int)+1)).toNat=ts.length-(i+1) by omega]
 refine Zad (n:=ts.length-(i+1)) (λk=>decide (fitsB ts ps i (i+1+k))) (λk=>V.int ((i+1+k:Nat):Int)) (YA (show _<=1000 by omega) nofun) (λj Hz s hj=>hj) (λHz s=>Ye _) ?_ ?_
 .rintro k y Hz Hw hk sz ⟨rfl,rfl⟩
  rw[show(i:Int)+1+(k:Int)=((i+1+k:Nat):Int) by omega]
  have hj1:i<i+1+k:= ⋯
  have hj2:i+1+k<ts.length:= ⋯
  generalize hjg:i+1+k=j at hj1 hj2⊢
  walk_at "rd"
  obtain⟨v,ev,hv⟩:=pt_get hvl hvp (show j<ps.length by omega)
  have hv:=hv.same sz
  refine⟨_,SqL.of (sz _ _ hqv),_,ev,Zy (λc=>?_) λc=>?_⟩
  .have hs:(ps.getD j none).isSome=true:=by
    cases e:(ps.getD j none).isSome with
    |true=>rfl
    |false=>exact absurd ((pt_non hv).mpr e) c
   obtain⟨a,rfl,ha⟩:=pt_some hv hs
   refine⟨_,sz.q hx,_,ZY ⋯,_,sz.q hx,_,ZY ⋯,_,rfl,_,rfl,Zy (λc2=>?_) λc2=>CF.skip hk (Yt λz=>c2 (hjg▸z).2.2.2.1) sz⟩
   refine⟨_,SqL.of (sz _ _ hqv),_,ev,a,rfl,_,SqT.of ha,_,rfl,_,rfl,?_⟩
   exact Zy (λc3=>CF.take hk (Yu (by rw[hjg];exact⟨hj1,hj2,hs,c2,c3⟩)) (by rw[hjg]) sz) λc3=>CF.skip hk (Yt λz=>c3 (hjg▸z).2.2.2.2) sz
  .refine CF.skip hk (Yt λz=>?_) sz
   rw[hjg]at z
   have z1:=z.2.2.1
   rw[(pt_non hv).mp (Decidable.of_not_not c)]at z1
   cases z1
 .intro lf Hz sz hlf
  have eN:(((List.range (ts.length-(i+1))).filter λk=>decide (fitsB ts ps i (i+1+k))).map λ(k:Nat)=>V.int ((i+1+k:Nat):Int))=(((List.range (ts.length-(i+1))).filter λk=>decide (fitsB ts ps i (i+1+k))).map λ(k:Nat)=>((i+1+k:Nat):Int)).map V.int:=by rw[YZ];rfl
  rw[eN]
  have hmem:∀y,y∈(((List.range (ts.length-(i+1))).filter λk=>decide (fitsB ts ps i (i+1+k))).map λ(k:Nat)=>((i+1+k:Nat):Int))↔∃j:Nat,y=j/\fitsB ts ps i j:=λy=>by
   rw[YH]
   constructor
   .rintro⟨k,hk,rfl⟩
    exact⟨i+1+k,rfl,Y2 (YO.mp hk).2⟩
   .rintro⟨j,rfl,hj⟩
    have h1:=hj.1
    have h2:=hj.2.1
    refine⟨j-(i+1),YO.mpr ⟨Yq.mpr ⋯,Yu ?_⟩,⋯⟩
    rw[show i+1+(j-(i+1))=j by omega];exact hj
  generalize (((List.range (ts.length-(i+1))).filter λk=>decide (fitsB ts ps i (i+1+k))).map λ(k:Nat)=>((i+1+k:Nat):Int))=ns at hmem⊢
  have g1:=sz.Zai (o:=.lst (ns.map V.int)) hlf
  have h1:=Zc (H:=Hz) (a:=lf) (o:=.lst (ns.map V.int))
  generalize upd Hz lf (.lst (ns.map V.int))=H1 at g1 h1⊢
  refine⟨Z4.same hTb g1,λf1 H5 zf s5 LO=>⟨lf,rfl,ns,s5 _ _ h1,LO,λn=>(ptAt ps n.toNat).2,λn H6 hn s6=>?_,λhns H6 s6=>?_,λa H6 ha hB s6=>?_⟩⟩
  .obtain⟨j,rfl,hj⟩:=(hmem n).mp hn
   obtain⟨v,ev,hv⟩:=pt_get hvl hvp (show j<ps.length by have:=hj.2.1;omega)
   have sA:=g1.trans (s5.trans s6)
   obtain⟨a,rfl,ha⟩:=pt_some (hv.same sA) hj.2.2.1
   exact⟨_,SqL.of (sA _ _ hqv),_,ev,a,rfl,_,SqT.of ha,_,rfl,by simp,Zd.refl _⟩
  .exact k1 none H6 (g1.trans (s5.trans s6)) λj hj=>by
    have:=(hmem (j:Int)).mpr ⟨j,rfl,hj⟩
    rw[hns]at this;cases this
  .obtain⟨j,e,hj⟩:=best_of (ps:=ps) hmem ha
   rw[e]
   refine k1 (some j) H6 (g1.trans (s5.trans s6)) ⟨hj,λj' hj'=>?_⟩
   obtain⟨b,hb,eb⟩:=YU ((hmem (j':Int)).mpr ⟨j',rfl,hj'⟩)
   have:=(hB b hb).1
   rw[e,show nth ns b=(j':Int) by unfold nth;rw[Yg,Yf hb,eb];rfl]at this
   simpa using this
theorem ok_pair_at {f:Addr}{fd:FuncData} (F:Fun K "pair_at" "pair_at" s_pair_at f fd) (Zar:Callee P w K mg base "best_ahead" 1 ["text","pairs","i"] (sp_best_ahead K mg)) (Zae:Callee P w K mg base "best_behind" 1 ["text","pairs","i"] (sp_best_behind K mg)) (T:Txt K mg):FnOk P w K mg base (CXE P w) 2 f fd ["text","table","young","i"] (sp_pair_at K mg):=by
 refine F.okX sc_pair_at (λvs H Q E h=>?_) (λcdv A outer s H vs Q E hr h=>?_)
 .obtain⟨x,l,y,ts,tab,ah,bh,i,rfl,_⟩:=h;rfl
 obtain⟨x,l,y,ts,tab,ah,bh,i,rfl,hx,hl,hy,ka,kb,h16,hi,hT1,hT2,k1⟩:=h
 refine⟨_,(Ze (ZcM (pv 2) (ZoD (K:=K) rfl (n:=2) rfl (ZV (Zn (i:=4) sc_pair_at.nd rfl (Or.inl rfl)) (ZV (Zn (i:=5) sc_pair_at.nd rfl (Or.inl rfl)) ZcL))))
   (Ze (Zrr (pv 3) (Zn (i:=6) sc_pair_at.nd rfl (Or.inl rfl)) (Zn (i:=7) sc_pair_at.nd rfl (Or.inl rfl)))
   (Ze (ZN (Zj Zay (pv 4) ZP (Zl _)) (Ze (Zs (i:=8) sc_pair_at.nd rfl (Or.inl rfl) (Zi Zar (hr.mono nofun) rfl Zx (Za (pv 0) (Za (Zm Zr (pv 1) (pv 4) (λ_ _=>rfl)) (Za (pv 3) Zb)))))
   (Ze (ZN (Zj ZkQ (pv 8) ZP (Zl _)) (Zg (Zu ZP)) ZA)
   (Zg (Zs (i:=6) sc_pair_at.nd rfl (Or.inl rfl) (Zm ZI (Zm Zr (Zm Zr (pv 1) (pv 4) (λ_ _=>rfl)) (pv 8) (λ_ _=>rfl)) Zf (λ_ _=>rfl)))))) ZA)
   (Ze (ZN (Zj Zay (pv 5) ZP (Zl _)) (Ze (Zs (i:=8) sc_pair_at.nd rfl (Or.inl rfl) (Zi Zae (hr.mono nofun) rfl Zx (Za (pv 0) (Za (Zm Zr (pv 1) (pv 5) (λ_ _=>rfl)) (Za (pv 3) Zb)))))
   (Ze (ZN (Zj ZkQ (pv 8) ZP (Zl _)) (Zg (Zu ZP)) ZA)
   (Zg (Zs (i:=7) sc_pair_at.nd rfl (Or.inl rfl) (Zm ZI (Zm Zr (Zm Zr (pv 1) (pv 5) (λ_ _=>rfl)) (pv 8) (λ_ _=>rfl)) Zf (λ_ _=>rfl)))))) ZA)
   (Zg (Zu (Zaw (Za (pv 6) (Za (pv 7) Zb))))))))),?_⟩
 obtain⟨as,hla,_,hal,hap⟩:=hl
 refine Zaj (fun σ Hx=>σ=[some (.ref x),some (.ref l),some (.ref y),some (.int (i:Int)),some (optN ah),some (optN bh),none,none,none]/\Hx=H) (λR hR=>?_) ?_
 .walk_at "rd"
  exact⟨_,SqL.of hy,rfl,_,_,rfl,_,_,rfl,rfl,hR _ _ ⟨rfl,rfl⟩⟩
 rintro σ Hx ⟨rfl,rfl⟩
 refine Zaj (fun σ Hy=>σ=[some (.ref x),some (.ref l),some (.ref y),some (.int (i:Int)),some (optN ah),some (optN bh),some (.int (i:Int)),some (.int (i:Int)),none]/\Hy=Hx) (λR hR=>?_) ?_
 .walk_at "rd"
  exact hR _ _ ⟨rfl,rfl⟩
 rintro σ Hz ⟨rfl,rfl⟩
 refine Zaj (fun σ Hy=>∃(a:Int) (v8:Option V),σ=[some (.ref x),some (.ref l),some (.ref y),some (.int (i:Int)),some (optN ah),some (optN bh),some (.int a),some (.int (i:Int)),v8]/\FirstIs ts tab i ah (some a)/\Zd Hz Hy) (λR hR=>?_) ?_
 .walk_at "rd"
  cases ah with
  |none=>exact Zy (λz=>absurd rfl z) λ_=>hR _ _ ⟨_,none,rfl,rfl,Zd.refl Hz⟩
  |some c =>
   obtain⟨a,ea,ha⟩:=tbl_get hal hap ka.1
   refine Zy (λ_=>⟨_,_,rfl,SqL.of hla,_,ea,x,a,ts,tab.getD c [],i,rfl,hx,ha,ka.2,h16,hi,hT1,λr H1 s1 hB=>?_⟩) λz=>absurd z (by simp[optN])
   cases r with
   |none =>
    refine Zy (λ_=>?_) λz=>absurd rfl z
    obtain⟨b,hb⟩:=last_ex ts tab i bh
    exact k1 .non none H1 s1 ⟨none,b,hB,hb,by cases b<;>rfl⟩ rfl
   |some j =>
    refine Zy (λz=>by cases z) λ_=>?_
    have ha1:=ha.same s1
    obtain⟨vals,hqv,hvl,hvp⟩:=ha1
    obtain⟨v,ev,hv⟩:=pt_get hvl hvp (show j<(tab.getD c []).length by have:=hB.1.1;have:=ka.2;omega)
    obtain⟨u,rfl,hu⟩:=pt_some hv hB.1.2.1
    exact⟨_,_,rfl,SqL.of (s1 _ _ hla),_,ea,a,rfl,_,_,rfl,SqL.of hqv,_,ev,u,rfl,_,SqT.of hu,_,rfl,hR _ _ ⟨_,_,rfl,⟨⟨j,hB.1,rfl⟩,hB.2⟩,s1⟩⟩
 rintro σ H1 ⟨a,v8,rfl,hFa,s1⟩
 refine Zaj (fun σ Hy=>∃(b:Int) (v8:Option V),σ=[some (.ref x),some (.ref l),some (.ref y),some (.int (i:Int)),some (optN ah),some (optN bh),some (.int a),some (.int b),v8]/\LastIs ts tab i bh (some b)/\Zd Hz Hy) (λR hR=>?_) ?_
 .walk_at "rd"
  cases bh with
  |none=>exact Zy (λz=>absurd rfl z) λ_=>hR _ _ ⟨_,v8,rfl,rfl,s1⟩
  |some c =>
   obtain⟨d,ea,ha⟩:=tbl_get hal hap kb.1
   refine Zy (λ_=>⟨_,_,rfl,SqL.of (s1 _ _ hla),_,ea,x,d,ts,tab.getD c [],i,rfl,s1.q hx,ha.same s1,kb.2,h16,hi,Z4.same hT2 s1,λr H2 s2 hB=>?_⟩) λz=>absurd z (by simp[optN])
   cases r with
   |none =>
    refine Zy (λ_=>?_) λz=>absurd rfl z
    exact k1 .non none H2 (s1.trans s2) ⟨some a,none,hFa,hB,rfl⟩ rfl
   |some j =>
    refine Zy (λz=>by cases z) λ_=>?_
    have ha1:=(ha.same s1).same s2
    obtain⟨vals,hqv,hvl,hvp⟩:=ha1
    obtain⟨v,ev,hv⟩:=pt_get hvl hvp (show j<(tab.getD c []).length by have:=hB.1.2.1;have:=kb.2;omega)
    obtain⟨u,rfl,hu⟩:=pt_some hv hB.1.2.2.1
    exact⟨_,_,rfl,SqL.of ((s1.trans s2) _ _ hla),_,ea,d,rfl,_,_,rfl,SqL.of hqv,_,ev,u,rfl,_,SqT.of hu,_,rfl,hR _ _ ⟨_,_,rfl,⟨⟨j,hB.1,rfl⟩,hB.2⟩,s1.trans s2⟩⟩
 rintro σ H2 ⟨b,v8',rfl,hLb,s2⟩
 walk_at "rd"
 exact⟨by decide,λq zq=>k1 (.ref q) (some (a,b)) _ (s2.Zai zq) ⟨some a,some b,hFa,hLb,rfl⟩ ⟨q,rfl,Zc⟩⟩
theorem ok_young_of {f:Addr}{fd:FuncData} (F:Fun K "young_of" "young_of" s_young_of f fd) (T:Txt K mg):FnOk P w K mg base (CXE P w) 1 f fd ["tree"] (sp_young_of K mg):=by
 refine F.okX sc_young_of (λvs H Q E h=>?_) (λcdv A outer s H vs Q E hr h=>?_)
 .obtain⟨t,T,rfl,_⟩:=h;rfl
 obtain⟨t,T',rfl,ht,hG,k1⟩:=h
 refine⟨_,(Ze (Z3 (i:=1) ["place"] [none] sc_young_of.nd rfl (Or.inl rfl) rfl rfl rfl (ZiZ (pv 0)) (λ_ _ _ _ _=>(Zn (i:=0) (show(["place"]:List Str).Nodup from by decide +kernel) rfl (Or.inl rfl))) (λ_ _ _ _ _=>ZW) (λ_ _ _ _ _=>(ZQ (Za ZP (Za ZP Zb)))) Zt)
   (Ze (ZaC (Zbj PassesOwn.never rfl (Zoh (K:=K) rfl rfl T.b_enumerate (Za (pv 0) Zb)) (Zhf (n:=2) rfl (ZV (Zn (i:=2) sc_young_of.nd rfl (Or.inl rfl)) (ZV (Zn (i:=3) sc_young_of.nd rfl (Or.inl rfl)) ZcL))) (Zg (ZN (Zj Ziw (pv 3) Zf (Zl _)) (Zg (ZcM (pv 2) (Zf0 (Zm Zr (pv 1) (pv 3) (λ_ _=>rfl)) (ZnM (Zj ZcC (pv 2) (pv 3) (Zl _)) Zf Zf) set_list (λ_=>rfl)))) ZA))))
   (Zg (Zu (pv 1))))),?_⟩
 have h40:=hG.1
 obtain⟨_,nsT,hT⟩:=id hG
 have eT:=hT.1
 have eL:(T'.map V.int).length=T'.length:=Yh ..
 walk_at "rd"
 refine⟨⟨_,ht⟩,Zam (n:=T'.length) (λj acc Hz=>∃as:List Addr,acc=as.map V.ref/\as.length=j/\as.Nodup/\(∀a∈as,Hz a=some (.lst [.non,.non])/\H a=none)/\Zd H Hz) (YA (show _<=1000 by omega) nofun) ⟨[],rfl,rfl,List.nodup_nil,(λa ha=>absurd ha (by simp)),Zd.refl H⟩ (λj acc Hz ⟨_,_,_,_,_,e⟩ hj=>⟨_,_,(e).Zf5 ht,nthV hj⟩) (λacc Hz ⟨_,_,_,_,_,e⟩=>⟨_,(e).Zf5 ht,Ji eL⟩) ?_ ?_⟩
 .rintro j x acc Hz Hw hj hla ⟨as,rfl,hal,hnd,has,sz⟩ ⟨rfl,hx⟩
  walk_at "rd"
  refine⟨by decide,λp zp=>CA.take hj hla ⟨as++[p],by simp,by simp[hal],?_,λa ha=>?_,sz.Zai zp⟩⟩
  .rw[List.nodup_append]
   refine⟨hnd,by simp,λa ha b hb=>?_⟩
   have:b=p:=by simpa using hb
   subst this
   exact λz=>by rw[z]at ha;rw[(has _ ha).1]at zp;cases zp
  .rcases Yw.mp ha with z|z
   .exact⟨((Zd.refl _).upd zp) _ _ (has a z).1,(has a z).2⟩
   .have:a=p:=by simpa using z
    subst this
    exact⟨Zc,sz.free zp⟩
 rintro y acc Hz ⟨as,rfl,hal,hnd,has,sz⟩ _ zy
 have gy:=(Zd.refl Hz).upd (o:=.lst (as.map V.ref)) zy
 have hyy:=Zc (H:=Hz) (a:=y) (o:=.lst (as.map V.ref))
 have s1:=sz.trans gy
 have zy0:=sz.free zy
 have ny:y∉as:=λz=>by rw[(has _ z).1]at zy;cases zy
 have Y0:YTo (upd Hz y (.lst (as.map V.ref))) as T' 0:=λv a e=>⟨none,none,(λc _ h=>absurd h ⋯),(λc _ h=>absurd h ⋯),gy _ _ (has a (List.mem_of_getElem? e)).1⟩
 generalize upd Hz y (.lst (as.map V.ref))=H1 at gy hyy s1 Y0⊢
 refine⟨_,(s1).Zf5 ht,?_⟩
 refine Zhu (n:=T'.length) (λj σ Hx=>∃v2 v3:Option V,σ=[some (.ref t),some (.ref y),v2,v3]/\Hx y=some (.lst (as.map V.ref))/\YTo Hx as T' j/\Zd H Hx) ⟨none,none,rfl,hyy,Y0,s1⟩ (λj σ Hx hj ⟨_,_,_,_,_,e⟩=>⟨_,_,(e).Zf5 ht,nthV hj⟩) (fun σ Hx ⟨_,_,_,_,_,e⟩=>⟨_,(e).Zf5 ht,eL⟩) ?_ ?_
 .rintro j x σ Hx Hw hj ⟨v2,v3,rfl,hyx,Yx,sx⟩ ⟨p,w,zp,rfl,rfl,hx⟩
  have ex:=hx _ ((sx).Zf5 ht)
  rw[nthV hj]at ex
  cases ex
  walk_at "rd"
  have gp:=(Zd.refl Hx).upd (o:=.tup [V.int (j:Int),V.int (nth T' j)]) zp
  have hp:=Zc (H:=Hx) (a:=p) (o:=.tup [V.int (j:Int),V.int (nth T' j)])
  generalize upd Hx p (.tup [V.int (j:Int),V.int (nth T' j)])=H2 at gp hp⊢
  refine⟨_,SqT.of hp,rfl,_,_,rfl,_,_,rfl,rfl,_,rfl,?_⟩
  have sx2:=sx.trans gp
  have hyx2:=gp _ _ hyx
  have Yx2:=Yx.same gp
  refine Zy (λc0=>?_) λc0=>⟨hyx2,Yx2.skip λv _=>⋯,sx2⟩
  have hq:∃q:Nat,nth T' j=q/\q<T'.length/\q≠j:=by
   rcases ZaE hT (p:=j) ⋯with z|⟨q,ez,hq,hO,hd⟩
   .omega
   .refine⟨q,ez,⋯,λe=>?_⟩
    subst e;omega
  obtain⟨q,eq,hqT,nqj⟩:=hq
  obtain⟨a,ea⟩:∃a,as[q]?=some a:=⟨_,Yf ⋯⟩
  obtain⟨ah,bh,hA,hB,ha⟩:=Yx2 q a ea
  have na:a≠y:=λz=>ny (z▸List.mem_of_getElem? ea)
  have za:H a=none:=(has a (List.mem_of_getElem? ea)).2
  refine⟨_,_,rfl,SqL.of hyx2,V.ref a,by rw[eq];exact Zb3 (by rw[YG,ea];rfl),_,rfl,_,rfl,Zy (λc1=>?_) λc1=>?_⟩
  .refine⟨a,rfl,_,ha,1,rfl,by rw[Zh na.symm];exact hyx2,?_,sx2.upd za⟩
   exact Yx2.set (ah:=ah) (bh:=some j) hnd ea (hA.skip λz=>⋯) ⟨⋯,⋯,eq⟩ eq
  .refine⟨a,rfl,_,ha,0,rfl,by rw[Zh na.symm];exact hyx2,?_,sx2.upd za⟩
   exact Yx2.set (ah:=some j) (bh:=bh) hnd ea ⟨⋯,⋯,eq⟩ (hB.skip λz=>⋯) eq
 .rintro σ Hx ⟨v2,v3,rfl,hyx,Yx,sx⟩
  walk_at "rd"
  refine k1 y Hx zy0 ⟨as,hyx,hal,λv a e=>?_⟩ sx
  obtain⟨ah,bh,h1,h2,h3⟩:=Yx v a e
  refine⟨ah,bh,?_,?_,h3⟩
  .cases ah with
   |none=>exact h1
   |some c=>exact h1
  .cases bh with
   |none=>exact h2
   |some c=>exact h2
theorem ok_table_by {f:Addr}{fd:FuncData} (F:Fun K "table_by" "table_by" s_table_by f fd) (ZaV:Callee P w K mg base "young_of" 1 ["tree"] (sp_young_of K mg)) (Zas:Callee P w K mg base "from_below" 5 ["tree"] (sp_from_below K mg)) (Zgi:Callee P w K mg base "pair_at" 2 ["text","table","young","i"] (sp_pair_at K mg)) (T:Txt K mg):FnOk P w K mg base (CXE P w) 6 f fd ["tree","text"] (sp_table_by K mg):=by
 refine F.okX sc_table_by (λvs H Q E h=>?_) (λcdv A outer s H vs Q E hr h=>?_)
 .obtain⟨t,x,T,ts,rfl,_⟩:=h;rfl
 obtain⟨t,x,T',ts,rfl,ht,hx,hG,h16,hT1,hT2,hT3,k1⟩:=h
 refine⟨_,(Ze (Zs (i:=2) sc_table_by.nd rfl (Or.inr rfl) (Zi ZaV (hr.mono nofun) rfl Zx (Za (pv 0) Zb)))
   (Ze (Zs (i:=3) sc_table_by.nd rfl (Or.inr rfl) (Z2 ["v"] [none] rfl rfl rfl (ZiZ (pv 0)) (λ_ _ _ _ _=>(Zn (i:=0) (show(["v"]:List Str).Nodup from by decide +kernel) rfl (Or.inl rfl))) (λ_ _ _ _ _=>ZW) (λ_ _ _ _ _=>(ZQ Zb)) Zt))
   (Ze (ZaC (Zbj PassesOwn.never rfl (Zao (Zi Zas (hr.mono nofun) rfl Zx (Za (pv 0) Zb))) (Zn (i:=4) sc_table_by.nd rfl (Or.inr rfl)) (Zg (ZcM (Z2 ["i","text","table","young","v"] [none,some 1,some 3,some 2,some 4] rfl rfl rfl (ZJ rfl T.b_range (Za (Zk (Zp (K:=K) rfl) rfl T.b_len YC (Za (pv 1) Zb)) Zb)) (λ_ _ _ _ _=>(Zn (i:=0) (show(["i","text","table","young","v"]:List Str).Nodup from by decide +kernel) rfl (Or.inl rfl))) (λ_ _ _ _ _=>ZW) (λ_ _ _ _ _=>(Zi Zgi (hr.mono nofun) rfl Zx (Za (pv 1) (Za (pv 2) (Za (Zm (r:=rIxL K) Zr (pv 3) (pv 4) (λ_ _=>rfl)) (Za (pv 0) Zb)))))) Zt) (Zf0 (pv 3) (pv 4) set_list (λ_=>rfl))))))
   (Zg (Zu (pv 3)))))),?_⟩
 have h40:=hG.1
 obtain⟨_,nsT,hT⟩:=id hG
 have eT:=hT.1
 have eL:(T'.map V.int).length=T'.length:=Yh ..
 have eX:(ts.map V.int).length=ts.length:=Yh ..
 refine Zaj (fun σ Hx=>∃y:Addr,σ=[some (.ref t),some (.ref x),some (.ref y),none,none]/\YoungAt Hx y T'/\Zd H Hx) (λR hR=>?_) ?_
 .walk_at "rd"
  exact⟨t,T',rfl,ht,hG,λy H1 zy Y1 s1=>hR _ _ ⟨y,rfl,Y1,s1⟩⟩
 rintro σ H1 ⟨y,rfl,Y1,s1⟩
 obtain⟨ys,hys,hyl,hyp⟩:=Y1
 refine Zaj (fun σ Hx=>∃(l:Addr) (tab:List (List Pt)),σ=[some (.ref t),some (.ref x),some (.ref y),some (.ref l),none]/\H1 l=none/\TblAt Hx l tab/\tab.length=T'.length/\FrL H1 Hx l/\Zd H1 Hx) (λR hR=>?_) ?_
 .walk_at "rd"
  refine⟨⟨_,(s1).Zf5 ht⟩,Zam (n:=T'.length) (λj acc Hz=>∃as:List Addr,acc=as.map V.ref/\as.length=j/\(∀a∈as,Hz a=some (.lst [])/\H1 a=none)/\Zd H1 Hz) (YA (show _<=1000 by omega) nofun) ⟨[],rfl,rfl,(λa ha=>absurd ha (by simp)),Zd.refl H1⟩ (λj acc Hz ⟨_,_,_,_,e⟩ hj=>⟨_,_,((s1.trans e)).Zf5 ht,nthV hj⟩) (λacc Hz ⟨_,_,_,_,e⟩=>⟨_,((s1.trans e)).Zf5 ht,Ji eL⟩) ?_ ?_⟩
  .rintro j w acc Hz Hw hj hla ⟨as,rfl,hal,has,sz⟩ ⟨rfl,hx⟩
   walk_at "rd"
   refine⟨Yo _,λp zp=>CA.take hj hla ⟨as++[p],by simp,by simp[hal],λa ha=>?_,sz.Zai zp⟩⟩
   rcases Yw.mp ha with z|z
   .exact⟨((Zd.refl _).upd zp) _ _ (has a z).1,(has a z).2⟩
   .have:a=p:=by simpa using z
    subst this
    exact⟨Zc,sz.free zp⟩
  .rintro l acc Hz ⟨as,rfl,hal,has,sz⟩ _ zl
   have gl:=(Zd.refl Hz).upd (o:=.lst (as.map V.ref)) zl
   refine hR _ _ ⟨l,List.replicate T'.length [],rfl,sz.free zl,⟨as,Zc,(λz=>by rw[(has _ z).1]at zl;cases zl),by simp[hal],λi a ps e1 e2=>?_⟩,by simp,⟨as,Zc,λa ha=>(has a ha).2⟩,sz.trans gl⟩
   have:ps=[]:=by
    rw[List.getElem?_replicate]at e2
    split at e2
    .cases e2;rfl
    .cases e2
   subst this
   exact⟨[],gl _ _ (has a (List.mem_of_getElem? e1)).1,rfl,λi v p h=>by simp at h⟩
 rintro σ H2 ⟨l,tab0,rfl,zl,TB,htl,FB,s2⟩
 walk_at "rd"
 have s02:=s1.trans s2
 refine⟨t,T',rfl,s02.Zf5 ht,hG,Z4.same hT1 s02,λo ps H3 zo s3 hpm hpw ho=>⟨o,rfl,⟨_,SqL.of ho⟩,?_⟩⟩
 have s03:=s02.trans s3
 have zl0:H l=none:=s1.free zl
 have nd:ps.Nodup:=hpm.nodup_iff.mpr (nats_nodup _)
 obtain⟨as0,hla0,_⟩:=id TB
 have nlo:o≠l:=λz=>by rw[z,hla0]at zo;cases zo
 have nly:y≠l:=λz=>by rw[z,zl]at hys;cases hys
 refine Zhh (xs:=ps.map V.int) (λk σ Hx=>∃(v4:Option V) (tab:List (List Pt)),σ=[some (.ref t),some (.ref x),some (.ref y),some (.ref l),v4]/\TblAt Hx l tab/\tab.length=T'.length/\FrL H Hx l/\(∀v:Nat,(v:Int)∈ps.take k->DoneAt T' ts tab v)/\Exc l H3 Hx) ⟨none,tab0,rfl,TB.same s3,htl,(by obtain⟨as,h1,h2⟩:=FB;exact⟨as,s3 _ _ h1,λa ha=>s1.free (h2 a ha)⟩),(λv h=>absurd h (by simp)),(Zd.refl H3).ZcE⟩ (λk σ Hx _ ⟨_,_,_,_,_,_,_,e⟩=>SqL.of (e _ _ nlo ho)) ?_ ?_
 .rintro k w σ Hx hw ⟨v4,tab,rfl,TBx,htx,FBx,hdone,ex⟩
  obtain⟨v,rfl,hpk,hvT⟩:∃v:Nat,w=V.int (v:Int)/\ps[k]?=some (v:Int)/\v<T'.length:=by
   rw[YG]at hw
   cases e:ps[k]? with
   |none=>rw[e]at hw;cases hw
   |some u =>
    rw[e]at hw;cases hw
    obtain⟨v,hv,rfl⟩:=YH.mp (hpm.mem_iff.mp (List.mem_of_getElem? e))
    exact⟨v,rfl,rfl,by have:=Yq.mp hv;omega⟩
  have hv0:(v:Int)∉ps.take k:=λz=>by
   obtain⟨m,hm,em⟩:=List.mem_take_iff_getElem.mp z
   obtain⟨hi,ei⟩:=Yr.mp hpk
   have:=(List.getElem_inj nd (h₀:= ⋯) (h₁:=hi)).mp (em.trans ei.symm)
   omega
  have kidT:∀c,c<T'.length->nth T' c=v->(c:Int)∈ps.take k:=λc hc e=>kid_first hT hpm hpw hpk hc e
  have kidV:∀c,c<T'.length->nth T' c=v->c≠v:=λc hc e z=>hv0 (z▸kidT c hc e)
  obtain⟨a,ea⟩:∃a,ys[v]?=some a:=⟨_,Yf ⋯⟩
  obtain⟨ah,bh,hA,hB,ha⟩:=hyp v a ea
  have nla:a≠l:=λz=>by rw[z,zl]at ha;cases ha
  have s3x:∀b u,b≠l->H1 b=some u->Hx b=some u:=λb u n e=>ex _ _ n ((s2.trans s3) _ _ e)
  have sHx:Zd H Hx:=s03.exc zl0 ex
  have kA:kidOk tab ts.length ah:=by
   cases ah with
   |none=>trivial
   |some c=>exact⟨by have:=hA.2.1;omega,(hdone c (kidT c hA.2.1 hA.2.2)).1⟩
  have kB:kidOk tab ts.length bh:=by
   cases bh with
   |none=>trivial
   |some c=>exact⟨by have:=hB.2.1;omega,(hdone c (kidT c hB.2.1 hB.2.2)).1⟩
  have hyx:Hx y=some (.lst (ys.map V.ref)):=s3x _ _ nly hys
  have hax:Hx a=some (.lst [optN ah,optN bh]):=s3x _ _ nla ha
  walk_at "rd"
  refine⟨_,sHx.q hx,⋯,⋯,?_⟩
  rw[eX,show((ts.length:Nat):Int).toNat=ts.length by omega]
  refine Zam (n:=ts.length) (λj acc Hz=>∃rs:List Pt,acc.length=j/\rs.length=j/\(∀(i:Nat) (u:V) (p:Pt),acc[i]?=some u->rs[i]?=some p->PairAt Hz u p)/\(∀i,i<j->RuledIs ts tab i ah bh (rs.getD i none))/\Zd Hx Hz) (YA (show _<=1000 by omega) nofun) ⟨[],rfl,rfl,(λi u p h=>by simp at h),(λi h=>absurd h ⋯),Zd.refl Hx⟩ (λj acc Hz _ hj=>hj) (λacc Hz _=>Ye _) ?_ ?_
  .rintro j u acc Hz Hw hj hla ⟨rs,hal,hrl,hpr,hru,sz⟩ ⟨rfl,rfl⟩
   rw[show(0:Int)+(j:Int)=((j:Nat):Int) by omega]
   walk_at "rd"
   refine⟨_,SqL.of (sz _ _ hyx),V.ref a,Zb3 (by rw[YG,ea];rfl),x,l,a,ts,tab,ah,bh,j,rfl,(sHx.trans sz).q hx,TBx.same sz,sz _ _ hax,kA,kB,h16,hj,Z4.same hT2 (sHx.trans sz),Z4.same hT3 (sHx.trans sz),λu p H5 s5 hR hP=>CA.take hj hla ⟨by simp[hal],rs++[p],by simp[hrl],λi u' p' e1 e2=>?_,λi hi=>?_,sz.trans s5⟩⟩
   .by_cases c:i<j
    .rw[Y5 ⋯]at e1 e2
     exact(hpr i u' p' e1 e2).same s5
    .have h1:=(Yr.mp e1).1
     have:i=j:=by simp at h1;omega
     subst this
     rw[YV ⋯,hal,Nat.sub_self]at e1
     rw[YV ⋯,hrl,Nat.sub_self]at e2
     cases e1;cases e2;exact hP
   .by_cases c:i<j
    .rw[Yg,Y5 ⋯,<-Yg]
     exact hru i c
    .have:i=j:= ⋯
     subst this
     rw[Yg,YV ⋯,hrl,Nat.sub_self]
     exact hR
  .rintro r acc Hz ⟨rs,hal,hrl,hpr,hru,sz⟩ _ zr
   have gr:=(Zd.refl Hz).upd (o:=.lst acc) zr
   obtain⟨as,hla,hasn,hasl,hasp⟩:=TBx
   have hlz:=gr _ _ (sz _ _ hla)
   have hrr:=Zc (H:=Hz) (a:=r) (o:=.lst acc)
   have nrl:r≠l:=λz=>by rw[z,sz _ _ hla]at zr;cases zr
   have szr:=sz.trans gr
   generalize upd Hz r (.lst acc)=H6 at gr hlz hrr szr⊢
   refine⟨_,hlz,v,Zfn (by rw[Yh];omega),tab.set v rs,⟨as.set v r,by rw[Zc,List.map_set],λz=>?_,by simp[hasl],λi b qs e1 e2=>?_⟩,by simp[htx],?_,λw hw=>?_,(ex.same szr).trans Exc.upd⟩
   .rcases List.mem_or_eq_of_mem_set z with z|z
    .exact hasn z
    .exact nrl z.symm
   .by_cases c:i=v
    .subst c
     rw[List.getElem?_set_self ⋯]at e1 e2
     cases e1;cases e2
     exact⟨acc,by rw[Zh nrl];exact hrr,⋯,λi u p f1 f2=>((hpr i u p f1 f2).same gr).excL hlz Exc.upd⟩
    .rw[List.getElem?_set_ne (Ne.symm c)]at e1 e2
     obtain⟨vals,g1,g2,g3⟩:=(hasp i b qs e1 e2).same szr
     have nb:b≠l:=λz=>hasn (z▸List.mem_of_getElem? e1)
     exact⟨vals,by rw[Zh nb];exact g1,g2,λi u p f1 f2=>(g3 i u p f1 f2).excL hlz Exc.upd⟩
   .obtain⟨as',f1,f2⟩:=FBx
    rw[hla]at f1
    have ea':as=as':=by
     have:=HO.lst.inj (YF f1)
     exact(List.map_inj_right (λ_ _ h=>V.ref.inj h)).mp this
    subst ea'
    refine⟨as.set v r,by rw[Zc,List.map_set],λb hb=>?_⟩
    rcases List.mem_or_eq_of_mem_set hb with hb|rfl
    .exact f2 b hb
    .exact(sHx.trans sz).free zr
   .rw[List.take_succ,hpk]at hw
    rcases Yw.mp hw with hw|hw
    .refine(hdone w hw).set (λz=>hv0 (z▸hw)) λc hc e z=>?_
     obtain⟨m,hm,em⟩:=List.mem_take_iff_getElem.mp hw
     have:=kid_first hT hpm hpw (k:=m) (c:=c) (v:=w) (Yr.mpr ⟨⋯,em⟩) hc e
     obtain⟨m2,hm2,em2⟩:=List.mem_take_iff_getElem.mp this
     exact hv0 (z▸List.mem_take_iff_getElem.mpr ⟨m2,⋯,em2⟩)
    .have:w=v:=by simp at hw;omega
     subst this
     exact DoneAt.new ⋯ hrl hA hB kidV hru
 .rintro σ Hx ⟨v4,tab,rfl,TBx,htx,FBx,hdone,ex⟩
  walk_at "rd"
  refine k1 l tab Hx zl0 TBx FBx ⟨htx,λv hv=>hdone v ?_⟩ (s03.exc zl0 ex)
  rw[List.take_of_length_le (by simp)]
  exact hpm.mem_iff.mpr (YH.mpr ⟨v,Yq.mpr ⋯,rfl⟩)
theorem ok_need_loose {f:Addr}{fd:FuncData} (F:Fun K "need_loose" "need_loose" s_need_loose f fd) (Zbl:Zjl P w K mg base "need_numbers" 1 ["row","fewest"] [V.int 1] (sp_need_numbers K mg)) (T:Txt K mg):FnOk P w K mg base (CXE P w) 2 f fd ["row","text"] (sp_need_loose K mg):=by
 refine F.okX sc_need_loose (λvs H Q E h=>?_) (λcdv A outer s H vs Q E hr h=>?_)
 .obtain⟨r,x,ns,ts,rfl,_⟩:=h;rfl
 obtain⟨r,x,ns,ts,rfl,hr1,hx,h0,h6,h16,k1⟩:=h
 refine⟨_,(Ze (Z8 (ZmR Zbl (hr.mono nofun) rfl Zjc (Za (pv 0) Zb)))
   (Ze (ZN (Zj ZcC (Zk (Zp (K:=K) rfl) rfl T.b_len YC (Za (pv 0) Zb)) (Z7 (v:=.int 6) rfl T.m_MOST_HELD ⟨_,rfl⟩) (Zl _)) (Zg (Zfj rfl rfl T.c_TooMany T.x_TooMany (Za (ZeE (Zbr nofun (Zhl (Z7 (v:=.int 6) rfl T.m_MOST_HELD ⟨_,rfl⟩) (Zbr nofun Zje)))) Zb) Zg5)) ZA)
   (Zg (ZN (Zj ZcC (Zk (Zp (K:=K) rfl) rfl T.b_len YC (Za (pv 1) Zb)) (Z7 (v:=.int 16) rfl T.m_MOST_HOLDING ⟨_,rfl⟩) (Zl _)) (Zg (Zfj rfl rfl T.c_TooMany T.x_TooMany (Za (ZeE (Zbr nofun (Zhl (Z7 (v:=.int 16) rfl T.m_MOST_HOLDING ⟨_,rfl⟩) (Zbr nofun Zje)))) Zb) Zg5)) ZA)))),?_⟩
 walk_at "rd"
 have e1:(ns.map V.int).length=ns.length:=Yh ..
 have e2:(ts.map V.int).length=ts.length:=Yh ..
 exact⟨r,ns,1,rfl,hr1,⋯,by decide,by decide,λ_=>⟨_,hr1,Zy (λz=>absurd z ⋯) λ_=>⟨_,hx,Zy (λz=>absurd z ⋯) λ_=>k1⟩⟩,λz=>absurd z ⋯⟩
theorem ok__law_hand {f:Addr}{fd:FuncData} (F:Fun K "_law_hand" "_law_hand" s__law_hand f fd) (T:Txt K mg):FnOk P w K mg base (CXE P w) 1 f fd ["tree","place","later"] (sp__law_hand K mg):=by
 refine F.okX sc__law_hand (λvs H Q E h=>?_) (λcdv A outer s H vs Q E hr h=>?_)
 .obtain⟨t,T,v,lt,rfl,_⟩:=h;rfl
 obtain⟨t,T',v,lt,rfl,ht,hG,hv,k1⟩:=h
 refine⟨_,(Ze (Z3 (i:=3) ["other","place","later","tree"] [none,some 1,some 2,some 0] sc__law_hand.nd rfl (Or.inl rfl) rfl rfl rfl (ZJ rfl T.b_range (Za (Zk (Zp (K:=K) rfl) rfl T.b_len YC (Za (pv 0) Zb)) Zb)) (λ_ _ _ _ _=>(Zn (i:=0) (show(["other","place","later","tree"]:List Str).Nodup from by decide +kernel) rfl (Or.inl rfl))) (λ_ _ _ _ _=>Zaa (PW.pt (ZbK (Zj ZdU (Zm (r:=rIxT K) ZI (pv 3) (pv 0) (λ_ _=>rfl)) (pv 1) (Zl _)) (Zbq (Zj ZdU (ZeB ZcC (pv 0) (pv 1) (Zl _)) (pv 2) (Zl _)))))) (λ_ _ _ _ _=>(pv 0)) Zt)
   (Zg (Zu (Zm Zr (Zv (Zrn (K:=K) rfl) (pv 3) (ZQ (Za ZP Zb))) Zf (λ_ _=>rfl))))),?_⟩
 walk_at "rd"
 have h40:=hG.1
 have eL:(T'.map V.int).length=T'.length:=Yh ..
 refine⟨_,.inr (SqT.of ht),⋯,⋯,?_⟩
 rw[eL,show((T'.length:Nat):Int).toNat=T'.length by omega]
 refine Zad (n:=T'.length) (λo=>decide (nth T' o=v/\decide (v<o)=lt)) (λo=>V.int (o:Int)) (YA (show _<=1000 by omega) nofun) (λj Hz s hj=>hj) (λHz s=>Ye _) ?_ ?_
 .rintro j y Hz Hw hj sz ⟨rfl,rfl⟩
  rw[show(0:Int)+(j:Int)=((j:Nat):Int) by omega]
  walk_at "rd"
  refine⟨_,SqT.of (sz _ _ ht),_,ZY hj,rfl,Zy (λc1=>?_) λc1=>CF.skip hj (Yt λz=>c1 (by rw[z.1])) sz⟩
  have e1:nth T' j=v:=V.int.inj c1
  have e2:decide ((v:Int)<(j:Int))=decide (v<j):=decide_eq_decide.mpr ⋯
  rw[e2]
  exact Zy (λc2=>CF.take hj (Yu ⟨e1,c2⟩) rfl sz) λc2=>CF.skip hj (Yt λz=>c2 z.2) sz
 .intro lf Hz sz hlf
  have gl:=(Zd.refl Hz).upd (o:=.lst (((List.range T'.length).filter λo=>decide (nth T' o=v/\decide (v<o)=lt)).map λ(o:Nat)=>V.int (o:Int))) hlf
  have hlf2:=Zc (H:=Hz) (a:=lf) (o:=.lst (((List.range T'.length).filter λo=>decide (nth T' o=v/\decide (v<o)=lt)).map λ(o:Nat)=>V.int (o:Int)))
  have s1:=sz.trans gl
  generalize upd Hz lf (.lst (((List.range T'.length).filter λo=>decide (nth T' o=v/\decide (v<o)=lt)).map λ(o:Nat)=>V.int (o:Int)))=H1 at gl hlf2 s1⊢
  refine⟨by decide,λp zp=>?_⟩
  have g2:=(Zd.refl H1).upd (o:=.lst [V.non]) zp
  refine⟨lf,rfl,_,SqL.of (g2 _ _ hlf2),_,SqL.of Zc,Yn (show _<=1000 by
   have:=Jc (λo=>decide (nth T' o=v/\decide (v<o)=lt)) (List.range T'.length)
   rw[YX]at this
   rw[Yh];simp only[YI,List.length_nil];omega) nofun,λp2 zp2=>?_⟩
  have g3:=(s1.trans g2).Zai (o:=.lst ((((List.range T'.length).filter λo=>decide (nth T' o=v/\decide (v<o)=lt)).map λ(o:Nat)=>V.int (o:Int))++[V.non])) zp2
  refine⟨_,SqL.of Zc,?_⟩
  have nov:∀o,o<T'.length->nth T' o=v->o≠v:=λo ho e z=>by
   obtain⟨_,nsT,hT⟩:=id hG
   have eT:=hT.1
   have:=dpI_elder hT (p:=o) ⋯ e
   rw[z]at this;omega
  have hmem:∀o:Nat,o∈((List.range T'.length).filter λo=>decide (nth T' o=v/\decide (v<o)=lt))↔o<T'.length/\nth T' o=v/\decide (v<o)=lt:=λo=>by rw[YO,Yq,decide_eq_true_iff]
  cases hF:((List.range T'.length).filter λo=>decide (nth T' o=v/\decide (v<o)=lt))with
  |nil =>
   rw[hF]at hmem
   rw[hF]at g3
   refine⟨V.non,rfl,k1 none _ (λhl c c1 c2 e=>?_) (λhl c c1 c2 e=>?_) g3⟩
   .exact absurd ((hmem c).mpr ⟨c2,e,by rw[hl];exact Yt ⋯⟩) (by simp)
   .exact absurd ((hmem c).mpr ⟨c2,e,by rw[hl];exact Yu c1⟩) (by simp)
  |cons o os =>
   rw[hF]at hmem
   rw[hF]at g3
   obtain⟨o1,o2,o3⟩:=(hmem o).mp Yy
   refine⟨V.int (o:Int),ZeY (j:=0) rfl (by simp),k1 (some o) _ (λhl=>⟨?_,o1,o2⟩) (λhl=>⟨?_,o1,o2⟩) g3⟩
   .have:=nov o o1 o2
    rw[hl]at o3
    have:=of_decide_eq_false o3
    omega
   .rw[hl]at o3
    exact Y2 o3
theorem ok__law_under {f:Addr}{fd:FuncData} (F:Fun K "_law_under" "_law_under" s__law_under f fd) (Zd3:Callee P w K mg base "_law_over" 1 ["tree","place"] (sp__law_over K mg)) (T:Txt K mg):FnOk P w K mg base (CXE P w) 2 f fd ["tree","place"] (sp__law_under K mg):=by
 refine F.okX sc__law_under (λvs H Q E h=>?_) (λcdv A outer s H vs Q E hr h=>?_)
 .obtain⟨t,T,v,rfl,_⟩:=h;rfl
 obtain⟨t,T',v,rfl,ht,hG,k1⟩:=h
 refine⟨_,(Zg (Zu (Z2 ["other","place","tree"] [none,some 1,some 0] rfl rfl rfl (ZJ rfl T.b_range (Za (Zk (Zp (K:=K) rfl) rfl T.b_len YC (Za (pv 0) Zb)) Zb)) (λ_ _ _ _ _=>(Zn (i:=0) (show(["other","place","tree"]:List Str).Nodup from by decide +kernel) rfl (Or.inl rfl))) (λ_ _ _ _ _=>Zaa (PW.pt (ZdN (Zj ZdU (pv 0) (pv 1) (Zl _)) (ZdM (Zj (op_inK (K:=K) rfl) (pv 1) (Zi Zd3 (hr.mono nofun) rfl Zx (Za (pv 2) (Za (pv 0) Zb))) (by with_unfolding_all rfl)))))) (λ_ _ _ _ _=>(pv 0)) Zt))),?_⟩
 walk_at "rd"
 have h40:=hG.1
 obtain⟨_,nsT,hT⟩:=id hG
 have eL:(T'.map V.int).length=T'.length:=Yh ..
 refine⟨_,.inr (SqT.of ht),⋯,⋯,?_⟩
 rw[eL,show((T'.length:Nat):Int).toNat=T'.length by omega]
 refine Zad (n:=T'.length) (λo=>decide (o=v\/v∈way T' o)) (λo=>V.int (o:Int)) (YA (show _<=1000 by omega) nofun) (λj Hz s hj=>hj) (λHz s=>Ye _) ?_ ?_
 .rintro j y Hz Hw hj sz ⟨rfl,rfl⟩
  rw[show(0:Int)+(j:Int)=((j:Nat):Int) by omega]
  walk_at "rd"
  refine Zy (λc=>CF.take hj (Yu (.inl ⋯)) rfl sz) λc=>⟨t,T',j,rfl,sz _ _ ht,⋯,hj,Zk8 hT hj,λw H2 zw s2 hw=>⟨w,rfl,_,.inl (SqL.of hw),rfl,ZmO _,?_⟩⟩
  rw[Zrd]
  have ew:(v:Int)∈ZmN T' j↔v∈way T' j:=by
   rw[Zfq,YH]
   exact⟨λ⟨q,hq,e⟩=>by rw[<-show q=v by omega];exact hq,λh=>⟨v,h,rfl⟩⟩
  exact Zy (λc2=>CF.take hj (Yu (.inr (ew.mp (Y2 c2)))) rfl (sz.trans s2)) λc2=>CF.skip hj (Yt λz=>z.elim (λy=>c ⋯) λy=>c2 (Yu (ew.mpr y))) (sz.trans s2)
 .intro lf Hz sz hlf
  exact k1 lf _ _ (sz.free hlf) Zc ⟨by rw[Yh];rfl,by unfold unL;rw[YZ];rfl⟩ (sz.Zai hlf)
theorem ok__law_ruled {f:Addr}{fd:FuncData} (F:Fun K "_law_ruled" "_law_ruled" s__law_ruled f fd) (Zb6:Callee P w K mg base "_law_hand" 1 ["tree","place","later"] (sp__law_hand K mg)) (T:Txt K mg):FnOk P w K mg base (CXE P w) 2 f fd ["tree","text","table","place","at"] (sp__law_ruled K mg):=by
 refine F.okX sc__law_ruled (λvs H Q E h=>?_) (λcdv A outer s H vs Q E hr h=>?_)
 .obtain⟨t,x,l,T,ts,tab,v,i,rfl,_⟩:=h;rfl
 obtain⟨t,x,l,T',ts,tab,v,i,rfl,ht,hx,hl,hG,hv,hi,h16,hk,k1⟩:=h
 refine⟨_,(Ze (Zs (i:=5) sc__law_ruled.nd rfl (Or.inl rfl) (ZQ (Za (pv 4) Zb)))
   (Ze (Zs (i:=6) sc__law_ruled.nd rfl (Or.inl rfl) (ZQ (Za (pv 4) Zb)))
   (Ze (Zs (i:=7) sc__law_ruled.nd rfl (Or.inr rfl) (Zi Zb6 (hr.mono nofun) rfl Zx (Za (pv 0) (Za (pv 3) (Za ZeM Zb)))))
   (Ze (Zs (i:=8) sc__law_ruled.nd rfl (Or.inr rfl) (Zi Zb6 (hr.mono nofun) rfl Zx (Za (pv 0) (Za (pv 3) (Za ZeM Zb)))))
   (Ze (ZN (Zj Zay (pv 7) ZP (Zl _)) (Ze (Z3 (i:=9) ["j","table","ahead","text","at"] [none,some 2,some 7,some 1,some 4] sc__law_ruled.nd rfl (Or.inl rfl) rfl rfl rfl (ZJ rfl T.b_range (Za (pv 4) Zb)) (λ_ _ _ _ _=>(Zn (i:=0) (show(["j","table","ahead","text","at"]:List Str).Nodup from by decide +kernel) rfl (Or.inl rfl))) (λ_ _ _ _ _=>Zaa (PW.pt (ZbK (Zj ZcC (Zm (r:=rIxL K) Zr (pv 3) (pv 0) (λ_ _=>rfl)) (Zm (r:=rIxL K) Zr (pv 3) (pv 4) (λ_ _=>rfl)) (Zl _)) (Zbq (Zj Zay (Zm (r:=rIxL K) Zr (Zm (r:=rIxL K) Zr (pv 1) (pv 2) (λ_ _=>rfl)) (pv 0) (λ_ _=>rfl)) ZP (Zl _)))))) (λ_ _ _ _ _=>(Zm (r:=rIxL K) Zr (Zm (r:=rIxL K) Zr (pv 1) (pv 2) (λ_ _=>rfl)) (pv 0) (λ_ _=>rfl))) Zt)
   (Zg (Z3 (i:=5) ["pair","at"] [none,some 4] sc__law_ruled.nd rfl (Or.inl rfl) rfl rfl rfl (Zao (pv 9)) (λ_ _ _ _ _=>(Zn (i:=0) (show(["pair","at"]:List Str).Nodup from by decide +kernel) rfl (Or.inl rfl))) (λ_ _ _ _ _=>Zaa (Zj ZcB (Zm (r:=rIxT K) ZI (pv 0) Zf (λ_ _=>rfl)) (pv 1) (Zl _))) (λ_ _ _ _ _=>(Zm (r:=rIxT K) ZI (pv 0) Zf (λ_ _=>rfl))) Zt))) ZA)
   (Ze (ZN (Zj Zay (pv 8) ZP (Zl _)) (Ze (Z3 (i:=9) ["j","table","behind","text","at"] [none,some 2,some 8,some 1,some 4] sc__law_ruled.nd rfl (Or.inl rfl) rfl rfl rfl (Zf1 rfl T.b_range (Za (Zv Zav (pv 4) Zf) (Za (Zk (Zp (K:=K) rfl) rfl T.b_len YC (Za (pv 1) Zb)) Zb))) (λ_ _ _ _ _=>(Zn (i:=0) (show(["j","table","behind","text","at"]:List Str).Nodup from by decide +kernel) rfl (Or.inl rfl))) (λ_ _ _ _ _=>Zaa (Zj Ziw (Zm (r:=rIxL K) Zr (pv 3) (pv 0) (λ_ _=>rfl)) (Zm (r:=rIxL K) Zr (pv 3) (pv 4) (λ_ _=>rfl)) (Zl _))) (λ_ _ _ _ _=>(Zm (r:=rIxL K) Zr (Zm (r:=rIxL K) Zr (pv 1) (pv 2) (λ_ _=>rfl)) (pv 0) (λ_ _=>rfl))) Zt)
   (Zg (Z3 (i:=6) ["pair","at"] [none,some 4] sc__law_ruled.nd rfl (Or.inl rfl) rfl rfl rfl (Zao (pv 9)) (λ_ _ _ _ _=>(Zn (i:=0) (show(["pair","at"]:List Str).Nodup from by decide +kernel) rfl (Or.inl rfl))) (λ_ _ _ _ _=>Zaa (PW.pt (ZbK (Zj Zay (pv 0) ZP (Zl _)) (Zbq (Zj ZcC (Zm (r:=rIxT K) ZI (pv 0) Zf (λ_ _=>rfl)) (pv 1) (Zl _)))))) (λ_ _ _ _ _=>(Zm (r:=rIxT K) ZI (pv 0) Zf (λ_ _=>rfl))) Zt))) ZA)
   (Ze (ZN (PW.pt (ZdN (Zj (Zhm (K:=K) rfl hr) (pv 5) (ZQ Zb) (Zl _)) (ZdM (Zj (Zhm (K:=K) rfl hr) (pv 6) (ZQ Zb) (Zl _))))) (Zg (Zu ZP)) ZA)
   (Zg (Zu (Zaw (Za (Zk (ZmY rfl) rfl T.b_max ZkW (Za (pv 5) Zb)) (Za (Zk (ZmF rfl) rfl T.b_min ZkX (Za (pv 6) Zb)) Zb)))))))))))),?_⟩
 have eX:(ts.map V.int).length=ts.length:=Yh ..
 refine Zaj (fun σ Hx=>∃fa,σ=[some (.ref t),some (.ref x),some (.ref l),some (.int (v:Int)),some (.int (i:Int)),some (.ref fa),none,none,none,none]/\Hx fa=some (.lst ([(i:Int)].map V.int))/\Zd H Hx) (λR hR=>?_) ?_
 .walk_at "rd"
  exact⟨by decide,λq zq=>hR _ _ ⟨q,rfl,Zc,(Zd.refl H).upd zq⟩⟩
 rintro σ H1 ⟨fa,rfl,hfa,s1⟩
 refine Zaj (fun σ Hx=>∃la,σ=[some (.ref t),some (.ref x),some (.ref l),some (.int (v:Int)),some (.int (i:Int)),some (.ref fa),some (.ref la),none,none,none]/\Hx la=some (.lst ([(i:Int)].map V.int))/\Zd H1 Hx) (λR hR=>?_) ?_
 .walk_at "rd"
  exact⟨by decide,λq zq=>hR _ _ ⟨q,rfl,Zc,(Zd.refl H1).upd zq⟩⟩
 rintro σ H2 ⟨la,rfl,hla,s2⟩
 replace hfa:=s2 _ _ hfa
 replace s1:=s1.trans s2
 clear s2 H1
 refine Zaj (fun σ Hx=>∃ah,σ=[some (.ref t),some (.ref x),some (.ref l),some (.int (v:Int)),some (.int (i:Int)),some (.ref fa),some (.ref la),some (optN ah),none,none]/\AheadIs T' v ah/\Zd H2 Hx) (λR hR=>?_) ?_
 .walk_at "rd"
  exact⟨t,T',v,false,rfl,s1 _ _ ht,hG,hv,λo H3 a1 _ s3=>hR _ _ ⟨o,rfl,a1 rfl,s3⟩⟩
 rintro σ H3 ⟨ah,rfl,hA,s3⟩
 refine Zaj (fun σ Hx=>∃bh,σ=[some (.ref t),some (.ref x),some (.ref l),some (.int (v:Int)),some (.int (i:Int)),some (.ref fa),some (.ref la),some (optN ah),some (optN bh),none]/\BehindIs T' v bh/\Zd H3 Hx) (λR hR=>?_) ?_
 .walk_at "rd"
  exact⟨t,T',v,true,rfl,(s1.trans s3) _ _ ht,hG,hv,λo H4 _ a2 s4=>hR _ _ ⟨o,rfl,a2 rfl,s4⟩⟩
 rintro σ H4 ⟨bh,rfl,hB,s4⟩
 replace hfa:=s4 _ _ (s3 _ _ hfa)
 replace hla:=s4 _ _ (s3 _ _ hla)
 replace s1:=s1.trans (s3.trans s4)
 clear s3 s4 H2 H3
 refine Zaj (fun σ Hx=>∃fb fs v9,σ=[some (.ref t),some (.ref x),some (.ref l),some (.int (v:Int)),some (.int (i:Int)),some (.ref fb),some (.ref la),some (optN ah),some (optN bh),v9]/\Hx fb=some (.lst (fs.map V.int))/\fs.length<=16/\FsOk ts tab i ah fs/\Zd H4 Hx) (λR hR=>?_) ?_
 .walk_at "rd"
  cases ah with
  |none=>exact Zy (λz=>absurd rfl z) λ_=>hR _ _ ⟨fa,_,none,rfl,hfa,by simp,rfl,Zd.refl H4⟩
  |some c =>
   refine Zy (λ_=>?_) λz=>absurd (λy=>nomatch y) z
   obtain⟨c1,c2,c3⟩:=hA
   obtain⟨hc,hcl⟩:=hk c c2 c3
   obtain⟨as,l1,_,l3,l4⟩:=hl.same s1
   obtain⟨a,ea,ha⟩:=tbl_get l3 l4 hc
   obtain⟨vals,p1,p2,p3⟩:=ha
   have hx4:=s1 _ _ hx
   refine⟨⋯,⋯,?_⟩
   rw[show((i:Nat):Int).toNat=i by omega]
   refine Zad (n:=i) (λj=>decide (nth ts i<nth ts j/\((tab.getD c []).getD j none).isSome=true)) (λj=>vals.getD j .non) (YA (show _<=1000 by omega) nofun) (λj Hz s hj=>hj) (λHz s=>Ye _) ?_ ?_
   .rintro j y Hz Hw hj sz ⟨rfl,rfl⟩
    rw[show(0:Int)+(j:Int)=((j:Nat):Int) by omega]
    walk_at "rd"
    obtain⟨w,ew,hw⟩:=pt_get p2 p3 (show j<(tab.getD c []).length by omega)
    have hw':=hw.same sz
    have evg:=getD_of ew
    refine⟨_,SqL.of (sz _ _ hx4),_,ZY ⋯,_,SqL.of (sz _ _ hx4),_,ZY ⋯,_,rfl,_,rfl,Zy (λc1=>?_) λc1=>CF.skip hj (Yt λz=>c1 z.1) sz⟩
    refine⟨_,_,rfl,SqL.of (sz _ _ l1),_,ea,a,rfl,_,SqL.of (sz _ _ p1),_,ew,Zy (λc2=>⟨_,_,rfl,SqL.of (sz _ _ l1),_,ea,a,rfl,_,SqL.of (sz _ _ p1),_,ew,CF.take hj (Yu ⟨c1,?_⟩) evg.symm sz⟩) λc2=>CF.skip hj (Yt λz=>?_) sz⟩
    .cases e:((tab.getD c []).getD j none).isSome with
     |true=>rfl
     |false=>exact absurd ((pt_non hw').mpr e) c2
    .have z1:=z.2
     rw[(pt_non hw').mp (Decidable.of_not_not c2)]at z1
     cases z1
   .intro lf Hz sz hlf
    have hjs:∀j,j∈((List.range i).filter λj=>decide (nth ts i<nth ts j/\((tab.getD c []).getD j none).isSome=true))↔j<i/\nth ts i<nth ts j/\((tab.getD c []).getD j none).isSome=true:=λj=>by
     rw[YO,Yq,decide_eq_true_iff]
    have hjl:((List.range i).filter λj=>decide (nth ts i<nth ts j/\((tab.getD c []).getD j none).isSome=true)).length<=i:=by
     have:=Jc (λj=>decide (nth ts i<nth ts j/\((tab.getD c []).getD j none).isSome=true)) (List.range i)
     rwa [YX]at this
    generalize ((List.range i).filter λj=>decide (nth ts i<nth ts j/\((tab.getD c []).getD j none).isSome=true))=js at hjs hjl⊢
    have g1:=sz.Zai (o:=.lst (js.map λj=>vals.getD j .non)) hlf
    have h1:=Zc (H:=Hz) (a:=lf) (o:=.lst (js.map λj=>vals.getD j .non))
    generalize upd Hz lf (.lst (js.map λj=>vals.getD j .non))=H5 at g1 h1⊢
    refine⟨lf,rfl,⟨_,SqL.of h1⟩,?_⟩
    refine Zad (n:=js.length) (λk=>decide ((ptAt (tab.getD c []) (js.getD k 0)).2<i)) (λk=>V.int (ptAt (tab.getD c []) (js.getD k 0)).1) (YA (show _<=1000 by omega) nofun) (λk Hz s hk=>⟨_,_,SqL.of (s _ _ h1),Yf (by simpa using hk)⟩) (λHz s=>⟨_,SqL.of (s _ _ h1),by simp⟩) ?_ ?_
    .rintro k y Hz Hw hk sz ⟨rfl,hy⟩
     have ey:=hy _ (SqL.of (sz _ _ h1))
     rw[YG,Yf hk]at ey
     cases ey
     have ejk:js.getD k 0=js[k]:=by rw[Yg,Yf hk];rfl
     obtain⟨q1,q2,q3⟩:=(hjs js[k]).mp (YK hk)
     obtain⟨w,ew,hw⟩:=pt_get p2 p3 (show js[k]<(tab.getD c []).length by omega)
     have eb:(λj=>vals.getD j V.non) js[k]=w:=getD_of ew
     rw[eb]
     obtain⟨b,rfl,hb⟩:=pt_some (hw.same (g1.trans sz)) q3
     walk_at "rd"
     refine⟨_,SqT.of hb,_,rfl,_,rfl,?_⟩
     rw[<-ejk]at hb⊢
     exact Zy (λc2=>⟨_,SqT.of hb,_,rfl,CF.take hk (Yu c2) rfl sz⟩) λc2=>CF.skip hk (Yt c2) sz
    .intro lg Hw sw hlg
     have e:(((List.range js.length).filter λk=>decide ((ptAt (tab.getD c []) (js.getD k 0)).2<i)).map λk=>V.int (ptAt (tab.getD c []) (js.getD k 0)).1)=(((List.range js.length).filter λk=>decide ((ptAt (tab.getD c []) (js.getD k 0)).2<i)).map λk=>(ptAt (tab.getD c []) (js.getD k 0)).1).map V.int:=by rw[YZ];rfl
     rw[e]
     refine hR _ _ ⟨lg,_,_,rfl,Zc,?_,λy=>?_,g1.trans (sw.Zai hlg)⟩
     .have:=Jc (λk=>decide ((ptAt (tab.getD c []) (js.getD k 0)).2<i)) (List.range js.length)
      rw[YX]at this
      rw[Yh];omega
     .rw[YH]
      constructor
      .rintro⟨k,hk,rfl⟩
       obtain⟨k1',k2'⟩:=YO.mp hk
       have k3:=Yq.mp k1'
       have ejk:js.getD k 0=js[k]:=by rw[Yg,Yf k3];rfl
       obtain⟨q1,q2,q3⟩:=(hjs js[k]).mp (YK k3)
       rw[ejk]at k2'⊢
       exact⟨js[k],⟨q1,q3,q2,Y2 k2'⟩,rfl⟩
      .rintro⟨j,⟨f1,f2,f3,f4⟩,rfl⟩
       obtain⟨k,hk,ek⟩:=List.mem_iff_getElem.mp ((hjs j).mpr ⟨f1,f3,f2⟩)
       have ejk:js.getD k 0=j:=by rw[Yg,Yf hk];exact ek
       exact⟨k,YO.mpr ⟨Yq.mpr hk,Yu (by rw[ejk];exact f4)⟩,by rw[ejk]⟩
 rintro σ H5 ⟨fb,fs,v9,rfl,hfb,hfl,hFs,s5⟩
 replace hla:=s5 _ _ hla
 replace s1:=s1.trans s5
 clear hfa s5 H4
 refine Zaj (fun σ Hx=>∃lb ls v9,σ=[some (.ref t),some (.ref x),some (.ref l),some (.int (v:Int)),some (.int (i:Int)),some (.ref fb),some (.ref lb),some (optN ah),some (optN bh),v9]/\Hx lb=some (.lst (ls.map V.int))/\ls.length<=16/\LsOk ts tab i bh ls/\Zd H5 Hx) (λR hR=>?_) ?_
 .walk_at "rd"
  cases bh with
  |none=>exact Zy (λz=>absurd rfl z) λ_=>hR _ _ ⟨la,_,_,rfl,hla,by simp,rfl,Zd.refl H5⟩
  |some c =>
   refine Zy (λ_=>?_) λz=>absurd (λy=>nomatch y) z
   obtain⟨c1,c2,c3⟩:=hB
   obtain⟨hc,hcl⟩:=hk c c2 c3
   obtain⟨as,l1,_,l3,l4⟩:=hl.same s1
   obtain⟨a,ea,ha⟩:=tbl_get l3 l4 hc
   obtain⟨vals,p1,p2,p3⟩:=ha
   have hx4:=s1 _ _ hx
   refine⟨_,.inl (SqL.of hx4),⋯,⋯,⋯,⋯,?_⟩
   rw[eX,show((ts.length:Int)-((i:Int)+1)).toNat=ts.length-(i+1) by omega]
   refine Zad (n:=ts.length-(i+1)) (λk=>decide (nth ts i<=nth ts (i+1+k))) (λk=>vals.getD (i+1+k) .non) (YA (show _<=1000 by omega) nofun) (λj Hz s hj=>hj) (λHz s=>Ye _) ?_ ?_
   .rintro k y Hz Hw hk' sz ⟨rfl,rfl⟩
    rw[show(i:Int)+1+(k:Int)=((i+1+k:Nat):Int) by omega]
    walk_at "rd"
    obtain⟨w,ew,hw⟩:=pt_get p2 p3 (show i+1+k<(tab.getD c []).length by omega)
    have evg:=getD_of ew
    refine⟨_,SqL.of (sz _ _ hx4),_,ZY ⋯,_,SqL.of (sz _ _ hx4),_,ZY ⋯,_,rfl,_,rfl,Zy (λc1=>?_) λc1=>CF.skip hk' (Yt c1) sz⟩
    exact⟨_,_,rfl,SqL.of (sz _ _ l1),_,ea,a,rfl,_,SqL.of (sz _ _ p1),_,ew,CF.take hk' (Yu c1) evg.symm sz⟩
   .intro lf Hz sz hlf
    have eJ:(((List.range (ts.length-(i+1))).filter λk=>decide (nth ts i<=nth ts (i+1+k))).map λk=>vals.getD (i+1+k) V.non)=(((List.range (ts.length-(i+1))).filter λk=>decide (nth ts i<=nth ts (i+1+k))).map λk=>i+1+k).map λj=>vals.getD j V.non:=by rw[YZ];rfl
    rw[eJ]
    have hjs:∀j,j∈(((List.range (ts.length-(i+1))).filter λk=>decide (nth ts i<=nth ts (i+1+k))).map λk=>i+1+k)↔i<j/\j<ts.length/\nth ts i<=nth ts j:=λj=>by
     rw[YH]
     constructor
     .rintro⟨k,hk',rfl⟩
      obtain⟨z1,z2⟩:=YO.mp hk'
      have:=Yq.mp z1
      exact⟨⋯,⋯,Y2 z2⟩
     .rintro⟨z1,z2,z3⟩
      refine⟨j-(i+1),YO.mpr ⟨Yq.mpr ⋯,Yu ?_⟩,⋯⟩
      rw[show i+1+(j-(i+1))=j by omega];exact z3
    have hjl:(((List.range (ts.length-(i+1))).filter λk=>decide (nth ts i<=nth ts (i+1+k))).map λk=>i+1+k).length<=16:=by
     have:=Jc (λk=>decide (nth ts i<=nth ts (i+1+k))) (List.range (ts.length-(i+1)))
     rw[YX]at this
     rw[Yh];omega
    generalize (((List.range (ts.length-(i+1))).filter λk=>decide (nth ts i<=nth ts (i+1+k))).map λk=>i+1+k)=js at hjs hjl⊢
    have g1:=sz.Zai (o:=.lst (js.map λj=>vals.getD j .non)) hlf
    have h1:=Zc (H:=Hz) (a:=lf) (o:=.lst (js.map λj=>vals.getD j .non))
    generalize upd Hz lf (.lst (js.map λj=>vals.getD j .non))=H6 at g1 h1⊢
    refine⟨lf,rfl,⟨_,SqL.of h1⟩,?_⟩
    refine Zad (n:=js.length) (λk=>decide (((tab.getD c []).getD (js.getD k 0) none).isSome=true/\(i:Int)<(ptAt (tab.getD c []) (js.getD k 0)).1)) (λk=>V.int (ptAt (tab.getD c []) (js.getD k 0)).2) (YA (show _<=1000 by omega) nofun) (λk Hz s hk=>⟨_,_,SqL.of (s _ _ h1),Yf (by simpa using hk)⟩) (λHz s=>⟨_,SqL.of (s _ _ h1),by simp⟩) ?_ ?_
    .rintro k y Hz Hw hk sz ⟨rfl,hy⟩
     have ey:=hy _ (SqL.of (sz _ _ h1))
     rw[YG,Yf hk]at ey
     cases ey
     have ejk:js.getD k 0=js[k]:=by rw[Yg,Yf hk];rfl
     obtain⟨q1,q2,q3⟩:=(hjs js[k]).mp (YK hk)
     obtain⟨w,ew,hw⟩:=pt_get p2 p3 (show js[k]<(tab.getD c []).length by omega)
     have eb:(λj=>vals.getD j V.non) js[k]=w:=getD_of ew
     rw[eb]
     have hw':=hw.same (g1.trans sz)
     walk_at "rd"
     refine Zy (λc2=>?_) λc2=>CF.skip hk (Yt λz=>?_) sz
     .have hs:((tab.getD c []).getD js[k] none).isSome=true:=by
       cases e:((tab.getD c []).getD js[k] none).isSome with
       |true=>rfl
       |false=>exact absurd ((pt_non hw').mpr e) c2
      obtain⟨b,rfl,hb⟩:=pt_some hw' hs
      refine⟨b,rfl,_,SqT.of hb,_,rfl,_,rfl,?_⟩
      rw[<-ejk]at hb hs⊢
      exact Zy (λc3=>⟨b,rfl,_,SqT.of hb,_,rfl,CF.take hk (Yu ⟨hs,c3⟩) rfl sz⟩) λc3=>CF.skip hk (Yt λz=>c3 z.2) sz
     .have z1:=z.1
      rw[ejk,(pt_non hw').mp (Decidable.of_not_not c2)]at z1
      cases z1
    .intro lg Hw sw hlg
     have e:(((List.range js.length).filter λk=>decide (((tab.getD c []).getD (js.getD k 0) none).isSome=true/\(i:Int)<(ptAt (tab.getD c []) (js.getD k 0)).1)).map λk=>V.int (ptAt (tab.getD c []) (js.getD k 0)).2)=(((List.range js.length).filter λk=>decide (((tab.getD c []).getD (js.getD k 0) none).isSome=true/\(i:Int)<(ptAt (tab.getD c []) (js.getD k 0)).1)).map λk=>(ptAt (tab.getD c []) (js.getD k 0)).2).map V.int:=by rw[YZ];rfl
     rw[e]
     refine hR _ _ ⟨lg,_,_,rfl,Zc,?_,λy=>?_,g1.trans (sw.Zai hlg)⟩
     .have:=Jc (λk=>decide (((tab.getD c []).getD (js.getD k 0) none).isSome=true/\(i:Int)<(ptAt (tab.getD c []) (js.getD k 0)).1)) (List.range js.length)
      rw[YX]at this
      rw[Yh];omega
     .rw[YH]
      constructor
      .rintro⟨k,hk,rfl⟩
       obtain⟨k1',k2'⟩:=YO.mp hk
       have k3:=Yq.mp k1'
       have ejk:js.getD k 0=js[k]:=by rw[Yg,Yf k3];rfl
       obtain⟨q1,q2,q3⟩:=(hjs js[k]).mp (YK k3)
       rw[ejk]at k2'⊢
       have k4:=Y2 k2'
       exact⟨js[k],⟨q1,q2,k4.1,q3,k4.2⟩,rfl⟩
      .rintro⟨j,⟨f1,f2,f3,f4,f5⟩,rfl⟩
       obtain⟨k,hk,ek⟩:=List.mem_iff_getElem.mp ((hjs j).mpr ⟨f1,f2,f4⟩)
       have ejk:js.getD k 0=j:=by rw[Yg,Yf hk];exact ek
       exact⟨k,YO.mpr ⟨Yq.mpr hk,Yu (by rw[ejk];exact⟨f3,f5⟩)⟩,by rw[ejk]⟩
 rintro σ H6 ⟨lb,ls,v9,rfl,hlb,hll,hLs,s6⟩
 replace hfb:=s6 _ _ hfb
 replace s1:=s1.trans s6
 clear hla s6 H5
 walk_at "rd"
 refine⟨Yo _,λp zp=>?_⟩
 have g1:=(Zd.refl H6).upd (o:=.lst []) zp
 refine⟨_,ZiL (g1 _ _ hfb) Zc,Zy (λz=>?_) λz=>⟨Yo _,λp2 zp2=>?_⟩⟩
 .have e:fs=[]:=by simpa using z
  subst e
  obtain⟨b,hb⟩:=last_ex ts tab i bh
  exact k1 .non none ah bh _ hA hB ⟨none,b,fs_none hFs,hb,both_left.symm⟩ rfl (s1.trans g1)
 have nf:fs≠[]:=by simpa using z
 have g2:=(Zd.refl (upd H6 p (.lst []))).upd (o:=.lst []) zp2
 have gA:=g1.trans g2
 refine⟨_,ZiL (gA _ _ hlb) Zc,Zy (λz=>?_) λz=>?_⟩
 .have e:ls=[]:=by simpa using z
  subst e
  obtain⟨a,ha⟩:=first_ex ts tab i ah
  exact k1 .non none ah bh _ hA hB ⟨a,none,ha,ls_none hLs,both_right.symm⟩ rfl (s1.trans gA)
 have nl:ls≠[]:=by simpa using z
 refine⟨fs,SqL.of (gA _ _ hfb),nf,λm hm hmx=>⟨ls,SqL.of (gA _ _ hlb),nl,λm2 hm2 hmx2=>⟨by decide,λq zq=>?_⟩⟩⟩
 exact k1 (.ref q) (some (m,m2)) ah bh _ hA hB ⟨some m,some m2,fs_some hFs hm hmx,ls_some hLs hm2 hmx2,rfl⟩ ⟨q,rfl,Zc⟩ ((s1.trans gA).Zai zq)
theorem len_filter_lt {α:Type}{p q:α->Bool}{a:α}:∀{l:List α},(∀x∈l,p x=true->q x=true)->a∈l->q a=true->p a=false->(l.filter p).length<(l.filter q).length
 |[],_,h,_,_=>absurd h (by simp)
 |b::l,hpq,h,h1,h2=>by
  have le:(l.filter p).length<=(l.filter q).length:=by
   clear h h1 h2 a
   induction l with
   |nil=>exact Ye _
   |cons c l ih =>
    have ih:=ih λx hx=>hpq x (by simp only[Yi]at hx⊢;rcases hx with z|z<;>simp[z])
    by_cases c1:p c=true
    .rw[List.filter_cons_of_pos c1,List.filter_cons_of_pos (hpq c (by simp) c1)];simpa using ih
    .rw[List.filter_cons_of_neg c1]
     by_cases c2:q c=true
     .rw[List.filter_cons_of_pos c2];simp only[YI];omega
     .rw[List.filter_cons_of_neg c2];exact ih
  rcases Yi.mp h with z|z
  .subst z
   rw[List.filter_cons_of_neg (by rw[h2];decide),List.filter_cons_of_pos h1];simp only[YI];omega
  .have ih:=len_filter_lt (λx hx=>hpq x (Yz _ hx)) z h1 h2
   by_cases c1:p b=true
   .rw[List.filter_cons_of_pos c1,List.filter_cons_of_pos (hpq b (by simp) c1)];simpa using ih
   .rw[List.filter_cons_of_neg c1]
    by_cases c2:q b=true
    .rw[List.filter_cons_of_pos c2];simp only[YI];omega
    .rw[List.filter_cons_of_neg c2];exact ih
theorem unI_kid {ns T:List Int} (hT:Zq ns T) {c v:Nat} (hc:c<T.length) (hv:v<T.length) (h:nth T c=v):unI T (c:Int)<unI T (v:Int):=by
 have eT:=hT.1
 have wc:=ZbN hT (p:=c) ⋯ h
 have key:unN T c<unN T v:=by
  unfold unN
  refine len_filter_lt (a:=v) (λo ho z=>?_) (Yq.mpr hv) (Yu (.inl rfl)) (Yt λz=>?_)
  .have ho:=Yq.mp ho
   refine Yu (.inr ?_)
   rcases Y2 z with z|z
   .subst z;rw[wc];simp
   .obtain⟨X,e⟩:=ZiM hT _ o c ⋯ rfl z
    rw[e,wc];simp
  .rcases z with z|z
   .subst z
    have:=congrArg List.length wc
    simp at this
   .obtain⟨X,e⟩:=ZiM hT _ v c ⋯ rfl z
    have:=congrArg List.length e
    rw[wc]at this
    simp at this
    omega
 unfold unI
 simp only[Jf]
 omega
theorem kid_firstU {ns T qs:List Int} (hT:Zq ns T) (hpm:qs.Perm (nats (T.length:Int))) (hpw:qs.Pairwise λx y=>unI T x<=unI T y) {k c v:Nat} (e:qs[k]?=some (v:Int)) (hc:c<T.length) (h:nth T c=v):(c:Int)∈qs.take k:=by
 have eT:=hT.1
 have hvm:=hpm.mem_iff.mp (List.mem_of_getElem? e)
 obtain⟨v',hv',ev'⟩:=YH.mp hvm
 have hvT:v<T.length:=by have:=Yq.mp hv';omega
 have hd:=unI_kid hT hc hvT h
 have hm:(c:Int)∈qs:=hpm.mem_iff.mpr (YH.mpr ⟨c,Yq.mpr ⋯,rfl⟩)
 obtain⟨m,hm1,em⟩:=YU hm
 obtain⟨hk,ek⟩:=Yr.mp e
 by_cases hlt:m<k
 .exact List.mem_take_iff_getElem.mpr ⟨m,⋯,em⟩
 .exfalso
  by_cases he:m=k
  .subst he
   rw[em]at ek
   rw[ek]at hd;omega
  .have:=List.pairwise_iff_getElem.mp hpw k m hk hm1 ⋯
   rw[em,ek]at this
   omega
theorem DoneAt.newE {T ts:List Int}{tab:List (List Pt)}{v:Nat}{rs:List Pt} (hv:v<tab.length) (hl:rs.length=ts.length) (hk:∀c,c<T.length->nth T c=v->c≠v) (h:∀i,i<ts.length->∃ah bh,AheadIs T v ah/\BehindIs T v bh/\RuledIs ts tab i ah bh (rs.getD i none)):DoneAt T ts (tab.set v rs) v:=by
 unfold DoneAt
 rw[getD_setS hv]
 refine⟨hl,λi hi=>?_⟩
 obtain⟨ah,bh,hA,hB,hR⟩:=h i hi
 exact⟨ah,bh,hA,hB,ruled_set hA hB hk hR⟩
theorem ok__law_table {f:Addr}{fd:FuncData} (F:Fun K "_law_table" "_law_table" s__law_table f fd) (ZR:Callee P w K mg base "_law_tree" 2 ["row"] (sp__law_tree K mg)) (ZcX:Callee P w K mg base "_law_under" 2 ["tree","place"] (sp__law_under K mg)) (ZcY:Callee P w K mg base "_law_ruled" 2 ["tree","text","table","place","at"] (sp__law_ruled K mg)) (L:Zjs K mg "_law_table" f) (B:BM mg base) (T:Txt K mg):FnOk P w K mg base (CXE P w) 6 f fd ["row","text"] (sp__law_table K mg):=by
 refine F.okL L B sc__law_table (λvs H Q E h=>?_) (λcdv A outer s H vs Q E LI hr h=>?_)
 .obtain⟨t,x,T,ts,rfl,_⟩:=h;rfl
 obtain⟨r,x,ns,ts,rfl,hr0,hx,h6,h16,hTb,k1⟩:=h
 refine⟨_,(Ze (Zs (i:=2) sc__law_table.nd rfl (Or.inr rfl) (Zi ZR (hr.mono nofun) rfl Zx (Za (pv 0) Zb)))
   (Ze (Zs (i:=3) sc__law_table.nd rfl (Or.inr rfl) (Z2 ["place"] [none] rfl rfl rfl (Zao (pv 0)) (λ_ _ _ _ _=>(Zn (i:=0) (show(["place"]:List Str).Nodup from by decide +kernel) rfl (Or.inl rfl))) (λ_ _ _ _ _=>ZW) (λ_ _ _ _ _=>(ZQ Zb)) Zt))
   (Ze (ZaC (Zbj PassesOwn.never rfl (Zao (Zm2 (Nc:=["place","tree"]) (js:=[none,some 2]) (pn:="place") (q:=Zfv "_law_table") (P:=Zd1 K mg "_law_table") rfl hr ⟨rfl,rfl,rfl,rfl,rfl,rfl,rfl,λ_ _ _ _ _ _=>rfl⟩ (λ_ _ _ _ _ _=>(Zk (Zp (K:=K) rfl) rfl T.b_len YC (Za (Zi ZcX ((hr.in1.in1.deeper _).mono nofun) rfl Zx (Za (pv 1) (Za (pv 0) Zb))) Zb))) rfl T.b_sorted (Za (ZiD rfl T.b_range (Za (Zk (Zp (K:=K) rfl) rfl T.b_len YC (Za (pv 0) Zb)) Zb)) Zb) (ZcP (Zjr ⟨LI.code,LI.bm,LI.ql⟩ rfl) Zi2))) (Zn (i:=4) sc__law_table.nd rfl (Or.inr rfl)) (Zg (ZcM (Z2 ["at","tree","text","table","place"] [none,some 2,some 1,some 3,some 4] rfl rfl rfl (ZJ rfl T.b_range (Za (Zk (Zp (K:=K) rfl) rfl T.b_len YC (Za (pv 1) Zb)) Zb)) (λ_ _ _ _ _=>(Zn (i:=0) (show(["at","tree","text","table","place"]:List Str).Nodup from by decide +kernel) rfl (Or.inl rfl))) (λ_ _ _ _ _=>ZW) (λ_ _ _ _ _=>(Zi ZcY (hr.mono nofun) rfl Zx (Za (pv 1) (Za (pv 2) (Za (pv 3) (Za (pv 4) (Za (pv 0) Zb))))))) Zt) (Zf0 (pv 3) (pv 4) set_list (λ_=>rfl))))))
   (Zg (Zu (pv 3)))))),?_⟩
 have eX:(ts.map V.int).length=ts.length:=Yh ..
 have eN:(ns.map V.int).length=ns.length:=Yh ..
 walk_at "rd"
 refine⟨r,ns,rfl,.inl (SqL.of hr0),⋯,.inl λt T' H1 hT s1 ht=>⟨⟨_,SqL.of (s1 _ _ hr0)⟩,?_⟩⟩
 have eT:=hT.1
 have hG:Zbh T':=⟨⋯,ns,hT⟩
 refine Zam (n:=ns.length) (λj acc Hz=>∃as:List Addr,acc=as.map V.ref/\as.length=j/\(∀a∈as,Hz a=some (.lst []))/\Zd H1 Hz) (YA (show _<=1000 by omega) nofun) ⟨[],rfl,rfl,(λa ha=>absurd ha (by simp)),Zd.refl H1⟩ (λj acc Hz ⟨_,_,_,_,e⟩ hj=>⟨_,_,SqL.of ((s1.trans e) _ _ hr0),nthV hj⟩) (λacc Hz ⟨_,_,_,_,e⟩=>⟨_,SqL.of ((s1.trans e) _ _ hr0),Ji eN⟩) ?_ ?_
 .rintro j w acc Hz Hw hj hla ⟨as,rfl,hal,has,sz⟩ ⟨rfl,hx⟩
  walk_at "rd"
  refine⟨Yo _,λp zp=>CA.take hj hla ⟨as++[p],by simp,by simp[hal],λa ha=>?_,sz.Zai zp⟩⟩
  rcases Yw.mp ha with z|z
  .exact((Zd.refl _).upd zp) _ _ (has a z)
  .have:a=p:=by simpa using z
   subst this
   exact Zc
 rintro l acc Hz ⟨as,rfl,hal,has,sz⟩ _ zl
 have gl:=(Zd.refl Hz).upd (o:=.lst (as.map V.ref)) zl
 have TB:TblAt (upd Hz l (.lst (as.map V.ref))) l (List.replicate T'.length []):=⟨as,Zc,(λz=>by rw[has _ z]at zl;cases zl),by simp[hal,eT],λi a ps e1 e2=>by
  have:ps=[]:=by
   rw[List.getElem?_replicate]at e2
   split at e2
   .cases e2;rfl
   .cases e2
  subst this
  exact⟨[],gl _ _ (has a (List.mem_of_getElem? e1)),rfl,λi v p h=>by simp at h⟩⟩
 have s2:=sz.trans gl
 have zl1:H1 l=none:=sz.free zl
 have htl:(List.replicate T'.length ([]:List Pt)).length=T'.length:=by simp
 generalize upd Hz l (.lst (as.map V.ref))=H2 at TB s2⊢
 generalize List.replicate T'.length ([]:List Pt)=tab0 at TB htl
 have s02:=s1.trans s2
 have zl0:H l=none:=s1.free zl1
 refine⟨_,.inl (SqL.of (s02 _ _ hr0)),⋯,⋯,λp1 hp1=>?_⟩
 rw[eN]
 have g1:=(Zd.refl H2).Zai (o:=.rng 0 (ns.length:Int)) hp1
 have h1:=Zc (H:=H2) (a:=p1) (o:=.rng 0 (ns.length:Int))
 generalize upd H2 p1 (.rng 0 (ns.length:Int))=H4 at g1 h1⊢
 refine⟨g1 _ _ (s02 _ _ hTb),λf1 H5 zf s5 LO=>⟨_,s5 _ _ h1,⋯,⋯,LO,unI T',λi H6 i0 i1 s6=>?_,λps o H3 hpm hpw s6 zo ho=>?_⟩⟩
 .obtain⟨j,rfl⟩:=Y8 i0
  have g6:=(g1.trans s5).trans s6
  exact⟨t,T',j,rfl,g6 _ _ (s2 _ _ ht),hG,λw us H7 zw hw hl s7=>⟨w,rfl,_,.inl (SqL.of hw),by rw[hl.1];rfl,s7⟩⟩
 have s3:Zd H2 H3:=(g1.trans s5).trans s6
 have s03:=s02.trans s3
 have nd:ps.Nodup:=hpm.nodup_iff.mpr (nats_nodup _)
 rw[show((ns.length:Nat):Int)=(T'.length:Int) by omega]at hpm
 obtain⟨as0,hla0,_⟩:=id TB
 have nlo:o≠l:=λz=>by rw[z,(g1.trans s5) _ _ hla0]at zo;cases zo
 refine⟨⟨_,SqL.of ho⟩,?_⟩
 refine Zhh (xs:=ps.map V.int) (λk σ Hx=>∃(v4:Option V) (tab:List (List Pt)),σ=[some (.ref r),some (.ref x),some (.ref t),some (.ref l),v4]/\TblAt Hx l tab/\tab.length=T'.length/\(∀v:Nat,(v:Int)∈ps.take k->DoneAt T' ts tab v)/\Exc l H3 Hx) ⟨none,tab0,rfl,TB.same s3,htl,(λv h=>absurd h (by simp)),(Zd.refl H3).ZcE⟩ (λk σ Hx _ ⟨_,_,_,_,_,_,e⟩=>SqL.of (e _ _ nlo ho)) ?_ ?_
 .rintro k w σ Hx hw ⟨v4,tab,rfl,TBx,htx,hdone,ex⟩
  obtain⟨v,rfl,hpk,hvT⟩:∃v:Nat,w=V.int (v:Int)/\ps[k]?=some (v:Int)/\v<T'.length:=by
   rw[YG]at hw
   cases e:ps[k]? with
   |none=>rw[e]at hw;cases hw
   |some u =>
    rw[e]at hw;cases hw
    obtain⟨v,hv,rfl⟩:=YH.mp (hpm.mem_iff.mp (List.mem_of_getElem? e))
    exact⟨v,rfl,rfl,by have:=Yq.mp hv;omega⟩
  have hv0:(v:Int)∉ps.take k:=λz=>by
   obtain⟨m,hm,em⟩:=List.mem_take_iff_getElem.mp z
   obtain⟨hi,ei⟩:=Yr.mp hpk
   have:=(List.getElem_inj nd (h₀:= ⋯) (h₁:=hi)).mp (em.trans ei.symm)
   omega
  have kidT:∀c,c<T'.length->nth T' c=v->(c:Int)∈ps.take k:=λc hc e=>kid_firstU hT hpm hpw hpk hc e
  have kidV:∀c,c<T'.length->nth T' c=v->c≠v:=λc hc e z=>hv0 (z▸kidT c hc e)
  have sHx:Zd H Hx:=s03.exc zl0 ex
  have s1x:Zd H1 Hx:=(s2.trans s3).exc zl1 ex
  have kC:∀c,c<T'.length->nth T' c=v->c<tab.length/\(tab.getD c []).length=ts.length:=λc hc e=>⟨⋯,(hdone c (kidT c hc e)).1⟩
  walk_at "rd"
  refine⟨_,.inl (SqL.of (sHx _ _ hx)),⋯,⋯,?_⟩
  rw[eX,show((ts.length:Nat):Int).toNat=ts.length by omega]
  refine Zam (n:=ts.length) (λj acc Hz=>∃rs:List Pt,acc.length=j/\rs.length=j/\(∀(i:Nat) (u:V) (p:Pt),acc[i]?=some u->rs[i]?=some p->PairAt Hz u p)/\(∀i,i<j->∃ah bh,AheadIs T' v ah/\BehindIs T' v bh/\RuledIs ts tab i ah bh (rs.getD i none))/\Zd Hx Hz) (YA (show _<=1000 by omega) nofun) ⟨[],rfl,rfl,(λi u p h=>by simp at h),(λi h=>absurd h ⋯),Zd.refl Hx⟩ (λj acc Hz _ hj=>hj) (λacc Hz _=>Ye _) ?_ ?_
  .rintro j u acc Hz Hw hj hla ⟨rs,hal,hrl,hpr,hru,sz⟩ ⟨rfl,rfl⟩
   rw[show(0:Int)+(j:Int)=((j:Nat):Int) by omega]
   walk_at "rd"
   refine⟨t,x,l,T',ts,tab,v,j,rfl,(s1x.trans sz) _ _ ht,(sHx.trans sz) _ _ hx,TBx.same sz,hG,hvT,hj,h16,kC,λu p ah bh H5 hA hB hR hP s5=>CA.take hj hla ⟨by simp[hal],rs++[p],by simp[hrl],λi u' p' e1 e2=>?_,λi hi=>?_,sz.trans s5⟩⟩
   .by_cases c:i<j
    .rw[Y5 ⋯]at e1 e2
     exact(hpr i u' p' e1 e2).same s5
    .have h1:=(Yr.mp e1).1
     have:i=j:=by simp at h1;omega
     subst this
     rw[YV ⋯,hal,Nat.sub_self]at e1
     rw[YV ⋯,hrl,Nat.sub_self]at e2
     cases e1;cases e2;exact hP
   .by_cases c:i<j
    .rw[Yg,Y5 ⋯,<-Yg]
     obtain⟨ah',bh',hA',hB',hR'⟩:=hru i c
     exact⟨ah',hA',bh',hB',hR'⟩
    .have:i=j:= ⋯
     subst this
     rw[Yg,YV ⋯,hrl,Nat.sub_self]
     exact⟨ah,hA,bh,hB,hR⟩
  .rintro r2 acc Hz ⟨rs,hal,hrl,hpr,hru,sz⟩ _ zr
   have gr:=(Zd.refl Hz).upd (o:=.lst acc) zr
   obtain⟨as,hla,hasn,hasl,hasp⟩:=TBx
   have hlz:=gr _ _ (sz _ _ hla)
   have hrr:=Zc (H:=Hz) (a:=r2) (o:=.lst acc)
   have nrl:r2≠l:=λz=>by rw[z,sz _ _ hla]at zr;cases zr
   have szr:=sz.trans gr
   generalize upd Hz r2 (.lst acc)=H6 at gr hlz hrr szr⊢
   refine⟨_,hlz,v,Zfn (by rw[Yh];omega),tab.set v rs,⟨as.set v r2,by rw[Zc,List.map_set],λz=>?_,by simp[hasl],λi b qs e1 e2=>?_⟩,by simp[htx],λw hw=>?_,(ex.same szr).trans Exc.upd⟩
   .rcases List.mem_or_eq_of_mem_set z with z|z
    .exact hasn z
    .exact nrl z.symm
   .by_cases c:i=v
    .subst c
     rw[List.getElem?_set_self ⋯]at e1 e2
     cases e1;cases e2
     exact⟨acc,by rw[Zh nrl];exact hrr,⋯,λi u p f1 f2=>((hpr i u p f1 f2).same gr).excL hlz Exc.upd⟩
    .rw[List.getElem?_set_ne (Ne.symm c)]at e1 e2
     obtain⟨vals,g1,g2,g3⟩:=(hasp i b qs e1 e2).same szr
     have nb:b≠l:=λz=>hasn (z▸List.mem_of_getElem? e1)
     exact⟨vals,by rw[Zh nb];exact g1,g2,λi u p f1 f2=>(g3 i u p f1 f2).excL hlz Exc.upd⟩
   .rw[List.take_succ,hpk]at hw
    rcases Yw.mp hw with hw|hw
    .refine(hdone w hw).set (λz=>hv0 (z▸hw)) λc hc e z=>?_
     obtain⟨m,hm,em⟩:=List.mem_take_iff_getElem.mp hw
     have:=kid_firstU hT hpm hpw (k:=m) (c:=c) (v:=w) (Yr.mpr ⟨⋯,em⟩) hc e
     obtain⟨m2,hm2,em2⟩:=List.mem_take_iff_getElem.mp this
     exact hv0 (z▸List.mem_take_iff_getElem.mpr ⟨m2,⋯,em2⟩)
    .have:w=v:=by simp at hw;omega
     subst this
     exact DoneAt.newE ⋯ hrl kidV hru
 .rintro σ Hx ⟨v4,tab,rfl,TBx,htx,hdone,ex⟩
  walk_at "rd"
  refine k1 l T' tab Hx zl0 hT TBx ⟨htx,λv hv=>hdone v ?_⟩ (s03.exc zl0 ex)
  rw[List.take_of_length_le (by simp)]
  exact hpm.mem_iff.mpr (YH.mpr ⟨v,Yq.mpr ⋯,rfl⟩)
theorem ok__law_either {f:Addr}{fd:FuncData} (F:Fun K "_law_either" "_law_either" s__law_either f fd) (Zo:Callee P w K mg base "_law_take" 1 ["pot","many"] (sp__law_take K mg)) (T:Txt K mg):FnOk P w K mg base (CXE P w) 2 f fd ["pot","some"] (sp__law_either K mg):=by
 refine F.okX sc__law_either (λvs H Q E h=>?_) (λcdv A outer s H vs Q E hr h=>?_)
 .obtain⟨p,r,xs,rfl,_⟩:=h;rfl
 obtain⟨p,r,xs,rfl,hP,nrp,hr1,hn,k1⟩:=h
 refine⟨_,(Zg (Zu (Zm ZI (Zaw (Za (ZaD (ZcS (K:=K) rfl) rfl T.b_list Zg6 (Za (pv 1) Zb)) (Za (ZaD (Zf2 (K:=K) rfl) rfl T.b_tuple ZdW (Za (pv 1) Zb)) Zb))) (Zi Zo (hr.mono nofun) rfl Zx (Za (pv 0) (Za Zf Zb))) (λ_ _=>rfl)))),?_⟩
 walk_at "rd"
 refine⟨_,.inl (SqL.of hr1),λl hl=>?_⟩
 have g1:=(Zd.refl H).upd (o:=.lst xs) hl
 refine⟨_,.inl ⟨SqL.of (g1 _ _ hr1),λl2 hl2=>⟨by decide,λc hc=>?_⟩⟩⟩
 have g2:=(Zd.refl _).upd (o:=.tup xs) hl2
 have g3:=(Zd.refl _).upd (o:=.tup [V.ref l,V.ref l2]) hc
 have gg:=(g1.trans g2).trans g3
 have hl3:=(g2.trans g3) _ _ (Zc (H:=H) (a:=l) (o:=.lst xs))
 have hl23:=g3 _ _ (Zc (a:=l2) (o:=.tup xs) (H:=upd H l (.lst xs)))
 have nlp:l≠p:=hP.ne hl
 have nl2p:l2≠p:=(hP.same g1).ne hl2
 have ncp:c≠p:=(hP.same (g1.trans g2)).ne hc
 refine⟨p,_,rfl,by decide,by decide,hP.same gg,λd H2 d0 d1 P2 e2=>⟨_,d,rfl,SqT.of (e2 _ _ ncp Zc),?_⟩⟩
 have ex:=(Zd.refl H).ZcE.same gg |>.trans e2
 rcases(by omega:d=0\/d=1)with rfl|rfl
 .exact⟨_,rfl,k1 l H2 hl (.inl (e2 _ _ nlp hl3)) P2 ex⟩
 .exact⟨_,rfl,k1 l2 H2 (g1.free hl2) (.inr (e2 _ _ nl2p hl23)) P2 ex⟩
theorem ok__law_pair {f:Addr}{fd:FuncData} (F:Fun K "_law_pair" "_law_pair" s__law_pair f fd) (Zo:Callee P w K mg base "_law_take" 1 ["pot","many"] (sp__law_take K mg)) (ZcZ:Callee P w K mg base "_law_row" 2 ["pot","most"] (sp__law_row K mg)) (T:Txt K mg):FnOk P w K mg base (CXE P w) 3 f fd ["pot","most","wide"] (sp__law_pair K mg):=by
 refine F.okX sc__law_pair (λvs H Q E h=>?_) (λcdv A outer s H vs Q E hr h=>?_)
 .obtain⟨p,m,w,rfl,_⟩:=h;rfl
 obtain⟨p,most,wide,rfl,m1,m2,w1,w2,hP,k1⟩:=h
 refine⟨_,(Ze (Zs (i:=3) sc__law_pair.nd rfl (Or.inl rfl) (Zfi Zg4 (Zv Zhk (Zi ZcZ (hr.mono nofun) rfl Zx (Za (pv 0) (Za (pv 1) Zb))) (ZQ (Za (Zi Zo (hr.mono nofun) rfl Zx (Za (pv 0) (Za Zf Zb))) Zb))) Zi3 (Zfh (pv 1))))
   (Ze (Zs (i:=4) sc__law_pair.nd rfl (Or.inl rfl) (Zi ZcZ (hr.mono nofun) rfl Zx (Za (pv 0) (Za (pv 2) Zb))))
   (Ze (ZN (Zj ZdU (Zi Zo (hr.mono nofun) rfl Zx (Za (pv 0) (Za Zf Zb))) Zf (Zl _)) (Zg (Z3 (i:=4) ["turn","pot"] [none,some 0] sc__law_pair.nd rfl (Or.inl rfl) rfl rfl rfl (ZJ rfl T.b_range (Za (Zi Zo (hr.mono nofun) rfl Zx (Za (pv 0) (Za (Zv Zav (pv 2) Zf) Zb))) Zb)) (λ_ _ _ _ _=>(Zn (i:=0) (show(["turn","pot"]:List Str).Nodup from by decide +kernel) rfl (Or.inl rfl))) (λ_ _ _ _ _=>ZW) (λ_ _ _ _ _=>(Zi Zo (hr.mono nofun) rfl Zx (Za (pv 1) (Za Zf Zb)))) Zt)) ZA)
   (Zg (Zu (Zaw (Za (pv 3) (Za (pv 4) Zb)))))))),?_⟩
 walk_at "rd"
 refine⟨p,most,rfl,⋯,⋯,hP,λr0 ns0 H1 z0 l0 h0 P1 e1=>⟨p,3,rfl,by decide,by decide,P1,λd H2 d0 d1 P2 e2=>⟨by decide,λq1 hq1=>⟨r0,rfl,ns0.map V.int,?_,[V.int d],Zc,?_,λq2 hq2=>⟨_,SqL.of Zc,λq3 hq3=>?_⟩⟩⟩⟩⟩
 .have h2:=e2 _ _ (hP.ne z0) h0
  rw[Zh (λz=>by rw[z,hq1]at h2;cases h2)];exact h2
 .exact Y3 (YA (show _<=1000 by simp;omega) nofun)
 have ec:ZbL (ns0.map V.int++[V.int d]) none (some most)=((ns0++[d]).take most.toNat).map V.int:=by
  have:=cut_to (ns0.map V.int++[V.int d]) most.toNat
  rw[show((most.toNat:Nat):Int)=most by omega]at this
  rw[this];simp[List.map_take]
 rw[ec]
 have g1:=(Zd.refl H2).upd (o:=.lst [V.int d]) hq1
 have g2:=(Zd.refl _).upd (o:=.lst (ns0.map V.int++[V.int d])) hq2
 have g3:=(Zd.refl _).upd (o:=.lst (((ns0++[d]).take most.toNat).map V.int)) hq3
 have gg:=(g1.trans g2).trans g3
 have h3:upd (upd (upd H2 q1 (.lst [V.int d])) q2 (.lst (ns0.map V.int++[V.int d]))) q3 (.lst (((ns0++[d]).take most.toNat).map V.int)) q3=some (.lst (((ns0++[d]).take most.toNat).map V.int)):=Zc
 have zq3:H2 q3=none:=(g1.trans g2).free hq3
 have ee:Exc p H H2:=e1.trans e2
 have zq0:H q3=none:=ee.free (P2.ne zq3) zq3
 have nq3:q3≠p:=P2.ne zq3
 have l1:0<((ns0++[d]).take most.toNat).length:=by simp;omega
 have l2:(((ns0++[d]).take most.toNat).length:Int)<=most:=by simp;omega
 generalize (ns0++[d]).take most.toNat=ns at h3 l1 l2 gg⊢
 generalize upd (upd (upd H2 q1 (.lst [V.int d])) q2 (.lst (ns0.map V.int++[V.int d]))) q3 (.lst (ns.map V.int))=H3 at h3 gg⊢
 have P3:=P2.same gg
 have e3:Exc p H H3:=ee.same gg
 refine⟨p,wide,rfl,⋯,⋯,P3,λx0 ts0 H4 zx lx hx P4 e4=>⟨p,3,rfl,by decide,by decide,P4,λd2 H5 _ _ P5 e5=>⟨rfl,?_⟩⟩⟩
 have e35:=e4.trans e5
 have e05:=e3.trans e35
 have h5:=e35 _ _ nq3 h3
 have nxp:x0≠p:=P3.ne zx
 have zx0:H x0=none:=e3.free nxp zx
 refine Zy (λ_=>?_) λ_=>?_
 .refine⟨p,wide+1,rfl,⋯,⋯,P5,λd3 H6 d4 d5 P6 e6=>⟨d3,rfl,⋯,⋯,?_⟩⟩
  obtain⟨n3,rfl⟩:=Y8 d4
  rw[show((n3:Nat):Int).toNat=n3 by omega]
  refine Zam (n:=n3) (λj acc Hz=>∃ts:List Int,acc=ts.map V.int/\ts.length=j/\ZK Hz p/\Exc p H6 Hz) (YA (show _<=1000 by omega) nofun) ⟨[],rfl,rfl,P6,(Zd.refl _).ZcE⟩ (λj acc Hz _ hj=>hj) (λacc Hz _=>Ye _) ?_ ?_
  .rintro j u acc Hz Hw hj hla ⟨ts,rfl,htl,Pz,ez⟩ ⟨rfl,rfl⟩
   walk_at "rd"
   exact⟨p,4,rfl,by decide,by decide,Pz,λd6 H7 _ _ P7 e7=>CA.take hj hla ⟨ts++[d6],by simp,by simp[htl],P7,ez.trans e7⟩⟩
  .rintro x1 acc Hz ⟨ts,rfl,htl,Pz,ez⟩ _ zx1
   have gl:=(Zd.refl Hz).upd (o:=.lst (ts.map V.int)) zx1
   refine⟨by decide,λq4 hq4=>?_⟩
   have g4:=(Zd.refl _).upd (o:=.tup [V.ref q3,V.ref x1]) hq4
   have e0z:=(e05.trans e6).trans ez
   exact k1 q4 q3 x1 ns ts _ zq0 (e0z.free (Pz.ne zx1) zx1) l1 l2 ⋯ ((gl.trans g4) _ _ (ez _ _ nq3 (e6 _ _ nq3 h5))) (g4 _ _ Zc) Zc (Pz.same (gl.trans g4)) (e0z.same (gl.trans g4))
 .refine⟨by decide,λq4 hq4=>?_⟩
  have g4:=(Zd.refl _).upd (o:=.tup [V.ref q3,V.ref x0]) hq4
  exact k1 q4 q3 x0 ns ts0 _ zq0 zx0 l1 l2 lx (g4 _ _ h5) (g4 _ _ (e5 _ _ nxp hx)) Zc (P5.same g4) (e05.same g4)
noncomputable def LowsOn (f h:Nat->Int) (a b:Nat):Prop:=∀x y p,a<=x->y<=b->ZL f x y p->ZL h x y p
theorem low_ex (f:Nat->Int) {x y:Nat} (h:x<=y):∃p,ZL f x y p:=by
 obtain⟨m,h1,h2,h3,h4⟩:=lmin f x (y-x)
 exact⟨m,h1,⋯,h4,λq q1 q2=>h3 q ⋯ ⋯⟩
theorem low_sub {f:Nat->Int}{a b x y v:Nat} (h:ZL f a b v) (h1:a<=x) (h2:x<=v) (h3:v<=y) (h4:y<=b):ZL f x y v:=⟨h2,h3,λq q1 q2=>h.2.2.1 q ⋯ q2,λq q1 q2=>h.2.2.2 q q1 ⋯⟩
theorem low_least {f:Nat->Int}{a b v o:Nat} (h:ZL f a b v) (h1:a<=o) (h2:o<=b):f v<=f o:=by
 rcases Nat.lt_trichotomy o v with z|z|z
 .exact Int.le_of_lt (h.2.2.1 o h1 z)
 .rw[z];exact Int.le_refl _
 .exact h.2.2.2 o z h2
theorem lows_split {f h:Nat->Int}{a b v:Nat} (hv:ZL f a b v):LowsOn f h a b↔(ZL h a b v/\(a<v->LowsOn f h a (v-1))/\(v<b->LowsOn f h (v+1) b)):=by
 constructor
 .intro k
  exact⟨k a b v (Ye _) (Ye _) hv,λ_ x y p h1 h2=>k x y p h1 (by have:=hv.2.1;omega),λ_ x y p h1 h2=>k x y p (by have:=hv.1;omega) h2⟩
 .rintro⟨k0,k1,k2⟩ x y p h1 h2 hp
  have hxy:x<=y:=Yn hp.1 hp.2.1
  by_cases c1:y<v
  .exact k1 ⋯ x y p h1 ⋯ hp
  .by_cases c2:v<x
   .exact k2 ⋯ x y p ⋯ h2 hp
   .have z:=low_sub hv (x:=x) (y:=y) h1 ⋯ ⋯ h2
    rw[hp.unique z]
    exact low_sub k0 h1 ⋯ ⋯ h2
noncomputable def Hold (f:Nat->Int) (ts:List Int) (a b:Nat) (g:Nat->Nat):Prop:=(∀x,a<=x->x<b->g x<g (x+1))/\(∀x,a<=x->x<=b->g x<ts.length)/\LowsOn f (λo=>nth ts (g o)) a b
theorem Hold.congr {f:Nat->Int}{ts:List Int}{a b:Nat}{g g':Nat->Nat} (h:Hold f ts a b g) (e:∀x,a<=x->x<=b->g' x=g x):Hold f ts a b g':=by
 obtain⟨h1,h2,h3⟩:=h
 refine⟨λx x1 x2=>by rw[e x x1 ⋯,e (x+1) ⋯ ⋯];exact h1 x x1 x2,λx x1 x2=>by rw[e x x1 x2];exact h2 x x1 x2,λx y p x1 y1 hp=>?_⟩
 have z:=h3 x y p x1 y1 hp
 have hxy:=Yn hp.1 hp.2.1
 refine⟨z.1,z.2.1,λq q1 q2=>?_,λq q1 q2=>?_⟩
 .have:=z.2.2.1 q q1 q2
  simp only at this⊢
  rw[e p (by have:=z.1;omega) (by have:=z.2.1;omega),e q ⋯ (by have:=z.2.1;omega)];exact this
 .have:=z.2.2.2 q q1 q2
  simp only at this⊢
  rw[e p (by have:=z.1;omega) (by have:=z.2.1;omega),e q (by have:=z.1;omega) ⋯];exact this
theorem Hold.mono {f:Nat->Int}{ts:List Int}{a b:Nat}{g:Nat->Nat} (h:Hold f ts a b g):∀{x y},a<=x->x<y->y<=b->g x<g y:=by
 intro x y h1 h2 h3
 obtain⟨d,rfl⟩:=Nat.exists_eq_add_of_lt h2
 clear h2
 induction d with
 |zero=>exact h.1 x h1 ⋯
 |succ d ih=>exact Nat.lt_trans (ih ⋯) (h.1 (x+d+1) ⋯ ⋯)
theorem hold_split {f:Nat->Int}{ts:List Int}{a b v:Nat}{g:Nat->Nat} (hv:ZL f a b v):Hold f ts a b g↔(g v<ts.length/\(a<v->Hold f ts a (v-1) g/\g (v-1)<g v/\∀o,a<=o->o<v->nth ts (g v)<nth ts (g o))/\(v<b->Hold f ts (v+1) b g/\g v<g (v+1)/\∀o,v<o->o<=b->nth ts (g v)<=nth ts (g o))):=by
 have hva:=hv.1
 have hvb:=hv.2.1
 constructor
 .rintro⟨h1,h2,h3⟩
  obtain⟨k0,k1,k2⟩:=(lows_split hv).mp h3
  refine⟨h2 v hva hvb,λc=>⟨⟨λx x1 x2=>h1 x x1 ⋯,λx x1 x2=>h2 x x1 ⋯,k1 c⟩,?_,λo o1 o2=>k0.2.2.1 o o1 o2⟩,λc=>⟨⟨λx x1 x2=>h1 x ⋯ x2,λx x1 x2=>h2 x ⋯ x2,k2 c⟩,h1 v hva c,λo o1 o2=>k0.2.2.2 o o1 o2⟩⟩
  have:=h1 (v-1) ⋯ ⋯
  rwa [show v-1+1=v by omega]at this
 .rintro⟨h0,hl,hr⟩
  refine⟨λx x1 x2=>?_,λx x1 x2=>?_,(lows_split hv).mpr ⟨⟨hva,hvb,λq q1 q2=>(hl ⋯).2.2 q q1 q2,λq q1 q2=>(hr ⋯).2.2 q q1 q2⟩,λc=>(hl c).1.2.2,λc=>(hr c).1.2.2⟩⟩
  .by_cases c1:x+1<v
   .exact(hl ⋯).1.1 x x1 ⋯
   .by_cases c2:x+1=v
    .have:=(hl ⋯).2.1
     rw[show v-1=x by omega]at this
     rwa [c2]
    .by_cases c3:x=v
     .subst c3;exact(hr x2).2.1
     .exact(hr ⋯).1.1 x ⋯ x2
  .rcases Nat.lt_trichotomy x v with z|z|z
   .exact(hl ⋯).1.2.1 x x1 ⋯
   .rw[z];exact h0
   .exact(hr ⋯).1.2.1 x z x2
noncomputable def EntryIs (f:Nat->Int) (ts:List Int) (a b v i:Nat):Pt->Prop
 |none=>∀g,Hold f ts a b g->g v≠i
 |some (l,r)=>(∃g,Hold f ts a b g/\g v=i/\(g a:Int)=l/\(g b:Int)=r)/\∀g,Hold f ts a b g->g v=i->(g a:Int)<=l/\r<=(g b:Int)
theorem EntryIs.uniq {f:Nat->Int}{ts:List Int}{a b v i:Nat}{p q:Pt} (h:EntryIs f ts a b v i p) (k:EntryIs f ts a b v i q):p=q:=by
 match p,q,h,k with
 |none,none,_,_=>rfl
 |none,some (l,r),h,k=>obtain⟨⟨g,h1,h2,_⟩,_⟩:=k;exact absurd h2 (h g h1)
 |some (l,r),none,h,k=>obtain⟨⟨g,h1,h2,_⟩,_⟩:=h;exact absurd h2 (k g h1)
 |some (l,r),some (l',r'),h,k =>
  obtain⟨⟨g,h1,h2,h3,h4⟩,h5⟩:=h
  obtain⟨⟨g',k1,k2,k3,k4⟩,k5⟩:=k
  have z1:=h5 g' k1 k2
  have z2:=k5 g h1 h2
  have el:l=l':= ⋯
  have er:r=r':= ⋯
  rw[el,er]
noncomputable def LeftOk (f:Nat->Int) (ts:List Int) (a v i:Nat) (g:Nat->Nat):Prop:=a<v->Hold f ts a (v-1) g/\g (v-1)<i/\∀o,a<=o->o<v->nth ts i<nth ts (g o)
noncomputable def RightOk (f:Nat->Int) (ts:List Int) (v b i:Nat) (g:Nat->Nat):Prop:=v<b->Hold f ts (v+1) b g/\i<g (v+1)/\∀o,v<o->o<=b->nth ts i<=nth ts (g o)
noncomputable def LeftIs (f:Nat->Int) (ts:List Int) (a v i:Nat):Option Int->Prop
 |none=>a<v/\∀g,¬ LeftOk f ts a v i g
 |some m=>(a=v/\m=i)\/(a<v/\(∃g,LeftOk f ts a v i g/\(g a:Int)=m)/\∀g,LeftOk f ts a v i g->(g a:Int)<=m)
noncomputable def RightIs (f:Nat->Int) (ts:List Int) (v b i:Nat):Option Int->Prop
 |none=>v<b/\∀g,¬ RightOk f ts v b i g
 |some m=>(v=b/\m=i)\/(v<b/\(∃g,RightOk f ts v b i g/\(g b:Int)=m)/\∀g,RightOk f ts v b i g->m<=(g b:Int))
theorem entry_both {f:Nat->Int}{ts:List Int}{a b v i:Nat}{r1 r2:Option Int} (hv:ZL f a b v) (hi:i<ts.length) (h1:LeftIs f ts a v i r1) (h2:RightIs f ts v b i r2):EntryIs f ts a b v i (bothPt r1 r2):=by
 have hva:=hv.1
 have hvb:=hv.2.1
 have parts:∀g,Hold f ts a b g->g v=i->LeftOk f ts a v i g/\RightOk f ts v b i g:=λg hg e=>by
  obtain⟨_,hl,hr⟩:=(hold_split hv).mp hg
  rw[e]at hl hr
  exact⟨hl,hr⟩
 match r1,r2,h1,h2 with
 |none,r2,h1,_ =>
  rw[both_left]
  exact λg hg e=>h1.2 g (parts g hg e).1
 |some l,none,_,h2=>exact λg hg e=>h2.2 g (parts g hg e).2
 |some l,some r,h1,h2 =>
  have glue:∀g1 g2,LeftOk f ts a v i g1->RightOk f ts v b i g2->Hold f ts a b (λx=>if x<v then g1 x else if x=v then i else g2 x):=λg1 g2 k1 k2=>by
   refine(hold_split hv).mpr ⟨?_,λc=>?_,λc=>?_⟩
   .simp only[YB,if_false,if_true];exact hi
   .obtain⟨z1,z2,z3⟩:=k1 c
    refine⟨z1.congr λx x1 x2=>by rw[Yd ⋯],?_,λo o1 o2=>?_⟩
    .simp only[YB,if_false,if_true]
     rw[Yd ⋯];exact z2
    .simp only[YB,if_false,if_true]
     rw[Yd o2];exact z3 o o1 o2
   .obtain⟨z1,z2,z3⟩:=k2 c
    refine⟨z1.congr λx x1 x2=>by rw[Yb ⋯,Yb ⋯],?_,λo o1 o2=>?_⟩
    .simp only[YB,if_false,if_true]
     rw[Yb ⋯,Yb ⋯];exact z2
    .simp only[YB,if_false,if_true]
     rw[Yb ⋯,Yb ⋯];exact z3 o o1 o2
  have lft:∃g1,LeftOk f ts a v i g1/\((if a<v then g1 a else i:Nat):Int)=l:=by
   rcases h1 with⟨e,z⟩|⟨c,⟨g,k,z⟩,_⟩
   .exact⟨λ_=>0,λc=>absurd c ⋯,by rw[Yb ⋯,z]⟩
   .exact⟨g,k,by rw[Yd c];exact z⟩
  have rgt:∃g2,RightOk f ts v b i g2/\((if v<b then g2 b else i:Nat):Int)=r:=by
   rcases h2 with⟨e,z⟩|⟨c,⟨g,k,z⟩,_⟩
   .exact⟨λ_=>0,λc=>absurd c ⋯,by rw[Yb ⋯,z]⟩
   .exact⟨g,k,by rw[Yd c];exact z⟩
  obtain⟨g1,k1,e1⟩:=lft
  obtain⟨g2,k2,e2⟩:=rgt
  refine⟨⟨_,glue g1 g2 k1 k2,by simp,?_,?_⟩,λg hg e=>?_⟩
  .rw[<-e1]
   by_cases c:a<v
   .simp[c]
   .have:a=v:= ⋯
    subst this;simp
  .rw[<-e2]
   by_cases c:v<b
   .simp only[c,if_true]
    rw[Yb ⋯,Yb ⋯]
   .have:b=v:= ⋯
    subst this;simp
  .obtain⟨z1,z2⟩:=parts g hg e
   constructor
   .rcases h1 with⟨e',z⟩|⟨c,_,z⟩
    .rw[z,e',e];exact Int.le_refl _
    .exact z g z1
   .rcases h2 with⟨e',z⟩|⟨c,_,z⟩
    .rw[z,<-e',e];exact Int.le_refl _
    .exact z g z2
theorem under_span {ns T:List Int} (hT:Zq ns T) {v:Nat} (hv:v<ns.length):∃a b,a<=v/\v<=b/\b<ns.length/\(a:Int)=Ze2 (nth ns) v+1/\(b:Int)=Zga (nth ns) ns.length v-1/\ZL (nth ns) a b v/\∀o,o<ns.length->((o=v\/v∈way T o)↔a<=o/\o<=b):=by
 obtain⟨f1,f2,f3,f4⟩:=Zjk (f:=nth ns) hv
 obtain⟨a,ea⟩:=Y8 (show 0<=Ze2 (nth ns) v+1 by omega)
 obtain⟨b,eb⟩:=Y8 (show 0<=Zga (nth ns) ns.length v-1 by omega)
 refine⟨a,b,⋯,⋯,⋯,ea.symm,eb.symm,(ZaT hv ⋯).mpr ⟨⋯,⋯,⋯,⋯⟩,λo ho=>?_⟩
 rw[ZdY hT ho]
 constructor
 .rintro(rfl|⟨_,h|h⟩)
  .omega
  .have:=(ZaT hv (a:=v) (b:=o) ho).mp ⟨Ye _,⋯,λq q1 q2=>⋯,λq q1 q2=>h.2 q q1 q2⟩
   omega
  .have:=(ZaT hv (a:=o) (b:=v) hv).mp ⟨⋯,Ye _,λq q1 q2=>h.2 q q1 q2,λq q1 q2=>⋯⟩
   omega
 .rintro⟨h1,h2⟩
  rcases Nat.lt_trichotomy o v with z|z|z
  .have:=(ZaT (f:=nth ns) hv (a:=o) (b:=v) hv).mpr ⟨⋯,⋯,⋯,⋯⟩
   exact .inr ⟨hv,.inr ⟨z,λr r1 r2=>this.2.2.1 r r1 r2⟩⟩
  .exact .inl z
  .have:=(ZaT (f:=nth ns) hv (a:=v) (b:=o) ho).mpr ⟨⋯,⋯,⋯,⋯⟩
   exact .inr ⟨hv,.inl ⟨z,λr r1 r2=>this.2.2.2 r r1 r2⟩⟩
theorem low_hangs {ns T:List Int} (hT:Zq ns T) {v a b x y c:Nat} (hv:v<ns.length) (hb:b<ns.length) (hl:ZL (nth ns) a b v) (hs:∀o,o<ns.length->v∈way T o->a<=o/\o<=b) (hxy:(x=a/\y+1=v)\/(x=v+1/\y=b)) (hc:ZL (nth ns) x y c):nth T c=v:=by
 have eT:=hT.1
 have c1:=hc.1
 have c2:=hc.2.1
 have l1:=hl.1
 have l2:=hl.2.1
 have hcn:c<ns.length:= ⋯
 have hvc:Over (nth ns) v c:=by
  rcases hxy with⟨rfl,e⟩|⟨e,rfl⟩
  .exact .inr ⟨⋯,λr r1 r2=>hl.2.2.1 r ⋯ r2⟩
  .exact .inl ⟨⋯,λr r1 r2=>hl.2.2.2 r r1 ⋯⟩
 have hwv:=(ZdY hT hcn).mpr ⟨hv,hvc⟩
 rcases ZaE hT hcn with z|⟨e,ez,he,heO,_⟩
 .rw[Zjj z]at hwv;cases hwv
 rw[ZbN hT hcn ez]at hwv
 rcases Yi.mp hwv with rfl|hve
 .exact ez
 exfalso
 obtain⟨s1,s2⟩:=hs e he hve
 have hve:=((ZdY hT he).mp hve).2
 rcases hxy with⟨rfl,ey⟩|⟨ex,rfl⟩
 .rcases heO with⟨o1,o2⟩|⟨o1,o2⟩
  .have:=hc.2.2.1 e s1 o1
   have:=o2 c o1 (Ye _)
   omega
  .rcases hve with⟨p1,p2⟩|⟨p1,p2⟩
   .have:=o2 v ⋯ p1
    have:=p2 e p1 (Ye _)
    omega
   .have:=hc.2.2.2 e o1 ⋯
    have:=o2 c (Ye _) o1
    omega
 .rcases heO with⟨o1,o2⟩|⟨o1,o2⟩
  .rcases hve with⟨p1,p2⟩|⟨p1,p2⟩
   .have:=hc.2.2.1 e ⋯ o1
    have:=o2 c o1 (Ye _)
    omega
   .have:=o2 v p1 ⋯
    have:=p2 e (Ye _) p1
    omega
  .have:=hc.2.2.2 e o1 s2
   have:=o2 c (Ye _) o1
   omega
noncomputable def SpanIs (T ns:List Int) (v a b:Nat):Prop:=a<=v/\v<=b/\b<ns.length/\(a:Int)=Ze2 (nth ns) v+1/\(b:Int)=Zga (nth ns) ns.length v-1/\ZL (nth ns) a b v/\∀o,o<ns.length->((o=v\/v∈way T o)↔a<=o/\o<=b)
theorem SpanIs.uniq {T ns:List Int}{v a b a' b':Nat} (h:SpanIs T ns v a b) (k:SpanIs T ns v a' b'):a=a'/\b=b':=by
 have h4:=h.2.2.2.1
 have h5:=h.2.2.2.2.1
 have k4:=k.2.2.2.1
 have k5:=k.2.2.2.2.1
 omega
theorem span_ahead {ns T:List Int} (hT:Zq ns T) {v a b:Nat} (h:SpanIs T ns v a b):(AheadIs T v none->a=v)/\∀c,AheadIs T v (some c)->a<v/\SpanIs T ns c a (v-1):=by
 obtain⟨h1,h2,h3,h4,h5,h6,h7⟩:=h
 have eT:=hT.1
 have hv:v<ns.length:= ⋯
 have hs:∀o,o<ns.length->v∈way T o->a<=o/\o<=b:=λo ho hw=>(h7 o ho).mp (.inr hw)
 constructor
 .intro hn
  refine Nat.le_antisymm h1 (Nat.not_lt.mp λz=>?_)
  obtain⟨c,hc⟩:=low_ex (nth ns) (show a<=v-1 by omega)
  have c2:=hc.2.1
  exact hn c ⋯ ⋯ (low_hangs hT hv h3 h6 hs (.inl ⟨rfl,⋯⟩) hc)
 .intro c hc
  have hcv:c<v:=hc.1
  have ec:nth T c=v:=hc.2.2
  have hcn:c<ns.length:= ⋯
  have hcs:=hs c hcn (by rw[ZbN hT hcn ec];exact Yy)
  obtain⟨c',hc'⟩:=low_ex (nth ns) (show a<=v-1 by omega)
  have e':=low_hangs hT hv h3 h6 hs (.inl ⟨rfl,⋯⟩) hc'
  have c2:=hc'.2.1
  have:c'=c:=by
   rcases Nat.lt_trichotomy c' c with z|z|z
   .exact(kid_ahead hT z hcv hv e' ec).elim
   .exact z
   .exact(kid_ahead hT z ⋯ hv ec e').elim
  subst this
  obtain⟨a',b',g1,g2,g3,g4,g5,g6,g7⟩:=under_span hT hcn
  have n1:=(ZaT (f:=nth ns) hcn (a:=a) (b:=v-1) ⋯).mp hc'
  have n2:¬ ((b':Int) ≥ v):=λz=>by
   have:=g6.2.2.2 v hcv ⋯
   have:=h6.2.2.1 c' ⋯ hcv
   omega
  have n3:¬ (a'<a):=λz=>by
   have hA:Ze2 (nth ns) v=((a-1:Nat):Int):= ⋯
   have hp:Z1 (nth ns) v (a-1):=by
    rcases Zkd (nth ns) v with⟨hno,_⟩|⟨q,hq,_⟩
    .rw[Zfs hno]at hA;omega
    .rw[ZcG hq]at hA
     rwa [show a-1=q by omega]
   have q1:=hp.2.1
   have:=g6.2.2.1 (a-1) ⋯ ⋯
   have:=h6.2.2.1 c' ⋯ hcv
   omega
  have ea:a'=a:= ⋯
  have eb:b'=v-1:= ⋯
  subst ea;subst eb
  exact⟨⋯,g1,g2,g3,g4,g5,g6,g7⟩
theorem span_behind {ns T:List Int} (hT:Zq ns T) {v a b:Nat} (h:SpanIs T ns v a b):(BehindIs T v none->b=v)/\∀c,BehindIs T v (some c)->v<b/\SpanIs T ns c (v+1) b:=by
 obtain⟨h1,h2,h3,h4,h5,h6,h7⟩:=h
 have eT:=hT.1
 have hv:v<ns.length:= ⋯
 have hs:∀o,o<ns.length->v∈way T o->a<=o/\o<=b:=λo ho hw=>(h7 o ho).mp (.inr hw)
 constructor
 .intro hn
  refine Nat.le_antisymm (Nat.not_lt.mp λz=>?_) h2
  obtain⟨c,hc⟩:=low_ex (nth ns) (show v+1<=b by omega)
  have c1:=hc.1
  have c2:=hc.2.1
  exact hn c ⋯ ⋯ (low_hangs hT hv h3 h6 hs (.inr ⟨rfl,rfl⟩) hc)
 .intro c hc
  have hcv:v<c:=hc.1
  have hcT:c<T.length:=hc.2.1
  have ec:nth T c=v:=hc.2.2
  have hcn:c<ns.length:= ⋯
  have hcs:=hs c hcn (by rw[ZbN hT hcn ec];exact Yy)
  obtain⟨c',hc'⟩:=low_ex (nth ns) (show v+1<=b by omega)
  have e':=low_hangs hT hv h3 h6 hs (.inr ⟨rfl,rfl⟩) hc'
  have c1:=hc'.1
  have c2:=hc'.2.1
  have:c'=c:=by
   rcases Nat.lt_trichotomy c' c with z|z|z
   .exact(kid_behind hT ⋯ z hcn e' ec).elim
   .exact z
   .exact(kid_behind hT hcv z ⋯ ec e').elim
  subst this
  obtain⟨a',b',g1,g2,g3,g4,g5,g6,g7⟩:=under_span hT hcn
  have n1:=(ZaT (f:=nth ns) hcn (a:=v+1) (b:=b) h3).mp hc'
  have n2:¬ (a'<=v):=λz=>by
   have:=g6.2.2.1 v z hcv
   have:=h6.2.2.2 c' hcv ⋯
   omega
  have n3:¬ (b<b'):=λz=>by
   have hB:Zga (nth ns) ns.length v=((b+1:Nat):Int):= ⋯
   have hp:ZZ (nth ns) ns.length v (b+1):=by
    rcases Zrj (nth ns) ns.length v with hno|⟨q,hq⟩
    .rw[Zg9 hno]at hB;omega
    .rw[ZeH hq]at hB
     rwa [show b+1=q by omega]
   have q1:=hp.2.2.1
   have:=g6.2.2.2 (b+1) ⋯ ⋯
   have:=h6.2.2.2 c' hcv ⋯
   omega
  have ea:a'=v+1:= ⋯
  have eb:b'=b:= ⋯
  subst ea;subst eb
  exact⟨⋯,g1,g2,g3,g4,g5,g6,g7⟩
noncomputable def StoodIs (T ns ts:List Int) (tab:List (List Pt)):Prop:=tab.length=T.length/\∀v,v<T.length->(tab.getD v []).length=ts.length/\∀a b,SpanIs T ns v a b->∀i,i<ts.length->EntryIs (nth ns) ts a b v i ((tab.getD v []).getD i none)
noncomputable def FirstP (ts:List Int) (ps:List Pt) (i:Nat):Option Int->Prop
 |none=>∀j,¬ fitsA ts ps i j
 |some m=>(∃j,fitsA ts ps i j/\m=(ptAt ps j).1)/\∀j,fitsA ts ps i j->(ptAt ps j).1<=m
noncomputable def LastP (ts:List Int) (ps:List Pt) (i:Nat):Option Int->Prop
 |none=>∀j,¬ fitsB ts ps i j
 |some m=>(∃j,fitsB ts ps i j/\m=(ptAt ps j).2)/\∀j,fitsB ts ps i j->m<=(ptAt ps j).2
theorem left_of {ns T ts:List Int}{tab:List (List Pt)} (hT:Zq ns T) (hS:StoodIs T ns ts tab) {v a b i:Nat} (hv:SpanIs T ns v a b) {ah:Option Nat} (hA:AheadIs T v ah) {r:Option Int} (hF:FirstIs ts tab i ah r) (hi:i<ts.length):LeftIs (nth ns) ts a v i r:=by
 have eT:=hT.1
 obtain⟨s1,s2⟩:=span_ahead hT hv
 cases ah with
 |none =>
  have e:=s1 hA
  have hF:r=some (i:Int):=hF
  subst hF
  exact .inl ⟨e,rfl⟩
 |some c =>
  obtain⟨hav,hc⟩:=s2 c hA
  have hcT:c<T.length:=hA.2.1
  obtain⟨hlen,hE⟩:=hS.2 c hcT
  have hE:=hE a (v-1) hc
  have hcl:ZL (nth ns) a (v-1) c:=hc.2.2.2.2.2.1
  have c1:=hcl.1
  have c2:=hcl.2.1
  replace hF:FirstP ts (tab.getD c []) i r:=by cases r<;>exact hF
  generalize tab.getD c []=ps at *
  -- a part ahead is one that some j fits
  have key:∀g,LeftOk (nth ns) ts a v i g->fitsA ts ps i (g c)/\(g a:Int)<=(ptAt ps (g c)).1:=λg hg=>by
   obtain⟨k1,k2,k3⟩:=hg hav
   have hj:g c<ts.length:=k1.2.1 c c1 c2
   have e:=hE (g c) hj
   unfold fitsA ptAt
   cases hp:ps.getD (g c) none with
   |none=>rw[hp]at e;exact absurd rfl (e g k1)
   |some p =>
    rw[hp]at e
    obtain⟨_,e2⟩:=e
    have:=e2 g k1 rfl
    have:g c<i:=by
     by_cases z:c=v-1
     .rw[z];exact k2
     .exact Nat.lt_trans (k1.mono c1 ⋯ (Ye _)) k2
    refine⟨⟨this,rfl,k3 c c1 ⋯,?_⟩,?_⟩
    .simp only[Option.getD_some];omega
    .simp only[Option.getD_some];omega
  have back:∀j,fitsA ts ps i j->∃g,LeftOk (nth ns) ts a v i g/\g c=j/\(g a:Int)=(ptAt ps j).1:=λj hj=>by
   obtain⟨j1,j2,j3,j4⟩:=hj
   have e:=hE j ⋯
   unfold ptAt at j4⊢
   cases hp:ps.getD j none with
   |none=>rw[hp]at j2;cases j2
   |some p =>
    rw[hp]at e j4
    obtain⟨⟨g,k1,k2,k3,k4⟩,_⟩:=e
    simp only[Option.getD_some]at j4⊢
    refine⟨g,λ_=>⟨k1,⋯,λo o1 o2=>?_⟩,k2,k3⟩
    have:=low_least (k1.2.2 a (v-1) c (Ye _) (Ye _) hcl) o1 ⋯
    simp only[k2]at this
    omega
  cases r with
  |none =>
   have hF:∀j,¬ fitsA ts ps i j:=hF
   exact⟨hav,λg hg=>hF _ (key g hg).1⟩
  |some m =>
   have hF:(∃j,fitsA ts ps i j/\m=(ptAt ps j).1)/\∀j,fitsA ts ps i j->(ptAt ps j).1<=m:=hF
   obtain⟨⟨j,hj,em⟩,hmax⟩:=hF
   obtain⟨g,hg,_,e⟩:=back j hj
   exact .inr ⟨hav,⟨g,hg,⋯⟩,λg' hg'=>by
    obtain⟨z1,z2⟩:=key g' hg'
    have:=hmax _ z1
    omega⟩
theorem right_of {ns T ts:List Int}{tab:List (List Pt)} (hT:Zq ns T) (hS:StoodIs T ns ts tab) {v a b i:Nat} (hv:SpanIs T ns v a b) {bh:Option Nat} (hA:BehindIs T v bh) {r:Option Int} (hF:LastIs ts tab i bh r) (hi:i<ts.length):RightIs (nth ns) ts v b i r:=by
 have eT:=hT.1
 obtain⟨s1,s2⟩:=span_behind hT hv
 cases bh with
 |none =>
  have e:=s1 hA
  have hF:r=some (i:Int):=hF
  subst hF
  exact .inl ⟨e.symm,rfl⟩
 |some c =>
  obtain⟨hav,hc⟩:=s2 c hA
  have hcT:c<T.length:=hA.2.1
  obtain⟨hlen,hE⟩:=hS.2 c hcT
  have hE:=hE (v+1) b hc
  have hcl:ZL (nth ns) (v+1) b c:=hc.2.2.2.2.2.1
  have c1:=hcl.1
  have c2:=hcl.2.1
  replace hF:LastP ts (tab.getD c []) i r:=by cases r<;>exact hF
  generalize tab.getD c []=ps at *
  have key:∀g,RightOk (nth ns) ts v b i g->fitsB ts ps i (g c)/\(ptAt ps (g c)).2<=(g b:Int):=λg hg=>by
   obtain⟨k1,k2,k3⟩:=hg hav
   have hj:g c<ts.length:=k1.2.1 c c1 c2
   have e:=hE (g c) hj
   unfold fitsB ptAt
   cases hp:ps.getD (g c) none with
   |none=>rw[hp]at e;exact absurd rfl (e g k1)
   |some p =>
    rw[hp]at e
    obtain⟨_,e2⟩:=e
    have:=e2 g k1 rfl
    have:i<g c:=by
     by_cases z:c=v+1
     .rw[z];exact k2
     .exact Nat.lt_trans k2 (k1.mono (Ye _) ⋯ c2)
    refine⟨⟨this,hj,rfl,k3 c ⋯ c2,?_⟩,?_⟩
    .simp only[Option.getD_some];omega
    .simp only[Option.getD_some];omega
  have back:∀j,fitsB ts ps i j->∃g,RightOk (nth ns) ts v b i g/\g c=j/\(g b:Int)=(ptAt ps j).2:=λj hj=>by
   obtain⟨j1,j0,j2,j3,j4⟩:=hj
   have e:=hE j j0
   unfold ptAt at j4⊢
   cases hp:ps.getD j none with
   |none=>rw[hp]at j2;cases j2
   |some p =>
    rw[hp]at e j4
    obtain⟨⟨g,k1,k2,k3,k4⟩,_⟩:=e
    simp only[Option.getD_some]at j4⊢
    refine⟨g,λ_=>⟨k1,⋯,λo o1 o2=>?_⟩,k2,k4⟩
    have:=low_least (k1.2.2 (v+1) b c (Ye _) (Ye _) hcl) o1 o2
    simp only[k2]at this
    omega
  cases r with
  |none =>
   have hF:∀j,¬ fitsB ts ps i j:=hF
   exact⟨hav,λg hg=>hF _ (key g hg).1⟩
  |some m =>
   have hF:(∃j,fitsB ts ps i j/\m=(ptAt ps j).2)/\∀j,fitsB ts ps i j->m<=(ptAt ps j).2:=hF
   obtain⟨⟨j,hj,em⟩,hmax⟩:=hF
   obtain⟨g,hg,_,e⟩:=back j hj
   exact .inr ⟨hav,⟨g,hg,⋯⟩,λg' hg'=>by
    obtain⟨z1,z2⟩:=key g' hg'
    have:=hmax _ z1
    omega⟩
theorem ahead_ex (T:List Int) (v:Nat):∃o,AheadIs T v o:=by
 by_cases h:∃c,c<v/\c<T.length/\nth T c=v
 .obtain⟨c,h1,h2,h3⟩:=h;exact⟨some c,h1,h2,h3⟩
 .exact⟨none,λc h1 h2 h3=>h ⟨c,h1,h2,h3⟩⟩
theorem behind_ex (T:List Int) (v:Nat):∃o,BehindIs T v o:=by
 by_cases h:∃c,v<c/\c<T.length/\nth T c=v
 .obtain⟨c,h1,h2,h3⟩:=h;exact⟨some c,h1,h2,h3⟩
 .exact⟨none,λc h1 h2 h3=>h ⟨c,h1,h2,h3⟩⟩
theorem StoodIs.tab {ns T ts:List Int}{tab:List (List Pt)} (hT:Zq ns T) (hS:StoodIs T ns ts tab):TabIs T ts tab:=by
 refine⟨hS.1,λv hv=>⟨(hS.2 v hv).1,λi hi=>?_⟩⟩
 have eT:=hT.1
 obtain⟨a,b,hsp⟩:=under_span hT (v:=v) ⋯
 have hsp:SpanIs T ns v a b:=hsp
 obtain⟨ah,hA⟩:=ahead_ex T v
 obtain⟨bh,hB⟩:=behind_ex T v
 obtain⟨r1,h1⟩:=first_ex ts tab i ah
 obtain⟨r2,h2⟩:=last_ex ts tab i bh
 exact⟨ah,bh,hA,hB,r1,r2,h1,h2,((hS.2 v hv).2 a b hsp i hi).uniq (entry_both hsp.2.2.2.2.2.1 hi (left_of hT hS hsp hA h1 hi) (right_of hT hS hsp hB h2 hi))⟩
theorem entry_some {f:Nat->Int}{ts:List Int}{a b v i:Nat}{l r:Int} (hv:ZL f a b v) (h1:∃g,Hold f ts a b g/\g v=i/\(g a:Int)=l) (h2:∃g,Hold f ts a b g/\g v=i/\(g b:Int)=r) (h3:∀g,Hold f ts a b g->g v=i->(g a:Int)<=l/\r<=(g b:Int)):EntryIs f ts a b v i (some (l,r)):=by
 obtain⟨g1,p1,p2,p3⟩:=h1
 obtain⟨g2,q1,q2,q3⟩:=h2
 have hva:=hv.1
 have hvb:=hv.2.1
 refine⟨⟨λx=>if x<v then g1 x else g2 x,(hold_split hv).mpr ⟨?_,λc=>?_,λc=>?_⟩,?_,?_,?_⟩,h3⟩
 .simp only[YB,if_false];exact q1.2.1 v hva hvb
 .obtain⟨_,z,_⟩:=(hold_split hv).mp p1
  obtain⟨z1,z2,z3⟩:=z c
  refine⟨z1.congr λx x1 x2=>by rw[Yd ⋯],?_,λo o1 o2=>?_⟩
  .simp only[YB,if_false]
   rw[Yd ⋯,q2,<-p2];exact z2
  .simp only[YB,if_false]
   rw[Yd o2,q2,<-p2];exact z3 o o1 o2
 .obtain⟨_,_,z⟩:=(hold_split hv).mp q1
  obtain⟨z1,z2,z3⟩:=z c
  refine⟨z1.congr λx x1 x2=>by rw[Yb ⋯],?_,λo o1 o2=>?_⟩
  .simp only[YB,if_false]
   rw[Yb ⋯];exact z2
  .simp only[YB,if_false]
   rw[Yb ⋯];exact z3 o o1 o2
 .simp only[YB,if_false];exact q2
 .by_cases c:a<v
  .simp only[c,if_true];exact p3
  .have:a=v:= ⋯
   subst this
   simp only[YB,if_false]
   rw[q2,<-p2];exact p3
 .simp only[show ¬ b<v by omega,if_false];exact q3
noncomputable def CutIs (ns ms:List Int) (a b:Nat):Prop:=ms.length=b-a+1/\∀j,j<ms.length->nth ms j=nth ns (a+j)
theorem low_shift {f h:Nat->Int}{a n x y p:Nat} (e:∀j,j<n->h j=f (a+j)) (hx:a<=x) (hy:y<a+n) (hxy:x<=y):ZL f x y p↔a<=p/\ZL h (x-a) (y-a) (p-a):=by
 constructor
 .rintro⟨h1,h2,h3,h4⟩
  refine⟨⋯,⋯,⋯,λq q1 q2=>?_,λq q1 q2=>?_⟩
  .rw[e _ ⋯,e _ ⋯,show a+(p-a)=p by omega]
   exact h3 _ ⋯ ⋯
  .rw[e _ ⋯,e _ ⋯,show a+(p-a)=p by omega]
   exact h4 _ ⋯ ⋯
 .rintro⟨h0,h1,h2,h3,h4⟩
  refine⟨⋯,⋯,λq q1 q2=>?_,λq q1 q2=>?_⟩
  .have:=h3 (q-a) ⋯ ⋯
   rwa [e _ ⋯,e _ ⋯,show a+(p-a)=p by omega,show a+(q-a)=q by omega]at this
  .have:=h4 (q-a) ⋯ ⋯
   rwa [e _ ⋯,e _ ⋯,show a+(p-a)=p by omega,show a+(q-a)=q by omega]at this
theorem low_lows {f h:Nat->Int}{n:Nat}:ZcU f h n↔∀x y p,y<n->ZL f x y p->ZL h x y p:=by
 constructor
 .intro k x y p hy hp
  have hxy:=Yn hp.1 hp.2.1
  obtain⟨c,rfl⟩:=Nat.exists_eq_add_of_le hxy
  have e:=hp.unique (Zaz f x c)
  have z:=Zaz h x c
  rw[<-k x c hy,<-e]at z
  exact z
 .intro k a c hc
  exact(k a (a+c) _ hc (Zaz f a c)).unique (Zaz h a c)
theorem atL_nth {ts r:List Int}{j:Nat} (h:j<r.length):nth (atL ts r) j=nth ts (nth r j).toNat:=by
 unfold atL
 show((r.map λx=>nth ts x.toNat).getD j 0)=_
 rw[Yg,YG,Yf h]
 unfold nth
 simp[Yg,h]
theorem ris_nth {N:Nat}{r:List Int}:Ris N r↔(∀j,j<r.length->0<=nth r j/\nth r j<(N:Int))/\∀i j,i<j->j<r.length->nth r i<nth r j:=by
 have en:∀j (h:j<r.length),nth r j=r[j]:=λj h=>by unfold nth;rw[Yg,Yf h];rfl
 unfold Ris
 rw[List.pairwise_iff_getElem]
 constructor
 .rintro⟨h1,h2⟩
  exact⟨λj hj=>by rw[en j hj];exact h1 _ (YK hj),λi j hij hj=>by rw[en i ⋯,en j hj];exact h2 i j ⋯ hj hij⟩
 .rintro⟨h1,h2⟩
  refine⟨λx hx=>?_,λi j hi hj hij=>?_⟩
  .obtain⟨j,hj,rfl⟩:=YU hx
   rw[<-en j hj];exact h1 j hj
  .rw[<-en i hi,<-en j hj];exact h2 i j hij hj
theorem holds_from {ns ms ts:List Int}{a b:Nat}{g:Nat->Nat} (hab:a<=b) (hc:CutIs ns ms a b) (h:Hold (nth ns) ts a b g):∃r,HoldsL ms ts r/\∀x,a<=x->x<=b->nth r (x-a)=(g x:Int):=by
 obtain⟨c1,c2⟩:=hc
 have en:∀j,j<ms.length->nth ((List.range ms.length).map λj=>((g (a+j):Nat):Int)) j=(g (a+j):Int):=λj hj=>by
  show((List.range ms.length).map λj=>((g (a+j):Nat):Int)).getD j 0=_
  rw[Yg,YG,List.getElem?_range hj];rfl
 have lr:((List.range ms.length).map λj=>((g (a+j):Nat):Int)).length=ms.length:=by simp
 generalize ((List.range ms.length).map λj=>((g (a+j):Nat):Int))=r at en lr
 have hr:Ris ts.length r:=ris_nth.mpr ⟨λj hj=>by
  rw[en j ⋯]
  have:=h.2.1 (a+j) ⋯ ⋯
  omega,λi j hij hj=>by
  rw[en i ⋯,en j ⋯]
  have:=h.mono (x:=a+i) (y:=a+j) ⋯ ⋯ ⋯
  omega⟩
 obtain⟨W,hW⟩:=Zl5 ms
 refine⟨r,⟨lr,hr,W,hW,?_⟩,λx x1 x2=>by rw[en _ ⋯,show a+(x-a)=x by omega]⟩
 obtain⟨V',hV⟩:=Zl5 (atL ts r)
 have hl:ms.length=(atL ts r).length:=by simp[atL,lr]
 have:ZcU (nth ms) (nth (atL ts r)) ms.length:=low_lows.mpr λx y p hy hp=>by
  have hxy:=Yn hp.1 hp.2.1
  have z:=(low_shift (f:=nth ns) (h:=nth ms) (n:=ms.length) (x:=a+x) (y:=a+y) (p:=a+p) c2 ⋯ ⋯ ⋯).mpr ⟨⋯,by rwa [show a+x-a=x by omega,show a+y-a=y by omega,show a+p-a=p by omega]⟩
  have z:=h.2.2 _ _ _ ⋯ ⋯ z
  have e:∀j,j<ms.length->nth (atL ts r) j=(λo=>nth ts (g o)) (a+j):=λj hj=>by
   rw[atL_nth ⋯,en j hj]
   simp
  have:=((low_shift (f:=λo=>nth ts (g o)) (h:=nth (atL ts r)) (n:=ms.length) e ⋯ ⋯ ⋯).mp z).2
  rwa [show a+x-a=x by omega,show a+y-a=y by omega,show a+p-a=p by omega]at this
 have:=((Zrf hW hV).mp ⟨hl,this⟩).2
 rw[this];exact hV
theorem TupsAt.app {H:Hp}{g:Addr}{gs qs:List (List Int)}{acc:List V}{xs:List V} (hg:H g=some (.lst xs)) (h:TupsAt H g gs) (t:ZT H acc qs):TupsAt (upd H g (.lst (xs++acc))) g (gs++qs):=by
 obtain⟨as,e1,l1,k1⟩:=h
 obtain⟨bs,rfl,l2,k2⟩:=t
 rw[hg]at e1
 cases e1
 have ng:∀c ys,H c=some (.tup ys)->c≠g:=λc ys e z=>by rw[z,hg]at e;cases e
 refine⟨as++bs,by rw[Zc,Jb],by simp[l1,l2],λi h1 h2=>?_⟩
 by_cases c:i<as.length
 .rw[Jd c,Jd ⋯]
  have:=k1 i c ⋯
  rw[Zh (ng _ _ this)];exact this
 .rw[Jj ⋯,Jj ⋯]
  simp at h1 h2
  have:=k2 (i-as.length) ⋯ ⋯
  rw[Zh (ng _ _ this)]
  simp only[l1]at this⊢
  exact this
theorem onWalk {l g:Addr}{rs:List (List Int)}{xs:List V}{H2 Hz:Hp} (tl:TupsAt H2 l rs) (nlg:l≠g) (hg:H2 g=some (.lst xs)) (ez:Exc g H2 Hz):(∀i H,Zd Hz H->i<rs.length->(Itl K l).go i H)/\(∀H,Zd Hz H->(Itl K l).stop rs.length H)/\∀i x H H' (h:i<rs.length),Zd Hz H->(Itl K l).yld i H x H'->H'=H/\∃a,x=.ref a/\H a=some (.tup (rs[i].map V.int)):=by
 refine TupsAt.walk (K:=K) ?_
 obtain⟨as,e,h1,h2⟩:=tl
 refine⟨as,ez _ _ nlg e,h1,λi i1 i2=>ez _ _ (λz=>?_) (h2 i i1 i2)⟩
 have:=h2 i i1 i2
 rw[z,hg]at this;cases this
theorem comp_keep {l:Addr}{rs:List (List Int)}{H1:Hp}{Q:VK}{tt:TT}{σr:Lake.St} (P:List Int->Bool) (tl:TupsAt H1 l rs) (hn:rs.length<=7000)
  (ht:∀(a:Addr) (r:List Int) (H:Hp) (R:Bool->Hp->Prop),r∈rs->Zd H1 H->H a=some (.tup (r.map V.int))->(∀H',Zd H H'->R (P r) H')->tt (some (V.ref a)::σr) H R)
  (hk:∀g H',Zd H1 H'->H1 g=none->TupsAt H' g (rs.filter P)->Q (.ref g) H'):Zj2 (Itl K l) (gName 0) tt (tVar 0) (none::σr) Q H1:=by
 obtain⟨w1,w2,w3⟩:=tl.walk (K:=K)
 refine Zam (n:=rs.length) (λj acc Hz=>ZT Hz acc ((rs.take j).filter P)/\Zd H1 Hz) (YA hn nofun) ⟨by simpa using ZT.nil,Zd.refl _⟩ (λj acc Hz ⟨_,s⟩ hj=>w1 j Hz s hj) (λacc Hz ⟨_,s⟩=>w2 Hz s) ?_ ?_
 .rintro j x acc Hz Hw hj hla ⟨tv,sz⟩ y
  obtain⟨rfl,a,rfl,ha⟩:=w3 j x Hz Hw hj sz y
  have etk:rs.take (j+1)=rs.take j++[rs[j]]:=by rw[Je,Yf hj];rfl
  refine ht a rs[j] Hw _ (YK hj) sz ha λH' s'=>?_
  refine Zy (λc=>?_) λc=>CA.skip hj hla ⟨?_,sz.trans s'⟩
  .walk_at "rd"
   refine CA.take hj hla ⟨?_,sz.trans s'⟩
   rw[etk,List.filter_append,List.filter_cons_of_pos c,List.filter_nil]
   exact(tv.same s').snoc (s' _ _ ha)
  .rw[etk,List.filter_append,List.filter_cons_of_neg c,List.filter_nil,List.append_nil]
   exact tv.same s'
 .rintro g acc Hz ⟨tv,sz⟩ _ zg
  rw[List.take_length]at tv
  exact hk g _ (sz.Zai zg) (sz.free zg) (tv.at zg)
theorem nth_mem {ns:List Int}{i:Nat} (h:i<ns.length):nth ns i∈ns:=by
 unfold nth
 rw[Yg,Yf h];exact YK h
theorem way_step {ns T:List Int} (hT:Zq ns T) {p:Nat} (hp:p<T.length):(nth T p=-1/\way T p=[])\/∃q:Nat,nth T p=q/\q<T.length/\way T p=q::way T q:=by
 have e:=hT.1
 rcases ZaE hT (p:=p) ⋯with z|⟨q,z,hq,_,_⟩
 .exact .inl ⟨z,Zjj z⟩
 .exact .inr ⟨q,z,⋯,ZbN hT ⋯ z⟩
theorem top_in {ns T:List Int} (hT:Zq ns T):∀k p,p<T.length->(way T p).length<=k->(-1:Int)∈T:=by
 intro k
 induction k with
 |zero =>
  intro p hp hk
  rcases way_step hT hp with⟨z,_⟩|⟨q,_,_,z⟩
  .rw[<-z];exact nth_mem hp
  .rw[z]at hk;simp at hk
 |succ k ih =>
  intro p hp hk
  rcases way_step hT hp with⟨z,_⟩|⟨q,_,hq,z⟩
  .rw[<-z];exact nth_mem hp
  .exact ih q hq (by rw[z,YI]at hk;omega)
theorem tups_eq {H:Hp}{l q:Addr}{rs:List (List Int)}{r:List Int} (h:TupsAt H l rs) (hq:H q=some (.tup (r.map V.int))):∃(as:List Addr) (e:Addr->Bool),SqL K H l (as.map V.ref)/\as.length=rs.length/\(∀a∈as,EqD K H 3 (.ref a) (.ref q) (e a))/\as.any e=decide (r∈rs)/\as.countP e=rs.count r:=by
 obtain⟨as,h1,h2,h3⟩:=h
 have inj:∀x:List Int,(some (HO.tup (x.map V.int))=some (HO.tup (r.map V.int)))↔x=r:=λx=>⟨λz=>(List.map_inj_right (λ_ _ h=>V.int.inj h)).mp (HO.tup.inj (YF z)),λz=>by rw[z]⟩
 have key:∀(as:List Addr) (rs:List (List Int)),as.length=rs.length->(∀i (h1:i<as.length) (h2:i<rs.length),H as[i]=some (.tup (rs[i].map V.int))) ->
   as.any (λa=>@decide (H a=H q) (Y9 _))=decide (r∈rs)/\as.countP (λa=>@decide (H a=H q) (Y9 _))=rs.count r:=by
  intro as
  induction as with
  |nil =>
   intro rs hl _
   have:rs=[]:=List.length_eq_zero_iff.mp hl.symm
   subst this
   exact⟨by simp,rfl⟩
  |cons a as ih =>
   intro rs hl hk
   cases rs with
   |nil=>cases hl
   |cons x rs =>
    obtain⟨i1,i2⟩:=ih rs (by simpa using hl) λi h1 h2=>hk (i+1) (by simpa using h1) (by simpa using h2)
    have ha:H a=some (.tup (x.map V.int)):=hk 0 (by simp) (by simp)
    have e0:@decide (H a=H q) (Y9 _)=decide (x=r):=by
     by_cases z:x=r
     .rw[Yu z]
      exact @decide_eq_true _ (Y9 _) (by rw[ha,hq,z])
     .rw[Yt z]
      exact @decide_eq_false _ (Y9 _) (λy=>z ((inj x).mp (by rw[<-ha,<-hq];exact y)))
    rw[List.any_cons,List.countP_cons,List.count_cons,i1,i2,e0]
    by_cases z:x=r
    .subst z;simp
    .have z2:¬ r=x:=λy=>z y.symm
     simp[z,z2]
 refine⟨as,λa=>@decide (H a=H q) (Y9 _),SqL.of h1,h2,λa ha=>?_,key as rs h2 h3⟩
 obtain⟨i,hi,rfl⟩:=YU ha
 have hx:=h3 i hi ⋯
 have:=ZlY (n:=2) (K:=K) ZeF _ _ _ _ (Zfl (SqT.of hx)) (Zfl (SqT.of hq))
 have e0:@decide (H as[i]=H q) (Y9 _)=decide (rs[i]'⋯=r):=by
  by_cases z:rs[i]'⋯=r
  .rw[Yu z]
   exact @decide_eq_true _ (Y9 _) (by rw[hx,hq,z])
  .rw[Yt z]
   exact @decide_eq_false _ (Y9 _) (λy=>z ((inj _).mp (by rw[<-hx,<-hq];exact y)))
 show EqD K H 3 _ _ (@decide (H as[i]=H q) (Y9 _))
 rw[e0];exact this
noncomputable def pairsP (ps:List Pt):List (List Int):=ps.filterMap λp=>p.map λe=>[e.1,e.2]
theorem pairsP_mem {ps:List Pt}{r:List Int}:r∈pairsP ps↔∃e:Int×Int,some e∈ps/\r=[e.1,e.2]:=by
 unfold pairsP
 rw[List.mem_filterMap]
 constructor
 .rintro⟨p,hp,e⟩
  cases p with
  |none=>cases e
  |some e'=>exact⟨e',hp,(YF e).symm⟩
 .rintro⟨e,he,rfl⟩
  exact⟨some e,he,rfl⟩
theorem pairsP_len (ps:List Pt):(pairsP ps).length<=ps.length:=List.length_filterMap_le _ _
theorem top_idx {ns T:List Int} (hT:Zq ns T) (h0:0<ns.length):(-1:Int)∈T/\T.idxOf (-1)<T.length/\nth T (T.idxOf (-1))=-1:=by
 have hm1:=top_in hT _ 0 (by have:=hT.1;omega) (Ye _)
 have ht:=List.idxOf_lt_length_of_mem hm1
 refine⟨hm1,ht,?_⟩
 unfold nth
 rw[Yg,Yf ht]
 simp
theorem tbl_row {H:Hp}{l:Addr}{tab:List (List Pt)}{i:Nat} (h:TblAt H l tab) (hi:i<tab.length):∃(xs:List V) (a:Addr) (vals:List V),H l=some (.lst xs)/\xs[i]?=some (.ref a)/\H a=some (.lst vals)/\vals.length=(tab.getD i []).length/\∀(j:Nat) (v:V) (p:Pt),vals[j]?=some v->(tab.getD i [])[j]?=some p->PairAt H v p:=by
 obtain⟨as,h1,_,h2,h3⟩:=h
 obtain⟨vals,g1,g2,g3⟩:=h3 i (as[i]'⋯) (tab[i]'hi) (Yf ⋯) (Yf hi)
 have e:tab.getD i []=tab[i]'hi:=by rw[Yg,Yf hi];rfl
 refine⟨_,as[i]'⋯,vals,h1,by rw[YG,Yf ⋯];rfl,g1,by rw[e];exact g2,by rw[e];exact g3⟩
theorem maxN {S:Nat->Prop}:∀(N:Nat),(∃n,S n)->(∀n,S n->n<N)->∃m,S m/\∀n,S n->n<=m
 |0,⟨n,h⟩,b=>absurd (b n h) (Nat.not_lt_zero _)
 |N+1,h,b=>by
  by_cases c:S N
  .exact⟨N,c,λn hn=>Nat.lt_succ_iff.mp (b n hn)⟩
  .exact maxN N h λn hn=>by
    have:=b n hn
    have:n≠N:=λz=>c (z▸hn)
    omega
theorem minN {S:Nat->Prop} (n:Nat) (h:S n):∃m,S m/\∀k,S k->m<=k:=by
 induction n using Nat.strongRecOn with
 |ind n ih =>
  by_cases c:∃k,k<n/\S k
  .obtain⟨k,h1,h2⟩:=c
   exact ih k h1 h2
  .exact⟨n,h,λk hk=>Nat.le_of_not_lt λz=>c ⟨k,z,hk⟩⟩
theorem entry_ex {f:Nat->Int}{ts:List Int}{a b v i:Nat} (hv:ZL f a b v):∃p:Pt,EntryIs f ts a b v i p:=by
 have hab:=Yn hv.1 hv.2.1
 by_cases h:∃g,Hold f ts a b g/\g v=i
 .obtain⟨g,hg,e⟩:=h
  obtain⟨m,⟨g1,p1,p2,p3⟩,m2⟩:=maxN (S:=λn=>∃g,Hold f ts a b g/\g v=i/\g a=n) ts.length ⟨_,g,hg,e,rfl⟩ λn ⟨g,h1,_,h2⟩=>h2▸h1.2.1 a (Ye _) hab
  obtain⟨k,⟨g2,q1,q2,q3⟩,k2⟩:=minN (S:=λn=>∃g,Hold f ts a b g/\g v=i/\g b=n) _ ⟨g,hg,e,rfl⟩
  refine⟨some ((m:Int),(k:Int)),entry_some hv ⟨g1,p1,p2,by rw[p3]⟩ ⟨g2,q1,q2,by rw[q3]⟩ λg hg e=>⟨?_,?_⟩⟩
  .have:=m2 _ ⟨g,hg,e,rfl⟩;omega
  .have:=k2 _ ⟨g,hg,e,rfl⟩;omega
 .exact⟨none,λg hg e=>h ⟨g,hg,e⟩⟩
theorem stood_ex (T ns ts:List Int):∃tab,StoodIs T ns ts tab:=by
 have ex:∀v i:Nat,∃p:Pt,∀a b,SpanIs T ns v a b->EntryIs (nth ns) ts a b v i p:=λv i=>by
  by_cases c:∃a b,SpanIs T ns v a b
  .obtain⟨a,b,h⟩:=c
   obtain⟨p,hp⟩:=entry_ex (ts:=ts) (i:=i) h.2.2.2.2.2.1
   refine⟨p,λa' b' h'=>?_⟩
   obtain⟨e1,e2⟩:=h.uniq h'
   rw[<-e1,<-e2];exact hp
  .exact⟨none,λa b h=>absurd ⟨a,b,h⟩ c⟩
 refine⟨(List.range T.length).map λv=>(List.range ts.length).map λi=>Classical.choose (ex v i),by simp,λv hv=>?_⟩
 have e:((List.range T.length).map λv=>(List.range ts.length).map λi=>Classical.choose (ex v i)).getD v []=(List.range ts.length).map λi=>Classical.choose (ex v i):=by
  simp[Yg,hv]
 rw[e]
 refine⟨by simp,λa b h i hi=>?_⟩
 have e2:((List.range ts.length).map λi=>Classical.choose (ex v i)).getD i none=Classical.choose (ex v i):=by
  simp[Yg,hi]
 rw[e2]
 exact Classical.choose_spec (ex v i) a b h
theorem tab_stood {ns T ts:List Int}{tab:List (List Pt)} (hT:Zq ns T) (hG:Zbh T) (h:TabIs T ts tab):StoodIs T ns ts tab:=by
 obtain⟨t2,h2⟩:=stood_ex T ns ts
 have:=tab_uniq hG h (StoodIs.tab hT h2)
 rw[this];exact h2
theorem top_span {ns T:List Int} (hT:Zq ns T) {v:Nat} (hv:v<ns.length) (h:nth T v=-1):SpanIs T ns v 0 (ns.length-1):=by
 obtain⟨a,b,h1,h2,h3,h4,h5,h6,h7⟩:=under_span hT hv
 have hE:=hT.2 v hv
 have hE:ZC (nth ns) ns.length v (-1):=by
  have e:T.getD v 0=-1:=h
  rw[<-e];exact hE
 have hN:Zbk (nth ns) v/\ZaH (nth ns) ns.length v:=by
  rcases hE with⟨x,y,_⟩|⟨q,_,_,z⟩|⟨r,_,_,z⟩|⟨q,r,_,_,z⟩
  .exact⟨x,y⟩
  .omega
  .omega
  .split at z<;>omega
 have ea:a=0:=by rw[Zfs hN.1]at h4;omega
 have eb:b=ns.length-1:=by rw[Zg9 hN.2]at h5;omega
 subst ea eb
 exact⟨h1,h2,h3,h4,h5,h6,h7⟩
theorem cut_all {ns:List Int} (h0:0<ns.length):CutIs ns ns 0 (ns.length-1):=⟨⋯,λj _=>by rw[Nat.zero_add]⟩
theorem top_entry {ns T ts:List Int}{tab:List (List Pt)} (hT:Zq ns T) (h0:0<ns.length) (hG:Zbh T) (hTab:TabIs T ts tab):(tab.getD (T.idxOf (-1)) []).length=ts.length/\∀i,i<ts.length->EntryIs (nth ns) ts 0 (ns.length-1) (T.idxOf (-1)) i ((tab.getD (T.idxOf (-1)) []).getD i none):=by
 obtain⟨_,htl,ht2⟩:=top_idx hT h0
 have eT:=hT.1
 have hS:=tab_stood hT hG hTab
 obtain⟨k1,k2⟩:=hS.2 _ htl
 exact⟨k1,λi hi=>k2 _ _ (top_span hT ⋯ ht2) i hi⟩
theorem top_get {ns T ts:List Int}{tab:List (List Pt)} (hT:Zq ns T) (h0:0<ns.length) (hG:Zbh T) (hTab:TabIs T ts tab) {r:List Int} (hr:TopS T tab r):∃g:Nat->Nat,Hold (nth ns) ts 0 (ns.length-1) g/\r=[(g 0:Int),(g (ns.length-1):Int)]:=by
 obtain⟨k1,k2⟩:=top_entry hT h0 hG hTab
 obtain⟨e,he,rfl⟩:=hr
 obtain⟨i,hi,ei⟩:=YU he
 have:=k2 i ⋯
 rw[Yg,Yf hi,ei]at this
 obtain⟨⟨g,a1,_,a3,a4⟩,_⟩:=(show EntryIs (nth ns) ts 0 (ns.length-1) (T.idxOf (-1)) i (some e)from this)
 exact⟨g,a1,by rw[a3,a4]⟩
theorem top_bd {ns T ts:List Int}{tab:List (List Pt)} (hT:Zq ns T) (h0:0<ns.length) (hTab:TabIs T ts tab) (h6:ns.length<=6) (h16:ts.length<=16) {r:List Int} (hr:TopS T tab r):∃x y,r=[x,y]/\0<=y/\y<100000:=by
 obtain⟨g,hg,rfl⟩:=top_get hT h0 ⟨by have:=hT.1;omega,ns,hT⟩ hTab hr
 have:=hg.2.1 (ns.length-1) (Yo _) (Ye _)
 exact⟨_,_,rfl,⋯,⋯⟩
theorem pairK_lx {r q:List Int} (hr:∃x y,r=[x,y]/\0<=y/\y<100000) (hq:∃x y,q=[x,y]/\0<=y/\y<100000) (h:ZcH r<=ZcH q) (ne:r≠q):lxI r q=true:=by
 obtain⟨x,y,rfl,h1,h2⟩:=hr
 obtain⟨x',y',rfl,h3,h4⟩:=hq
 have h:x*100000+y<=x'*100000+y':=h
 rw[Zkm]
 by_cases e:x=x'
 .subst e
  rw[Yd rfl,Zkm,Yb (λz=>ne (by rw[z]))]
  refine Yu ?_
  have:y≠y':=λz=>ne (by rw[z])
  omega
 .rw[Yb e]
  exact Yu ⋯
noncomputable def LeastTo (ps qs told:List (List Int)):Prop:=(told.Pairwise λx y=>lxI x y=true)/\∀r,r∈told↔(r∈qs/\∀q∈ps,Win q r->q=r)
theorem ok__law_least_ones {f:Addr}{fd:FuncData} (F:Fun K "_law_least_ones" "_law_least_ones" s__law_least_ones f fd) (T:Txt K mg):FnOk P w K mg base (CXE P w) 1 f fd ["pairs"] (sp__law_least_ones K mg):=by
 refine F.okX sc__law_least_ones (λvs H Q E h=>?_) (λcdv A outer s H vs Q E hr h=>?_)
 .obtain⟨l,ps,rfl,_⟩:=h;rfl
 obtain⟨l,ps,rfl,hl,hp,hn,k1⟩:=h
 refine⟨_,(Ze (Zs (i:=1) sc__law_least_ones.nd rfl (Or.inl rfl) (ZQ Zb))
   (Ze (ZaC (Zbj PassesOwn.never rfl (Zao (Zk (Zjm (K:=K) rfl) rfl T.b_sorted ZeG (Za (pv 0) Zb))) (Zn (i:=2) sc__law_least_ones.nd rfl (Or.inr rfl)) (Ze (Z3 (i:=3) ["one","pair"] [none,some 2] sc__law_least_ones.nd rfl (Or.inl rfl) rfl rfl rfl (Zao (pv 0)) (λ_ _ _ _ _=>(Zn (i:=0) (show(["one","pair"]:List Str).Nodup from by decide +kernel) rfl (Or.inl rfl))) (λ_ _ _ _ _=>Zaa (PW.pt (ZbK (Zj Zgs (Zm (r:=rIxT K) ZI (pv 1) Zf (λ_ _=>rfl)) (Zm (r:=rIxT K) ZI (pv 0) Zf (λ_ _=>rfl)) (Zl _)) (Zbq (Zj Zgs (Zm (r:=rIxT K) ZI (pv 0) Zf (λ_ _=>rfl)) (Zm (r:=rIxT K) ZI (pv 1) Zf (λ_ _=>rfl)) (Zl _)))))) (λ_ _ _ _ _=>(pv 0)) Zt)
   (Zg (ZN (PW.pt (ZbK (Zj (ZmZ (K:=K) rfl hr) (pv 2) (pv 1) (by with_unfolding_all rfl)) (Zbq (Zj ZdU (Zb4 PySem.F.plainAttrs_list PySem.F.slot_list_count PySem.F.type_list_count (Znh (K:=K) rfl hr) (pv 3) (Za (pv 2) Zb)) (Zk (Zp (K:=K) rfl) rfl T.b_len YC (Za (pv 3) Zb)) (Zl _))))) (Zg (Z8 (Zb4 PySem.F.plainAttrs_list PySem.F.slot_list_append PySem.F.type_list_append Zap (pv 1) (Za (pv 2) Zb)))) ZA)))))
   (Zg (Zu (pv 1))))),?_⟩
 walk_at "rd"
 refine⟨Yo _,λp zp=>⟨ps,hl.same ((Zd.refl H).upd zp),hp,⋯,λrs g H1 hperm hpw zg s1 tg=>⟨tg.sq,?_⟩⟩⟩
 have hlen:rs.length=ps.length:=hperm.length_eq
 have hpr:∀r∈rs,∃x y,r=[x,y]/\0<=y/\y<100000:=λr hr=>hp r (hperm.mem_iff.mp hr)
 have s01:Zd H H1:=((Zd.refl H).upd zp).trans s1
 have hp1:H1 p=some (.lst []):=s1 _ _ Zc
 have hl1:TupsAt H1 l ps:=hl.same s01
 have nlp:l≠p:=λz=>by obtain⟨as,e,_⟩:=hl;rw[z,zp]at e;cases e
 have ngp:g≠p:=λz=>by rw[z,Zc]at zg;cases zg
 have tu:∀{Hx:Hp}{b:Addr}{qs:List (List Int)},TupsAt H1 b qs->b≠p->Exc p H1 Hx->TupsAt Hx b qs:=λh n e=>h.keep (λxs z=>e _ _ n z) λa xs z=>e _ _ (λy=>by rw[y,hp1]at z;cases z) z
 obtain⟨w1,w2,w3⟩:=tg.walk (K:=K)
 refine Zhu (n:=rs.length) (λj σ Hx=>∃(v2 v3:Option V) (told:List (List Int)),σ=[some (.ref l),some (.ref p),v2,v3]/\TupsAt Hx p told/\told.length<=j/\LeastTo ps (rs.take j) told/\Exc p H1 Hx) ⟨_,_,[],rfl,TupsAt.nil hp1,Ye _,⟨.nil,λr=>by simp⟩,(Zd.refl H1).ZcE⟩ (λj σ Hx hj ⟨_,_,_,_,_,_,_,e⟩=>?_) (fun σ Hx ⟨_,_,_,_,_,_,_,e⟩=>?_) ?_ ?_
 .obtain⟨a1,_,_⟩:=(tu tg ngp e).walk (K:=K)
  exact a1 j _ (Zd.refl _) hj
 .obtain⟨_,a2,_⟩:=(tu tg ngp e).walk (K:=K)
  exact a2 _ (Zd.refl _)
 .rintro j x σ Hx Hy hj ⟨v2,v3,told,rfl,tp,hlt,⟨L1,L2⟩,ex⟩ hy
  obtain⟨_,_,a3⟩:=(tu tg ngp ex).walk (K:=K)
  obtain⟨rfl,u,rfl,hu⟩:=a3 j x _ _ hj (Zd.refl _) hy
  have etk:rs.take (j+1)=rs.take j++[rs[j]]:=by rw[Je,Yf hj];rfl
  have hrj:rs[j]∈rs:=YK hj
  have hbe:∀q∈rs.take j,ZcH q<=ZcH rs[j]:=λq hq=>by
   obtain⟨i,hi,e⟩:=List.mem_take_iff_getElem.mp hq
   rw[<-e]
   exact List.pairwise_iff_getElem.mp hpw i j ⋯ hj ⋯
  generalize rs[j]=r at hu etk hrj hbe
  obtain⟨x,y,er,hy0,hy1⟩:=hpr r hrj
  have lHy:TupsAt Hy l ps:=tu hl1 nlp ex
  walk_at "rd"
  refine⟨lHy.sq,comp_keep (λq=>decide (Win q r)) lHy ⋯ ?_ ?_⟩
  .intro a q Hz R hq sz haz hR
   obtain⟨x',y',eq,_,_⟩:=hp q hq
   have huz:=sz _ _ hu
   subst er eq
   walk_at "rd"
   refine⟨_,SqT.of huz,_,rfl,_,SqT.of haz,_,rfl,_,rfl,_,rfl,Zy (λz=>⟨_,SqT.of haz,_,rfl,_,SqT.of huz,_,rfl,_,rfl,_,rfl,?_⟩) λz=>?_⟩
   .have e:decide (Win [x',y'] [x,y])=decide (y'<=y):=by
     rw[decide_eq_decide]
     exact⟨λh=>h.2,λh=>⟨z,h⟩⟩
    rw[<-e]
    exact hR Hz (Zd.refl _)
   .have e:decide (Win [x',y'] [x,y])=false:=Yt λh=>z h.1
    have:=hR Hz (Zd.refl _)
    rw[e]at this
    exact this
  .intro i H2 s2 zi ti
   have tp2:=tp.same s2
   have hu2:=s2 _ _ hu
   obtain⟨as,e,q1,q2,q3,q4,_⟩:=tups_eq (K:=K) tp2 hu2
   obtain⟨bs,e',p1,p2,p3,_,p5⟩:=tups_eq (K:=K) ti hu2
   have ex2:Exc p H1 H2:=ex.same s2
   have hmin:((ps.filter λq=>decide (Win q r)).count r=(ps.filter λq=>decide (Win q r)).length)↔∀q∈ps,Win q r->q=r:=by
    rw[List.count_eq_length]
    constructor
    .intro h q hq hw
     exact(h q (YO.mpr ⟨hq,Yu hw⟩)).symm
    .intro h q hq
     obtain⟨h1,h2⟩:=YO.mp hq
     exact(h q h1 (Y2 h2)).symm
   have skip:¬ (r∉told/\∀q∈ps,Win q r->q=r)->∃(told:List (List Int)),TupsAt H2 p told/\told.length<=j+1/\LeastTo ps (rs.take (j+1)) told/\Exc p H1 H2:=λh=>by
    refine⟨told,tp2,⋯,⟨L1,λq=>?_⟩,ex2⟩
    rw[L2 q,etk,Yw,YT]
    constructor
    .rintro⟨h1,h2⟩;exact⟨.inl h1,h2⟩
    .rintro⟨h1|h1,h2⟩
     .exact⟨h1,h2⟩
     .subst h1
      have:q∈told:=Classical.byContradiction λz=>h ⟨z,h2⟩
      exact(L2 q).mp this
   walk_at "rd"
   obtain⟨cs,hi,hcl,_⟩:=id ti
   obtain⟨ds,hpp,hdl,hdk⟩:=id tp2
   have hbl:bs.length<=16:=by rw[p2];exact Yn (Jc _ _) hn
   refine⟨as,q1,e,q3,Zy (λz=>?_) λz=>skip λh=>?_⟩
   .rw[q4]at z
    have z:=of_decide_eq_false z
    refine⟨ZX hi,bs,p1,⋯,e',p3,_,.inl p1,Zy (λy1=>?_) λy1=>skip λh=>?_⟩
    .have yy:bs.countP e'=bs.length:=by rw[Yh]at y1;exact Int.ofNat.inj y1
     rw[p5,p2]at yy
     have hm:=hmin.mp yy
     refine⟨ZX hpp,_,hpp,by rw[Yh,hdl];exact YA (show _<=7000 by omega) nofun,_,TupsAt.push hpp hdl hdk hu2,by simp;omega,⟨?_,λq=>?_⟩,ex2.trans Exc.upd⟩
     .rw[List.pairwise_append]
      refine⟨L1,by simp,λt ht q hq=>?_⟩
      rw[YT.mp hq]
      have ht2:=((L2 t).mp ht).1
      exact pairK_lx (hpr t (List.mem_of_mem_take ht2)) ⟨x,y,er,hy0,hy1⟩ (hbe t ht2) λy=>z (y▸ht)
     .rw[Yw,YT,L2 q,etk,Yw,YT]
      constructor
      .rintro(⟨h1,h2⟩|h1)
       .exact⟨.inl h1,h2⟩
       .subst h1;exact⟨.inr rfl,hm⟩
      .rintro⟨h1|h1,h2⟩
       .exact .inl ⟨h1,h2⟩
       .exact .inr h1
    .refine y1 ?_
     rw[Yh,p5,p2,hmin.mpr h.2]
   .rw[q4]at z
    exact z (Yt h.1)
 .rintro σ Hx ⟨v2,v3,told,rfl,tp,hlt,⟨L1,L2⟩,ex⟩
  rw[List.take_length]at L2
  walk_at "rd"
  exact k1 p told Hx zp ⟨L1,λr=>(L2 r).trans (and_congr_left λ_=>hperm.mem_iff)⟩ ⋯ tp (s01.exc zp ex)
noncomputable def StrIn (n a b:Int):Prop:=0<=a/\a<=b/\b<n
noncomputable def sp_is_stretch:SpT:=λK mg vs H Q E=>∃n a b:Int,vs=[.int n,.int a,.int b]/\(StrIn n a b->Q (.bl true) H)/\(¬ StrIn n a b->Q (.bl false) H)
noncomputable def sp_need_stretch:SpT:=λK mg vs H Q E=>∃n a b:Int,vs=[.int n,.int a,.int b]/\0<=n/\n<=1000/\(StrIn n a b->Q .non H)/\(¬ StrIn n a b->E (.ref (clsAt mg "NoPlace")) none H)
noncomputable def TbsH (K:PySem.W.Frag) (mg:Str->Option Value) (H:Hp):Prop:=Z4 K mg "from_below" H/\Z4 K mg "best_ahead" H/\Z4 K mg "best_behind" H
noncomputable def RTx (K:PySem.W.Frag) (H:Hp) (r x:Addr) (ns ts:List Int):Prop:=(SqL K H r (ns.map V.int)\/SqT K H r (ns.map V.int))/\(SqL K H x (ts.map V.int)\/SqT K H x (ts.map V.int))/\0<ns.length/\ns.length<=6/\ts.length<=16
theorem RTx.same {K:PySem.W.Frag}{H H':Hp}{r x:Addr}{ns ts:List Int} (h:RTx K H r x ns ts) (s:Zd H H'):RTx K H' r x ns ts:=⟨s.q h.1,s.q h.2.1,h.2.2⟩
noncomputable def HIn (ns ts:List Int) (a b:Int) (g:Nat->Nat):Prop:=Hold (nth ns) ts 0 (ns.length-1) g/\a<=(g 0:Int)/\(g (ns.length-1):Int)<=b
noncomputable def plL (n:Nat) (g:Nat->Nat):List Int:=(List.range n).map λv=>(g v:Int)
noncomputable def PlV (H:Hp) (ns ts:List Int) (a b:Int) (v:V):Prop:=(v=.non/\∀g,¬ HIn ns ts a b g)\/∃(c:Addr) (g:Nat->Nat),v=.ref c/\H c=some (.tup ((plL ns.length g).map V.int))/\HIn ns ts a b g
noncomputable def sp_places_in:SpT:=λK mg vs H Q E=>∃(r x:Addr) (ns ts:List Int) (a b:Int),vs=[.ref r,.ref x,.int a,.int b]/\RTx K H r x ns ts/\TbsH K mg H/\(StrIn ts.length a b->∀(v:V) H',Zd H H'->PlV H' ns ts a b v->Q v H')/\(¬ StrIn ts.length a b->E (.ref (clsAt mg "NoPlace")) none H)
noncomputable def sp__law_asked:SpT:=λK mg vs H Q E=>∃(r x:Addr) (ns ts:List Int) (a b:Int),vs=[.ref r,.ref x,.int a,.int b]/\RTx K H r x ns ts/\TbsH K mg H/\(StrIn ts.length a b->∀(v:V) H',Zd H H'->PlV H' ns ts a b v->Q v H')/\(¬ StrIn ts.length a b->∀(e:Addr) H',Zd H H'->H' e=some (ZkV e (clsAt mg "NoPlace"))->Q (.ref e) H')
noncomputable def sp__law_holds_so:SpT:=λK mg vs H Q E=>∃(r x c:Addr) (ns ts:List Int) (a b:Int) (g:Nat->Nat),vs=[.ref r,.ref x,.int a,.int b,.ref c]/\RTx K H r x ns ts/\H c=some (.tup ((plL ns.length g).map V.int))/\HIn ns ts a b g/\∀H',Zd H H'->Q (.bl true) H'
noncomputable def PsIs (ns ts:List Int) (ps:List (List Int)):Prop:=∀r,r∈ps->∃g:Nat->Nat,Hold (nth ns) ts 0 (ns.length-1) g/\r=[(g 0:Int),(g (ns.length-1):Int)]
noncomputable def PsAll (ns ts:List Int) (ps:List (List Int)):Prop:=∀g:Nat->Nat,Hold (nth ns) ts 0 (ns.length-1) g->∃r∈ps,(g 0:Int)<=nth r 0/\nth r 1<=(g (ns.length-1):Int)
noncomputable def sp__law_right:SpT:=λK mg vs H Q E=>∃(r x l:Addr) (ns ts:List Int) (ps:List (List Int)) (a b:Int),vs=[.ref r,.ref x,.ref l,.int a,.int b]/\RTx K H r x ns ts/\TupsAt H l ps/\ps.length<=16/\PsIs ns ts ps/\PsAll ns ts ps/\TbsH K mg H/\∀H',Zd H H'->Q (.bl true) H'
noncomputable def Two (qs:List (List Int)):Prop:=∀q∈qs,∃a b:Int,q=[a,b]
noncomputable def sp__law_stretches:SpT:=λK mg vs H Q E=>∃(p x l:Addr) (ts:List Int) (ps:List (List Int)),vs=[.ref p,.ref x,.ref l]/\ZK H p/\x≠p/\l≠p/\H x=some (.lst (ts.map V.int))/\TupsAt H l ps/\(∀r∈ps,∃x y,r=[x,y]/\0<=y/\y<100000)/\ps.length<=16/\ts.length<=16/\∀(l':Addr) (qs:List (List Int)) H',H l'=none->TupsAt H' l' qs->Two qs->qs.length<=1000->ZK H' p->Exc p H H'->Q (.ref l') H'
theorem LowsOn.congr {f h h':Nat->Int}{a b:Nat} (k:LowsOn f h a b) (e:∀o,a<=o->o<=b->h' o=h o):LowsOn f h' a b:=λx y p hx hy hp=>by
 have z:=k x y p hx hy hp
 have z1:=z.1
 have z2:=z.2.1
 exact⟨z1,z2,λq q1 q2=>by rw[e p ⋯ ⋯,e q ⋯ ⋯];exact z.2.2.1 q q1 q2,λq q1 q2=>by rw[e p ⋯ ⋯,e q ⋯ ⋯];exact z.2.2.2 q q1 q2⟩
theorem Hold.up {f:Nat->Int}{ts ws:List Int}{x y a:Nat}{g:Nat->Nat} (h:Hold f ws x y g) (e:∀j,j<ws.length->nth ws j=nth ts (a+j)) (hl:a+ws.length<=ts.length):Hold f ts x y λo=>a+g o:=by
 obtain⟨h1,h2,h3⟩:=h
 exact⟨λo o1 o2=>by have:=h1 o o1 o2;show a+g o<a+g (o+1);omega,λo o1 o2=>by have:=h2 o o1 o2;show a+g o < _;omega,h3.congr λo o1 o2=>(e _ (h2 o o1 o2)).symm⟩
theorem Hold.down {f:Nat->Int}{ts ws:List Int}{x y a:Nat}{g:Nat->Nat} (h:Hold f ts x y g) (e:∀j,j<ws.length->nth ws j=nth ts (a+j)) (hg:∀o,x<=o->o<=y->a<=g o/\g o<a+ws.length):Hold f ws x y λo=>g o-a:=by
 obtain⟨h1,h2,h3⟩:=h
 refine⟨λo o1 o2=>by have:=h1 o o1 o2;have:=hg o o1 ⋯;dsimp only;omega,λo o1 o2=>by have:=hg o o1 o2;dsimp only;omega,h3.congr λo o1 o2=>?_⟩
 have:=hg o o1 o2
 dsimp only
 rw[e _ ⋯,show a+(g o-a)=g o by omega]
theorem Hold.le {f:Nat->Int}{ts:List Int}{a b:Nat}{g:Nat->Nat} (h:Hold f ts a b g) {x y:Nat} (h1:a<=x) (h2:x<=y) (h3:y<=b):g x<=g y:=by
 by_cases c:x=y
 .rw[c];exact Ye _
 .exact Y3 (h.mono h1 ⋯ h3)
theorem pt_of {ps:List Pt}{j:Nat}{l r:Int} (h:ps.getD j none=some (l,r)):ptAt ps j=(l,r):=by unfold ptAt;rw[h];rfl
theorem stands_hold {T ns ts:List Int}{tab:List (List Pt)}{f:Nat->Nat} (hT:Zq ns T) (hTab:TabIs T ts tab) (hS:StandsBy T ts tab f):∀k v a b,b-a<=k->SpanIs T ns v a b->Hold (nth ns) ts a b f/\(tab.getD v []).getD (f v) none=some ((f a:Int),(f b:Int)):=by
 have eT:=hT.1
 intro k
 induction k using Nat.strongRecOn with
 |_ k ih =>
 intro v a b hk hsp
 obtain⟨s1,s2,s3,_,_,hlow,_⟩:=id hsp
 have hv:v<T.length:= ⋯
 obtain⟨f1,f2,f3⟩:=hS v hv
 obtain⟨ah,bh,hA,hB,m1,m2,hF,hL,hE⟩:=(hTab.2 v hv).2 (f v) f1
 have left:(ah=none/\a=v/\m1=some (f v:Int))\/(a<v/\Hold (nth ns) ts a (v-1) f/\f (v-1)<f v/\(∀o,a<=o->o<v->nth ts (f v)<nth ts (f o))/\m1=some (f a:Int)):=by
  obtain⟨z1,z2⟩:=span_ahead hT hsp
  cases ah with
  |none=>exact .inl ⟨rfl,z1 hA,hF⟩
  |some c =>
   obtain⟨z3,z4⟩:=z2 c hA
   obtain⟨y1,y2⟩:=ih ((v-1)-a) ⋯ c a (v-1) (Ye _) z4
   have bA:=(f3 c hA.2.1 hA.2.2).1 hA.1
   obtain⟨⟨b1,b2,b3,b4⟩,b5⟩:=bA
   rw[pt_of y2]at b4 b5
   refine .inr ⟨z3,y1,by have b4:((f (v-1):Nat):Int)<(f v:Int):=b4;omega,λo o1 o2=>?_,?_⟩
   .have hcl:=z4.2.2.2.2.2.1
    have:=low_least (y1.2.2 a (v-1) c (Ye _) (Ye _) hcl) o1 ⋯
    omega
   .cases m1 with
    |none=>exact absurd ⟨b1,b2,b3,by rw[pt_of y2];exact b4⟩ (hF (f c))
    |some m =>
     obtain⟨⟨j,hj,em⟩,hmax⟩:=hF
     have q1:=b5 j hj
     have q2:=hmax (f c) ⟨b1,b2,b3,by rw[pt_of y2];exact b4⟩
     rw[pt_of y2]at q2
     dsimp only at q1 q2
     congr 1;omega
 have right:(bh=none/\b=v/\m2=some (f v:Int))\/(v<b/\Hold (nth ns) ts (v+1) b f/\f v<f (v+1)/\(∀o,v<o->o<=b->nth ts (f v)<=nth ts (f o))/\m2=some (f b:Int)):=by
  obtain⟨z1,z2⟩:=span_behind hT hsp
  cases bh with
  |none=>exact .inl ⟨rfl,z1 hB,hL⟩
  |some c =>
   obtain⟨z3,z4⟩:=z2 c hB
   obtain⟨y1,y2⟩:=ih (b-(v+1)) ⋯ c (v+1) b (Ye _) z4
   have bB:=(f3 c hB.2.1 hB.2.2).2 hB.1
   obtain⟨⟨b1,b0,b2,b3,b4⟩,b5⟩:=bB
   rw[pt_of y2]at b4 b5
   refine .inr ⟨z3,y1,by have b4:(f v:Int)<((f (v+1):Nat):Int):=b4;omega,λo o1 o2=>?_,?_⟩
   .have hcl:=z4.2.2.2.2.2.1
    have:=low_least (y1.2.2 (v+1) b c (Ye _) (Ye _) hcl) o1 o2
    omega
   .cases m2 with
    |none=>exact absurd ⟨b1,b0,b2,b3,by rw[pt_of y2];exact b4⟩ (hL (f c))
    |some m =>
     obtain⟨⟨j,hj,em⟩,hmin⟩:=hL
     have q1:=b5 j hj
     have q2:=hmin (f c) ⟨b1,b0,b2,b3,by rw[pt_of y2];exact b4⟩
     rw[pt_of y2]at q2
     dsimp only at q1 q2
     congr 1;omega
 constructor
 .refine(hold_split hlow).mpr ⟨f1,λc=>?_,λc=>?_⟩
  .rcases left with⟨_,z,_⟩|⟨_,y1,y2,y3,_⟩
   .omega
   .exact⟨y1,y2,y3⟩
  .rcases right with⟨_,z,_⟩|⟨_,y1,y2,y3,_⟩
   .omega
   .exact⟨y1,y2,y3⟩
 .have e1:m1=some (f a:Int):=by
   rcases left with⟨_,z,e⟩|⟨_,_,_,_,e⟩
   .rw[z];exact e
   .exact e
  have e2:m2=some (f b:Int):=by
   rcases right with⟨_,z,e⟩|⟨_,_,_,_,e⟩
   .rw[z];exact e
   .exact e
  rw[hE,e1,e2];rfl
theorem plL_len (n:Nat) (g:Nat->Nat):(plL n g).length=n:=by unfold plL;simp
theorem plL_nth {n:Nat}{g:Nat->Nat}{v:Nat} (h:v<n):nth (plL n g) v=(g v:Int):=by
 show(plL n g).getD v 0=_
 unfold plL
 rw[Yg,YG,List.getElem?_range h];rfl
theorem hold_pl {ns ts:List Int}{g:Nat->Nat} (h0:0<ns.length) (h:Hold (nth ns) ts 0 (ns.length-1) g):(plL ns.length g).Pairwise (· < ·)/\(∀x∈plL ns.length g,0<=x/\x<(ts.length:Int))/\∃W,Zq ns W/\Zq (atL ts (plL ns.length g)) W:=by
 obtain⟨r,⟨h1,h2,h3⟩,h4⟩:=holds_from (Yo _) (cut_all h0) h
 have e:r=plL ns.length g:=by
  refine List.ext_getElem (by rw[h1,plL_len]) λi i1 i2=>?_
  have a:=h4 i (Yo _) (by rw[plL_len]at i2;omega)
  have b:=plL_nth (g:=g) (show i<ns.length by rw[plL_len]at i2;exact i2)
  rw[Nat.sub_zero,<-b]at a
  unfold nth at a
  rw[Yg,Yf i1,Yg,Yf i2]at a
  exact a
 subst e
 exact⟨h2.2,h2.1,h3⟩
theorem top_all {ns T ts:List Int}{tab:List (List Pt)} (hT:Zq ns T) (h0:0<ns.length) (hG:Zbh T) (hTab:TabIs T ts tab):PsIs ns ts (pairsP (tab.getD (T.idxOf (-1)) []))/\PsAll ns ts (pairsP (tab.getD (T.idxOf (-1)) [])):=by
 refine⟨λr hr=>top_get hT h0 hG hTab (pairsP_mem.mp hr),λg hg=>?_⟩
 obtain⟨k1,k2⟩:=top_entry hT h0 hG hTab
 obtain⟨_,htl,_⟩:=top_idx hT h0
 have eT:=hT.1
 have hv:=hg.2.1 (T.idxOf (-1)) (Yo _) ⋯
 have:=k2 _ hv
 cases hp:(tab.getD (T.idxOf (-1)) []).getD (g (T.idxOf (-1))) none with
 |none=>rw[hp]at this;exact absurd rfl (this g hg)
 |some e =>
  rw[hp]at this
  obtain⟨_,k3⟩:=this
  obtain⟨a1,a2⟩:=k3 g hg rfl
  refine⟨[e.1,e.2],pairsP_mem.mpr ⟨e,?_,rfl⟩,a1,a2⟩
  rw[Yg,Yf (by rw[k1];exact hv)]at hp
  rw[<-show _=some e from hp]
  exact YK _
theorem ok_is_stretch {f:Addr}{fd:FuncData} (F:Fun K "is_stretch" "is_stretch" s_is_stretch f fd) (T:Txt K mg):FnOk P w K mg base (CXE P w) 1 f fd ["many","a","b"] (sp_is_stretch K mg):=by
 refine F.okX sc_is_stretch (λvs H Q E h=>?_) (λcdv A outer s H vs Q E hr h=>?_)
 .obtain⟨n,a,b,rfl,_⟩:=h;rfl
 obtain⟨n,a,b,rfl,k1,k2⟩:=h
 refine⟨_,(Zg (Zu (ZmJ Zgs Zgs ZcB Zf (pv 1) (pv 2) (pv 0)))),?_⟩
 unfold StrIn at k1 k2
 walk_at "rd"
 by_cases h0:0<=a
 .rw[Yd h0]
  by_cases h1:a<=b
  .rw[Yd h1]
   by_cases h2:b<n
   .rw[Yu h2];exact k1 ⟨h0,h1,h2⟩
   .rw[Yt h2];exact k2 ⋯
  .rw[Yb h1];exact k2 ⋯
 .rw[Yb h0];exact k2 ⋯
theorem ok_need_stretch {f:Addr}{fd:FuncData} (F:Fun K "need_stretch" "need_stretch" s_need_stretch f fd) (Zc0:Callee P w K mg base "is_stretch" 1 ["many","a","b"] (sp_is_stretch K mg)) (T:Txt K mg):FnOk P w K mg base (CXE P w) 2 f fd ["many","a","b"] (sp_need_stretch K mg):=by
 refine F.okX sc_need_stretch (λvs H Q E h=>?_) (λcdv A outer s H vs Q E hr h=>?_)
 .obtain⟨n,a,b,rfl,_⟩:=h;rfl
 obtain⟨n,a,b,rfl,hn0,hn1,k1,k2⟩:=h
 refine⟨_,(Zg (ZN (ZfY (ZeW (Zi Zc0 (hr.mono nofun) rfl Zx (Za (pv 0) (Za (pv 1) (Za (pv 2) Zb)))))) (Zg (Zfj rfl rfl T.c_NoPlace T.x_NoPlace (Za (ZeE (Zbr nofun (Zhl (pv 0) (Zbr nofun Zje)))) Zb) Zg5)) ZA)),?_⟩
 walk_at "rd"
 refine⟨n,a,b,rfl,λh=>?_,λh=>?_⟩
 .walk_at "rd"
  exact k1 h
 .walk_at "rd"
  exact⟨⋯,⋯,λy=>⟨by decide,k2 h⟩⟩
theorem elder_first {ns T qs:List Int} (hT:Zq ns T) (hpm:qs.Perm (nats (T.length:Int))) (hpw:qs.Pairwise λx y=>dpI T x<=dpI T y) {p q i:Nat} (hp:p<T.length) (hq:q<T.length) (h:nth T p=q):(qs[i]?=some (p:Int)->(q:Int)∈qs.take i)/\((p:Int)∈qs.take i->(q:Int)∈qs.take i):=by
 have eT:=hT.1
 have dp:=dpI_elder hT (p:=p) ⋯ h
 have mq:(q:Int)∈qs:=hpm.mem_iff.mpr (YH.mpr ⟨q,Yq.mpr ⋯,rfl⟩)
 obtain⟨m,hm,em⟩:=YU mq
 have key:∀k,qs[k]?=some (p:Int)->m<k:=λk e=>by
  obtain⟨hk,ek⟩:=Yr.mp e
  refine Nat.lt_of_not_le λz=>?_
  rcases Nat.lt_or_eq_of_le z with z|z
  .have:=List.pairwise_iff_getElem.mp hpw k m hk hm z
   rw[ek,em]at this;omega
  .subst z
   rw[ek]at em
   rw[em]at dp;omega
 constructor
 .intro e
  have:=key i e
  rw[List.mem_take_iff_getElem]
  exact⟨m,⋯,em⟩
 .intro e
  obtain⟨k,hk,ek⟩:=List.mem_take_iff_getElem.mp e
  have:=key k (Yr.mpr ⟨⋯,ek⟩)
  rw[List.mem_take_iff_getElem]
  exact⟨m,⋯,em⟩
theorem top_free {ns T:List Int} (hT:Zq ns T) {p:Nat} (hp:p<T.length) (h:nth T p=-1):Zbk (nth ns) p/\ZaH (nth ns) ns.length p:=by
 rcases hT.2 p (by have:=hT.1;omega)with⟨a,b,_⟩|⟨q,_,_,e⟩|⟨q,_,_,e⟩|⟨q,r,_,_,e⟩
 .exact⟨a,b⟩
 .exact absurd (h.symm.trans e) ⋯
 .exact absurd (h.symm.trans e) ⋯
 .have:=h.symm.trans e
  split at this<;>omega
theorem top_only {ns T:List Int} (hT:Zq ns T) {u v:Nat} (hu:u<T.length) (hv:v<T.length) (eu:nth T u=-1) (ev:nth T v=-1):u=v:=by
 have e:=hT.1
 have key:∀a b,a<b->b<T.length->nth T a=-1->nth T b=-1->False:=λa b ab hb ea eb=>by
  have h1:=(top_free hT ⋯ ea).2 b ab ⋯
  have h2:=(top_free hT hb eb).1 a ab
  omega
 rcases Nat.lt_trichotomy u v with z|z|z
 .exact(key _ _ z hv eu ev).elim
 .exact z
 .exact(key _ _ z hu ev eu).elim
noncomputable def ChS (T ts:List Int) (tab:List (List Pt)) (i:Nat) (dn:List Int) (f:Nat->Option Nat):Prop:=f (T.idxOf (-1))=some i/\(∀v j,f v=some j->v<T.length/\j<ts.length/\((tab.getD v []).getD j none).isSome=true)/\(∀v,f v≠none->v=T.idxOf (-1)\/nth T v∈dn)/\∀v:Nat,(v:Int)∈dn->∃j,f v=some j/\∀c,c<T.length->nth T c=(v:Int)->∃jc,f c=some jc/\(c<v->BestA ts (tab.getD c []) j (some jc))/\(v<c->BestB ts (tab.getD c []) j (some jc))
noncomputable def chN (f:Nat->Option Nat) (ah bh:Option Nat) (ja jb:Nat):Nat->Option Nat:=λu=>if bh=some u then some jb else if ah=some u then some ja else f u
theorem ChS.kid {T ts:List Int}{tab:List (List Pt)}{i v c:Nat}{dn:List Int}{f:Nat->Option Nat} (h:ChS T ts tab i dn f) (ht:nth T (T.idxOf (-1))=-1) (hv:(v:Int)∉dn) (hc:nth T c=v):f c=none:=by
 cases e:f c with
 |none=>rfl
 |some j =>
  rcases h.2.2.1 c (by rw[e];simp)with z|z
  .rw[z,ht]at hc;omega
  .rw[hc]at z;exact absurd z hv
theorem ChS.next {T ts:List Int}{tab:List (List Pt)}{i v j ja jb:Nat}{dn:List Int}{f:Nat->Option Nat}{ah bh:Option Nat} (h:ChS T ts tab i dn f) (hG:Zbh T) (ht:nth T (T.idxOf (-1))=-1) (hv:(v:Int)∉dn) (hvT:v<T.length) (e:f v=some j) (hA:AheadIs T v ah) (hB:BehindIs T v bh)
  (bA:∀c,ah=some c->BestA ts (tab.getD c []) j (some ja)) (bB:∀c,bh=some c->BestB ts (tab.getD c []) j (some jb)):ChS T ts tab i (dn++[(v:Int)]) (chN f ah bh ja jb):=by
 have kid:∀c,nth T c=v->f c=none:=λc hc=>h.kid ht hv hc
 have kA:∀c,ah=some c->c<v/\c<T.length/\nth T c=v:=λc z=>by subst z;exact hA
 have kB:∀c,bh=some c->v<c/\c<T.length/\nth T c=v:=λc z=>by subst z;exact hB
 have keep:∀u k,f u=some k->chN f ah bh ja jb u=some k:=λu k hu=>by
  unfold chN
  have n1:¬ bh=some u:=λz=>by rw[kid u (kB u z).2.2]at hu;cases hu
  have n2:¬ ah=some u:=λz=>by rw[kid u (kA u z).2.2]at hu;cases hu
  rw[Yb n1,Yb n2]
  exact hu
 have hj:=h.2.1 v j e
 refine⟨keep _ _ h.1,λu k hu=>?_,λu hu=>?_,λw hw=>?_⟩
 .unfold chN at hu
  split at hu
  .rename_i z
   cases hu
   exact⟨(kB u z).2.1,(bB u z).1.2.1,(bB u z).1.2.2.1⟩
  .split at hu
   .rename_i z
    cases hu
    have:=(bA u z).1
    exact⟨(kA u z).2.1,by have:=this.1;omega,this.2.1⟩
   .exact h.2.1 u k hu
 .unfold chN at hu
  split at hu
  .rename_i z
   exact .inr (by rw[(kB u z).2.2];simp)
  .split at hu
   .rename_i z
    exact .inr (by rw[(kA u z).2.2];simp)
   .exact(h.2.2.1 u hu).imp id λz=>YS _ z
 .rcases Yw.mp hw with z|z
  .obtain⟨k,h1,h2⟩:=h.2.2.2 w z
   exact⟨k,keep _ _ h1,λc c1 c2=>let ⟨jc,g1,g2⟩:=h2 c c1 c2;⟨jc,keep _ _ g1,g2⟩⟩
  .have:w=v:=by have:=YT.mp z;omega
   subst this
   refine⟨j,keep _ _ e,λc c1 c2=>?_⟩
   rcases Nat.lt_trichotomy c w with y|y|y
   .have ea:=ahead_uniq hG hvT hA (show AheadIs T w (some c)from⟨y,c1,c2⟩)
    refine⟨ja,?_,λ_=>bA c ea,λq=>absurd y ⋯⟩
    unfold chN
    rw[Yb λz=>by have:=(kB c z).1;omega,Yd ea]
   .subst y;rw[kid c c2]at e;cases e
   .have eb:=behind_uniq hG hB (show BehindIs T w (some c)from⟨y,c1,c2⟩)
    refine⟨jb,?_,λq=>absurd y ⋯,λ_=>bB c eb⟩
    unfold chN
    rw[Yd eb]
noncomputable def ChD (kvs:List (Key×V)) (f:Nat->Option Nat):Prop:=∀v:Nat,Zb1 kvs (keyI (v:Int))=(f v).map λj=>V.int (j:Int)
theorem ChD.put {kvs:List (Key×V)}{f:Nat->Option Nat} (h:ChD kvs f) (c j:Nat):ChD (putK kvs (keyI (c:Int)) (V.int (j:Int))) λu=>if c=u then some j else f u:=λv=>by
 rw[Zor]
 by_cases z:c=v
 .subst z;simp
 .rw[Yb λq=>z (by have:((v:Nat):Int)=c:=Sum.inl.inj q;omega),h v]
  simp[z]
theorem chRow {K:PySem.W.Frag}{H:Hp}{l d:Addr}{tab:List (List Pt)}{c v j:Nat}{kvs:List (Key×V)}{f:Nat->Option Nat}{S:V->V->Prop} (TB:TblAt H l tab) (hc:c<tab.length) (hd:H d=some (.dK kvs)) (hD:ChD kvs f) (ej:f v=some j)
  (k:∀q:Addr,PtsAt H q (tab.getD c [])->S (.ref q) (.int (j:Int))):∃(x4:List V) (x5:Int),V.int (c:Int)=V.int x5/\SqL K H l x4/\∃x6,atI x4 x5=some x6/\∃x7,Zhz H d (V.int (v:Int)) (some x7)/\S x6 x7:=by
 obtain⟨xs,q,vals,hl,hxa,ha,hvl,hvp⟩:=tbl_row TB hc
 have g:Zhz H d (V.int (v:Int)) (some (V.int (j:Int))):=by
  have:=Zhz.k (k:=keyI (v:Int)) hd
  rw[hD v,ej]at this;exact this
 exact⟨xs,(c:Int),rfl,SqL.of hl,_,Zb3 hxa,_,g,k q ⟨vals,ha,hvl,hvp⟩⟩
theorem ok_places_by {f:Addr}{fd:FuncData} (F:Fun K "places_by" "places_by" s_places_by f fd) (ZaV:Callee P w K mg base "young_of" 1 ["tree"] (sp_young_of K mg)) (Zas:Callee P w K mg base "from_below" 5 ["tree"] (sp_from_below K mg)) (Zar:Callee P w K mg base "best_ahead" 1 ["text","pairs","i"] (sp_best_ahead K mg)) (Zae:Callee P w K mg base "best_behind" 1 ["text","pairs","i"] (sp_best_behind K mg)) (T:Txt K mg):FnOk P w K mg base (CXE P w) 6 f fd ["tree","text","table","i"] (sp_places_by K mg):=by
 refine F.okX sc_places_by (λvs H Q E h=>?_) (λcdv A outer s H vs Q E hr h=>?_)
 .obtain⟨t,x,l,T,ts,tab,i,rfl,_⟩:=h;rfl
 obtain⟨t,x,l,T',ts,tab,i,rfl,ht,hx,TB,hG,hTab,h16,hi,hsome,hT1,hT2,hT3,k1⟩:=h
 refine⟨_,(Ze (Zs (i:=4) sc_places_by.nd rfl (Or.inl rfl) (Zi ZaV (hr.mono nofun) rfl Zx (Za (pv 0) Zb)))
   (Ze (Zs (i:=5) sc_places_by.nd rfl (Or.inr rfl) (Zrm (Zow (Zll PySem.F.slot_tuple_index PySem.F.type_tuple_index (Zgf (K:=K) rfl) (pv 0) (Za (Zb2 ZaG Zf) Zb)) (pv 3) Zrl) rfl rfl (by simp) nofun))
   (Ze (ZaC (Zbj PassesOwn.never rfl (Zao (ZmI (K:=K) rfl (Zi Zas (hr.mono nofun) rfl Zx (Za (pv 0) Zb)) (Zb2 ZaG Zf))) (Zn (i:=6) sc_places_by.nd rfl (Or.inl rfl)) (Ze (ZcM (Zm Zr (pv 4) (pv 6) (λ_ _=>rfl)) (ZoD (K:=K) rfl (n:=2) rfl (ZV (Zn (i:=7) sc_places_by.nd rfl (Or.inl rfl)) (ZV (Zn (i:=8) sc_places_by.nd rfl (Or.inl rfl)) ZcL))))
   (Ze (ZN (Zj Zay (pv 7) ZP (Zl _)) (Zg (Zl7 (ZjZ hr) (pv 5) (pv 7) (Zi Zar (hr.mono nofun) rfl Zx (Za (pv 1) (Za (Zm Zr (pv 2) (pv 7) (λ_ _=>rfl)) (Za (Zjp (ZjZ hr) (pv 5) (pv 6) (λ_ _=>rfl)) Zb)))) rfl)) ZA)
   (Zg (ZN (Zj Zay (pv 8) ZP (Zl _)) (Zg (Zl7 (ZjZ hr) (pv 5) (pv 8) (Zi Zae (hr.mono nofun) rfl Zx (Za (pv 1) (Za (Zm Zr (pv 2) (pv 8) (λ_ _=>rfl)) (Za (Zjp (ZjZ hr) (pv 5) (pv 6) (λ_ _=>rfl)) Zb)))) rfl)) ZA))))))
   (Zg (Zu (Z2 ["v","chosen"] [none,some 5] rfl rfl rfl (ZJ rfl T.b_range (Za (Zk (Zp (K:=K) rfl) rfl T.b_len YC (Za (pv 0) Zb)) Zb)) (λ_ _ _ _ _=>(Zn (i:=0) (show(["v","chosen"]:List Str).Nodup from by decide +kernel) rfl (Or.inl rfl))) (λ_ _ _ _ _=>ZW) (λ_ _ _ _ _=>(Zjp (ZjZ hr) (pv 1) (pv 0) (λ_ _=>rfl))) Zt)))))),?_⟩
 have h40:=hG.1
 obtain⟨_,nsT,hT⟩:=id hG
 have eT:=hT.1
 have eL:(T'.map V.int).length=T'.length:=Yh ..
 have n0:0<nsT.length:=by
  refine Nat.pos_of_ne_zero λz=>?_
  have:tab=[]:=List.eq_nil_of_length_eq_zero (by have:=hTab.1;omega)
  rw[this]at hsome
  simp at hsome
 obtain⟨hm1,htl,ht2⟩:=top_idx hT n0
 walk_at "rd"
 refine⟨t,T',rfl,ht.sq,hG,λy H1 zy Y1 s1=>?_⟩
 intro d zd
 have g2:=(Zd.refl H1).upd (o:=.dK []) zd
 have r2:=Zc (H:=H1) (a:=d) (o:=.dK [])
 generalize e2:upd H1 d (.dK [])=H2 at g2 r2
 simp only[tPairs]
 walk_at "rd"
 refine⟨⟨_,ht.same (s1.trans g2)⟩,T',(ht.same (s1.trans g2)).sq,hm1,r2,[(keyI ((T'.idxOf (-1):Nat):Int),V.int (i:Int))],rfl,show 1<=15 by decide,?_⟩
 rw[<-e2,Zq1,show Zgd [] [(keyI ((T'.idxOf (-1):Nat):Int),V.int (i:Int))]=[(keyI ((T'.idxOf (-1):Nat):Int),V.int (i:Int))]from rfl]
 have g3:=(Zd.refl H1).upd (o:=.dK [(keyI ((T'.idxOf (-1):Nat):Int),V.int (i:Int))]) zd
 have r3:=Zc (H:=H1) (a:=d) (o:=.dK [(keyI ((T'.idxOf (-1):Nat):Int),V.int (i:Int))])
 generalize upd H1 d (.dK [(keyI ((T'.idxOf (-1):Nat):Int),V.int (i:Int))])=H3 at g3 r3⊢
 have s3:=s1.trans g3
 refine⟨t,T',rfl,(ht.same s3).sq,hG,Z4.same hT1 s3,λo ps H4 zo s4 hpm hpw ho=>⟨o,rfl,_,SqL.of ho,λq zq=>?_⟩⟩
 have gq:=(Zd.refl H4).upd (o:=.lst (ps.map V.int).reverse) zq
 have hq:=Zc (H:=H4) (a:=q) (o:=.lst (ps.map V.int).reverse)
 rw[<-List.map_reverse]at gq hq⊢
 have pm:ps.reverse.Perm (nats (T'.length:Int)):=(List.reverse_perm ps).trans hpm
 have pw:=List.pairwise_reverse.mpr hpw
 generalize ps.reverse=qs at gq hq pm pw⊢
 have r4:=s4 _ _ r3
 have nqd:q≠d:=λz=>by rw[z,r4]at zq;cases zq
 have r5:=gq _ _ r4
 have zd0:H d=none:=s1.free zd
 have s05:=(s3.trans s4).trans gq
 have s15:=(g3.trans s4).trans gq
 generalize upd H4 q (.lst (qs.map V.int))=H5 at gq hq r5 s05 s15⊢
 have nd:qs.Nodup:=pm.nodup_iff.mpr (nats_nodup _)
 have ql:qs.length=T'.length:=by have:=pm.length_eq;unfold nats at this;simpa using this
 obtain⟨ys,hys,hyl,hyp⟩:=Y1
 have nyd:y≠d:=λz=>by rw[z,zd]at hys;cases hys
 refine⟨⟨_,SqL.of hq⟩,?_⟩
 refine Zhh (xs:=qs.map V.int) (λk σ Hx=>∃(v6 v7 v8:Option V) (kvs:List (Key×V)) (f:Nat->Option Nat),σ=[some (.ref t),some (.ref x),some (.ref l),some (.int (i:Int)),some (.ref y),some (.ref d),v6,v7,v8]/\Hx d=some (.dK kvs)/\kvs.length<=2*k+1/\ChD kvs f/\ChS T' ts tab i (qs.take k) f/\Exc d H5 Hx) ⟨none,none,none,_,λu=>if T'.idxOf (-1)=u then some i else none,rfl,r5,by simp,λv=>?_,?_,(Zd.refl H5).ZcE⟩ (λk σ Hx _ ⟨_,_,_,_,_,_,_,_,_,_,e⟩=>SqL.of (e _ _ nqd hq)) ?_ ?_
 .by_cases z:T'.idxOf (-1)=v
  .subst z;rw[Zab rfl];simp
  .rw[Zac (λq=>z (by have:(((T'.idxOf (-1)):Nat):Int)=v:=Sum.inl.inj q;omega)),Zoq];simp[z]
 .refine⟨by simp,λv j z=>?_,λv z=>?_,λv z=>absurd z (by simp)⟩
  .dsimp only at z
   split at z
   .rename_i w;cases z;subst w
    exact⟨htl,hi,hsome⟩
   .cases z
  .by_cases w:T'.idxOf (-1)=v
   .exact .inl w.symm
   .dsimp only at z;rw[Yb w]at z;exact absurd rfl z
 .rintro k w σ Hx hw ⟨v6,v7,v8,kvs,f,rfl,hdx,hkl,hD,hS,ex⟩
  have hk:k<qs.length:=by have:=(Yr.mp hw).1;simpa using this
  rw[YG,Yf hk]at hw
  cases hw
  obtain⟨v,hvT,ev⟩:∃v:Nat,v<T'.length/\qs[k]=(v:Int):=by
   obtain⟨v,hv,e⟩:=YH.mp (pm.mem_iff.mp (YK hk))
   exact⟨v,by have:=Yq.mp hv;omega,e.symm⟩
  rw[ev]
  have hpk:qs[k]?=some (v:Int):=Yr.mpr ⟨hk,ev⟩
  have hv0:(v:Int)∉qs.take k:=λz=>by
   obtain⟨m,hm,em⟩:=List.mem_take_iff_getElem.mp z
   have:=(List.getElem_inj nd (h₀:= ⋯) (h₁:=hk)).mp (em.trans ev.symm)
   omega
  have htk:qs.take (k+1)=qs.take k++[(v:Int)]:=by rw[Je,hpk];rfl
  rw[htk]
  obtain⟨j,ej⟩:∃j,f v=some j:=by
   rcases ZaE hT (p:=v) ⋯with z|⟨u,z,hu,_⟩
   .have:v=T'.idxOf (-1):=top_only hT hvT htl z ht2
    exact⟨i,by rw[this];exact hS.1⟩
   .obtain⟨ju,_,h2⟩:=hS.2.2.2 u ((elder_first hT pm pw hvT ⋯ z).1 hpk)
    obtain⟨jc,g,_⟩:=h2 v hvT z
    exact⟨jc,g⟩
  have hj:=hS.2.1 v j ej
  obtain⟨a,ea⟩:∃a,ys[v]?=some a:=⟨_,Yf ⋯⟩
  obtain⟨ah,bh,hA,hB,ha⟩:=hyp v a ea
  have nad:a≠d:=λz=>by rw[z,zd]at ha;cases ha
  have hyx:=ex _ _ nyd (s15 _ _ hys)
  have hax:=ex _ _ nad (s15 _ _ ha)
  have s0x:Zd H Hx:=s05.exc zd0 ex
  have TBx:=TB.same s0x
  have hcl:∀c,c<T'.length->(tab.getD c []).length=ts.length:=λc h=>(hTab.2 c h).1
  obtain⟨a0,b0,hF,hL,hE⟩:RuledIs ts tab j ah bh ((tab.getD v []).getD j none):=by
   obtain⟨ah',bh',A',B',h⟩:=(hTab.2 v hvT).2 j hj.2.1
   rw[ahead_uniq hG hvT hA A',behind_uniq hG hB B'];exact h
  have hsm:=hj.2.2
  rw[hE]at hsm
  have getA:∀c r,ah=some c->BestA ts (tab.getD c []) j r->∃jc,r=some jc:=λc r z hr=>by
   subst z
   cases r with
   |some jc=>exact⟨jc,rfl⟩
   |none =>
    cases a0 with
    |none=>simp[bothPt]at hsm
    |some m=>obtain⟨⟨j',h,_⟩,_⟩:=hF;exact absurd h (hr j')
  have getB:∀c r,bh=some c->BestB ts (tab.getD c []) j r->∃jc,r=some jc:=λc r z hr=>by
   subst z
   cases r with
   |some jc=>exact⟨jc,rfl⟩
   |none =>
    cases b0 with
    |none=>cases a0<;>simp[bothPt]at hsm
    |some m=>obtain⟨⟨j',h,_⟩,_⟩:=hL;exact absurd h (hr j')
  have tail:∀(Hy:Hp) (kvs':List (Key×V)) (ja:Nat),Hy d=some (.dK kvs')->kvs'.length<=2*k+2->ChD kvs' (chN f ah none ja 0)->Exc d H5 Hy->(∀c,ah=some c->BestA ts (tab.getD c []) j (some ja)) ->
    if ¬ optN bh=V.non then ∃(x4:List V) (x5:Int),optN bh=V.int x5/\SqL K Hy l x4/\∃x6,atI x4 x5=some x6/\∃x7,Zhz Hy d (V.int (v:Int)) (some x7)/\sp_best_behind K mg [V.ref x,x6,x7] Hy (λv3 H1=>∃x8,Zlf H1 d (optN bh) v3 x8/\∃kv,x8 d=some (.dK kv)/\kv.length<=2*(k+1)+1/\∃f2,ChD kv f2/\ChS T' ts tab i (qs.take k++[(v:Int)]) f2/\Exc d H5 x8) E0
    else ∃kv,Hy d=some (.dK kv)/\kv.length<=2*(k+1)+1/\∃f2,ChD kv f2/\ChS T' ts tab i (qs.take k++[(v:Int)]) f2/\Exc d H5 Hy:=by
   intro Hy kvs' ja hdy hky hDy ey bA
   have ejy:chN f ah none ja 0 v=some j:=by
    unfold chN
    rw[Yb (by simp),Yb (λz=>by subst z;exact absurd hA.1 ⋯)]
    exact ej
   cases bh with
   |none=>exact Zy (λc0=>absurd rfl c0) λ_=>⟨kvs',hdy,⋯,_,hDy,hS.next hG ht2 hv0 hvT ej hA hB bA (λc z=>by cases z),ey⟩
   |some c =>
    have s0y:Zd H Hy:=s05.exc zd0 ey
    refine Zy (λ_=>chRow (TB.same s0y) (by rw[hTab.1];exact hB.2.1) hdy hDy ejy λp hp=>?_) λc0=>absurd (λz=>by cases z) c0
    refine⟨x,p,ts,_,j,rfl,s0y.q hx,hp,hcl c hB.2.1,h16,hj.2.1,Z4.same hT3 s0y,λr H6 s6 hr=>?_⟩
    obtain⟨jb,rfl⟩:=getB c r rfl hr
    refine⟨_,Zlf.k (k:=keyI (c:Int)) (s6 _ _ hdy) (YA (show _<=200 by omega) nofun),_,Zc,Yn (Zbi _ _ _) ⋯,_,?_,hS.next (jb:=jb) hG ht2 hv0 hvT ej hA hB bA (λc' z=>by cases z;exact hr),(ey.trans s6.ZcE).trans Exc.upd⟩
    have:=hDy.put c jb
    refine(show _=chN f ah (some c) ja jb from funext λu=>?_)▸this
    unfold chN
    by_cases z:c=u
    .subst z;simp
    .rw[Yb z,Yb (by simp),Yb (λq=>z (YF q))]
  walk_at "rd"
  refine⟨_,SqL.of hyx,V.ref a,Zb3 (by rw[YG,ea];rfl),a,rfl,_,SqL.of hax,rfl,_,_,rfl,_,_,rfl,rfl,?_⟩
  cases ah with
  |none=>exact Zy (λc0=>absurd rfl c0) λ_=>tail Hx kvs 0 hdx ⋯ hD ex (λc z=>by cases z)
  |some c =>
   refine Zy (λ_=>chRow TBx (by rw[hTab.1];exact hA.2.1) hdx hD ej λp hp=>?_) λc0=>absurd (λz=>by cases z) c0
   refine⟨x,p,ts,_,j,rfl,s0x.q hx,hp,hcl c hA.2.1,h16,hj.2.1,Z4.same hT2 s0x,λr H6 s6 hr=>?_⟩
   obtain⟨ja,rfl⟩:=getA c r rfl hr
   refine⟨_,Zlf.k (k:=keyI (c:Int)) (s6 _ _ hdx) (YA (show _<=200 by omega) nofun),tail _ _ ja Zc (Yn (Zbi _ _ _) ⋯) ?_ ((ex.trans s6.ZcE).trans Exc.upd) (λc' z=>by cases z;exact hr)⟩
   have:=hD.put c ja
   refine(show _=chN f (some c) none ja 0 from funext λu=>?_)▸this
   unfold chN
   by_cases z:c=u
   .subst z;simp
   .rw[Yb z,Yb (by simp),Yb (λq=>z (YF q))]
 .rintro σ Hx ⟨v6,v7,v8,kvs,f,rfl,hdx,hkl,hD,hS,ex⟩
  have sF:Zd H Hx:=s05.exc zd0 ex
  have hall:∀v,v<T'.length->∃j,f v=some j/\∀c,c<T'.length->nth T' c=(v:Int)->∃jc,f c=some jc/\(c<v->BestA ts (tab.getD c []) j (some jc))/\(v<c->BestB ts (tab.getD c []) j (some jc)):=λv hv=>hS.2.2.2 v (by
   rw[Yh,List.take_length]
   exact pm.mem_iff.mpr (YH.mpr ⟨v,Yq.mpr ⋯,rfl⟩))
  have hF:∀v j,f v=some j->(f v).getD 0=j:=λv j e=>by rw[e];rfl
  walk_at "rd"
  refine⟨_,.inr (ht.same sF).sq,⋯,⋯,?_⟩
  rw[eL,show((T'.length:Nat):Int).toNat=T'.length by omega]
  refine Zam (n:=T'.length) (λj acc Hz=>acc=(List.range j).map (λv=>V.int (((f v).getD 0:Nat):Int))/\Zd Hx Hz) (YA (show _<=1000 by omega) nofun) ⟨rfl,Zd.refl Hx⟩ (λj acc Hz _ hj=>hj) (λacc Hz _=>Ye _) ?_ ?_
  .rintro v u acc Hz Hw hv hla ⟨rfl,sz⟩ ⟨rfl,rfl⟩
   rw[show(0:Int)+(v:Int)=((v:Nat):Int) by omega]
   obtain⟨j,ej,_⟩:=hall v hv
   have g:Zhz Hw d (V.int (v:Int)) (some (V.int (j:Int))):=by
    have:=Zhz.k (k:=keyI (v:Int)) (sz _ _ hdx)
    rw[hD v,ej]at this;exact this
   walk_at "rd"
   refine⟨_,g,CA.take hv hla ⟨?_,sz⟩⟩
   rw[Y7,Jb,List.map_singleton,hF v j ej]
  .rintro r acc Hz ⟨rfl,sz⟩ _ zr
   have gr:=(Zd.refl Hz).upd (o:=.lst ((List.range T'.length).map λv=>V.int (((f v).getD 0:Nat):Int))) zr
   refine k1 r (λv=>(f v).getD 0) _ ((sF.trans sz).free zr) (hF _ _ hS.1) (λv hv=>?_) ((sF.trans sz).trans gr) Zc
   obtain⟨j,ej,hk⟩:=hall v hv
   have:=hS.2.1 v j ej
   dsimp only
   refine⟨by rw[hF v j ej];exact this.2.1,by rw[hF v j ej];exact this.2.2,λc hc e=>?_⟩
   obtain⟨jc,ec,h1,h2⟩:=hk c hc e
   rw[hF v j ej,hF c jc ec]
   exact⟨h1,h2⟩
theorem cut_at (ts:List Int) {a b:Nat} (h:a<=b) (hb:b<ts.length):ZbL (ts.map V.int) (some (a:Int)) (some ((b:Int)+1))=(Zf8 ts a (b+1-a)).map V.int:=by
 rw[show((b:Int)+1)=((b+1:Nat):Int) by omega]
 exact Zok ts ⋯ ⋯
theorem ok_places_in {f:Addr}{fd:FuncData} (F:Fun K "places_in" "places_in" s_places_in f fd) (ZbQ:Callee P w K mg base "need_stretch" 2 ["many","a","b"] (sp_need_stretch K mg)) (Zgj:Callee P w K mg base "tree_of" 2 ["row"] (sp_tree_of K mg)) (Zc1:Callee P w K mg base "need_loose" 2 ["row","text"] (sp_need_loose K mg)) (Ze4:Callee P w K mg base "table_by" 6 ["tree","text"] (sp_table_by K mg)) (Zd4:Callee P w K mg base "places_by" 6 ["tree","text","table","i"] (sp_places_by K mg)) (T:Txt K mg):FnOk P w K mg base (CXE P w) 7 f fd ["row","text","a","b"] (sp_places_in K mg):=by
 refine F.okX sc_places_in (λvs H Q E h=>?_) (λcdv A outer s H vs Q E hr h=>?_)
 .obtain⟨r,x,ns,ts,a,b,rfl,_⟩:=h;rfl
 obtain⟨r,x,ns,ts,a0,b0,rfl,hRT,⟨hT1,hT2,hT3⟩,k1,k3⟩:=h
 obtain⟨hr1,hx,h0,h6,h16⟩:=id hRT
 refine⟨_,(Ze (Z8 (Zi Zc1 (hr.mono nofun) rfl Zjc (Za (pv 0) (Za (pv 1) Zb))))
   (Ze (Z8 (Zi ZbQ (hr.mono nofun) rfl Zjc (Za (Zk (Zp (K:=K) rfl) rfl T.b_len YC (Za (pv 1) Zb)) (Za (pv 2) (Za (pv 3) Zb)))))
   (Ze (Zs (i:=4) sc_places_in.nd rfl (Or.inl rfl) (Zi Zgj (hr.mono nofun) rfl Zx (Za (pv 0) Zb)))
   (Ze (Zs (i:=5) sc_places_in.nd rfl (Or.inl rfl) (Zfi (sl_q (K:=K) rfl) (pv 1) (Zfh (pv 2)) (Zfh (Zv Zav (pv 3) Zf))))
   (Ze (Zs (i:=6) sc_places_in.nd rfl (Or.inl rfl) (Zi Ze4 (hr.mono nofun) rfl Zx (Za (pv 4) (Za (pv 5) Zb))))
   (Ze (ZaC (Zbj PassesOwn.never rfl (Zre (K:=K) rfl rfl T.b_enumerate (Za (Zm Zr (pv 6) (Zll PySem.F.slot_tuple_index PySem.F.type_tuple_index (Zgf (K:=K) rfl) (pv 4) (Za (Zb2 ZaG Zf) Zb)) (λ_ _=>rfl)) Zb)) (Zhf (n:=2) rfl (ZV (Zn (i:=7) sc_places_in.nd rfl (Or.inl rfl)) (ZV (Zn (i:=8) sc_places_in.nd rfl (Or.inl rfl)) ZcL))) (Zg (ZN (Zj Zay (pv 8) ZP (Zl _)) (Zg (Zu (ZaD (Zf2 (K:=K) rfl) rfl T.b_tuple ZdW (Za (Z2 ["place","a"] [none,some 2] rfl rfl rfl (Zao (Zi Zd4 (hr.mono nofun) rfl Zx (Za (pv 4) (Za (pv 5) (Za (pv 6) (Za (pv 7) Zb)))))) (λ_ _ _ _ _=>(Zn (i:=0) (show(["place","a"]:List Str).Nodup from by decide +kernel) rfl (Or.inl rfl))) (λ_ _ _ _ _=>ZW) (λ_ _ _ _ _=>(Zv Zav (pv 1) (pv 0))) Zt) Zb)))) ZA))))
   (Zg (Zu ZP)))))))),?_⟩
 have eX:(ts.map V.int).length=ts.length:=Yh ..
 refine Zaj (fun σ Hx=>σ=[some (.ref r),some (.ref x),some (.int a0),some (.int b0),none,none,none,none,none]/\Hx=H) (λR hR=>?_) ?_
 .walk_at "rd"
  exact⟨r,x,ns,ts,rfl,hr1,hx,h0,h6,h16,hR _ _ ⟨rfl,rfl⟩⟩
 rintro σ Hx ⟨rfl,rfl⟩
 refine Zaj (fun σ H'=>σ=[some (.ref r),some (.ref x),some (.int a0),some (.int b0),none,none,none,none,none]/\H'=Hx/\StrIn ts.length a0 b0) (λR hR=>?_) ?_
 .walk_at "rd"
  refine⟨_,hx,⟨_,a0,b0,by rw[eX],⋯,⋯,λhst=>hR _ _ ⟨rfl,rfl,hst⟩,λhst=>k3 hst⟩⟩
 rintro σ H ⟨rfl,rfl,hst⟩
 replace k1:=k1 hst
 clear k3
 obtain⟨q1,q2,q3⟩:=hst
 obtain⟨a,rfl⟩:=Y8 q1
 obtain⟨b,rfl⟩:=Y8 (show 0<=b0 by omega)
 refine Zaj (fun σ Hx=>∃(t:Addr) (T':List Int),σ=[some (.ref r),some (.ref x),some (.int (a:Int)),some (.int (b:Int)),some (.ref t),none,none,none,none]/\Zq ns T'/\Zd H Hx/\ZhF Hx t (T'.map V.int)) (λR hR=>?_) ?_
 .walk_at "rd"
  exact⟨r,ns,rfl,hr1,⋯,λt T' H1 hT s1 ht=>hR _ _ ⟨t,T',rfl,hT,s1,ht⟩⟩
 rintro σ H1 ⟨t,T',rfl,hT,s1,ht⟩
 have eT:=hT.1
 have hG:Zbh T':=⟨⋯,ns,hT⟩
 have lw:(Zf8 ts a (b+1-a)).length=b+1-a:=Zof ⋯
 have ew:∀j,j<(Zf8 ts a (b+1-a)).length->nth (Zf8 ts a (b+1-a)) j=nth ts (a+j):=λj hj=>Zog ⋯
 refine Zaj (fun σ Hx=>∃(p:Addr),σ=[some (.ref r),some (.ref x),some (.int (a:Int)),some (.int (b:Int)),some (.ref t),some (.ref p),none,none,none]/\(SqL K Hx p ((Zf8 ts a (b+1-a)).map V.int)\/SqT K Hx p ((Zf8 ts a (b+1-a)).map V.int))/\Zd H1 Hx) (λR hR=>?_) ?_
 .have ec:=cut_at ts (a:=a) (b:=b) ⋯ ⋯
  walk_at "rd"
  refine⟨_,(s1.q hx).elim (λhx1=>.inl ⟨hx1,λp zp=>hR _ _ ⟨p,rfl,.inl (SqL.of (by rw[Zc,ec])),(Zd.refl H1).upd zp⟩⟩) λhx1=>.inr ⟨hx1,λhw=>hR _ _ ⟨x,rfl,.inr (by rw[<-ec,show ZbL (ts.map V.int) (some (a:Int)) (some ((b:Int)+1))=ts.map V.int by unfold ZbL;rw[hw.1,hw.2];simp;exact List.take_of_length_le (by simp)];exact hx1),Zd.refl _⟩,λ_ p zp=>hR _ _ ⟨p,rfl,.inr (SqT.of (by rw[Zc,ec])),(Zd.refl H1).upd zp⟩⟩⟩
 generalize Zf8 ts a (b+1-a)=ws at lw ew
 rintro σ H2 ⟨p,rfl,hw,s2⟩
 have hw16:ws.length<=16:= ⋯
 have ht2:=ht.same s2
 have s02:=s1.trans s2
 walk_at "rd"
 refine⟨t,p,T',ws,rfl,ht2.sq,hw,hG,hw16,Z4.same hT1 s02,Z4.same hT2 s02,Z4.same hT3 s02,λl tab H3 zl TB FB hTab s3=>?_⟩
 have ht3:=ht2.same s3
 obtain⟨hm1,htl,hte⟩:=top_idx hT h0
 obtain⟨xs,q,vals,hl,hxa,hq,hvl,hvp⟩:=tbl_row TB (i:=T'.idxOf (-1)) (by rw[hTab.1];exact htl)
 have hpl:=(hTab.2 _ htl).1
 obtain⟨_,hen⟩:=top_entry hT h0 hG hTab
 have hsp:=top_span hT ⋯ hte
 refine⟨⟨_,ht3⟩,T',ht3.sq,hm1,l,rfl,xs,SqL.of hl,V.ref q,Zb3 hxa,q,rfl,_,SqL.of hq,?_⟩
 refine Zhu (n:=vals.length) (λj σ Hx=>∃v7 v8:Option V,σ=[some (.ref r),some (.ref x),some (.int (a:Int)),some (.int (b:Int)),some (.ref t),some (.ref p),some (.ref l),v7,v8]/\Zd H3 Hx/\∀i,i<j->(tab.getD (T'.idxOf (-1)) []).getD i none=none) ⟨none,none,rfl,Zd.refl H3,λi hi=>absurd hi (Nat.not_lt_zero _)⟩ (λj σ Hx hj ⟨_,_,_,e,_⟩=>⟨_,_,SqL.of (e _ _ hq),Yf hj⟩) (fun σ Hx ⟨_,_,_,e,_⟩=>⟨_,SqL.of (e _ _ hq),rfl⟩) ?_ ?_
 .rintro j y σ Hx Hw hj ⟨v7,v8,rfl,sx,hno⟩ ⟨u,w,zu,rfl,rfl,hy⟩
  have ey:=hy _ (SqL.of (sx _ _ hq))
  rw[Yf hj]at ey
  cases ey
  have hp:=hvp j vals[j] ((tab.getD (T'.idxOf (-1)) [])[j]'⋯) (Yf hj) (Yf ⋯)
  have egp:(tab.getD (T'.idxOf (-1)) []).getD j none=(tab.getD (T'.idxOf (-1)) [])[j]'⋯:=by rw[Yg,Yf ⋯];rfl
  generalize vals[j]=y at hp⊢
  generalize (tab.getD (T'.idxOf (-1)) [])[j]'⋯=pt at hp egp
  walk_at "rd"
  have gp:=(Zd.refl Hx).upd (o:=.tup [V.int (j:Int),y]) zu
  have hu:=Zc (H:=Hx) (a:=u) (o:=.tup [V.int (j:Int),y])
  generalize upd Hx u (.tup [V.int (j:Int),y])=H4 at gp hu⊢
  have s4:=s3.trans (sx.trans gp)
  refine⟨_,SqT.of hu,rfl,_,_,rfl,_,_,rfl,rfl,Zy (λc0=>?_) λc0=>⟨sx.trans gp,λi hi=>?_⟩⟩
  .cases pt with
   |none=>exact absurd hp c0
   |some e =>
    have sx4:=sx.trans gp
    have s04:=s02.trans s4
    refine⟨t,p,l,T',ws,tab,j,rfl,ht3.same sx4,s4.q hw,TB.same sx4,hG,hTab,hw16,⋯,by rw[egp];rfl,Z4.same hT1 s04,Z4.same hT2 s04,Z4.same hT3 s04,λr2 f H5 zr2 _ hst s5 hr2=>⟨r2,rfl,⟨_,SqL.of hr2⟩,?_⟩⟩
    have hh:=(stands_hold hT hTab hst _ _ _ _ (Ye _) hsp).1
    have hi:HIn ns ts (a:Int) (b:Int) λo=>a+f o:=by
     have:=hh.2.1 (ns.length-1) (Yo _) (Ye _)
     exact⟨hh.up ew ⋯,by dsimp only;omega,by dsimp only;omega⟩
    refine comp_map (n:=T'.length) (λv=>V.int ((a:Int)+(f v:Int))) (YA (show _<=1000 by omega) nofun) (λv Hz s hv=>⟨_,_,SqL.of (s _ _ hr2),Yf (by simpa using hv)⟩) (λHz s=>⟨_,SqL.of (s _ _ hr2),by simp⟩) ?_ ?_
    .rintro v y2 Hz Hw2 hv s ⟨rfl,hy2⟩
     have:=hy2 _ (SqL.of (s _ _ hr2))
     rw[YG,List.getElem?_range hv]at this
     cases this
     walk_at "rd"
     exact CW.next hv rfl s
    .intro lz Hz sz zlz
     have em:(List.range T'.length).map (λv=>V.int ((a:Int)+(f v:Int)))=(plL ns.length λo=>a+f o).map V.int:=by
      unfold plL
      rw[YZ,eT]
      exact List.map_congr_left λv _=>by simp
     exact⟨lz,rfl,_,.inl ⟨SqL.of Zc,λc zc=>k1 (.ref c) _ (((s04.trans s5).trans sz).trans (((Zd.refl Hz).upd zlz).trans ((Zd.refl _).upd zc))) (.inr ⟨c,_,rfl,by rw[Zc,em],hi⟩)⟩⟩
  .by_cases z:i=j
   .rw[z,egp]
    cases pt with
    |none=>rfl
    |some e=>obtain⟨c,rfl,_⟩:=hp;exact absurd (λy=>nomatch y) c0
   .exact hno i ⋯
 .rintro σ Hx ⟨v7,v8,rfl,sx,hno⟩
  walk_at "rd"
  refine k1 .non _ (s02.trans (s3.trans sx)) (.inl ⟨rfl,λg hg=>?_⟩)
  obtain⟨g1,g2,g3⟩:=hg
  have hd:Hold (nth ns) ws 0 (ns.length-1) λo=>g o-a:=g1.down ew λo _ o2=>by
   have:=g1.le (Yo _) (Yo o) o2
   have:=g1.le (Yo _) o2 (Ye _)
   omega
  have hv:=hd.2.1 (T'.idxOf (-1)) (Yo _) ⋯
  have:=hen _ hv
  rw[hno _ ⋯]at this
  exact this _ hd rfl
noncomputable def bl10 (j:Nat):List V:=(List.range 10).map λk=>V.bl (decide (k=j))
theorem bl10_one {j:Nat} (hj:j<10):((bl10 j).countP λz=>decide (z=V.bl true))=1:=by
 unfold bl10
 match j,hj with
 |0,_|1,_|2,_|3,_|4,_|5,_|6,_|7,_|8,_|9,_=>rfl
theorem bl10_all {j:Nat}:∀z∈bl10 j,∃b,z=V.bl b:=λz hz=>by
 obtain⟨k,_,rfl⟩:=YH.mp hz
 exact⟨_,rfl⟩
theorem bl10_at {i j:Nat} (hi:i<10):atI (bl10 j) (i:Int)=some (V.bl (decide (i=j))):=by
 unfold bl10
 match i,hi with
 |0,_|1,_|2,_|3,_|4,_|5,_|6,_|7,_|8,_|9,_=>rfl
theorem ok__law_alone {f:Addr}{fd:FuncData} (F:Fun K "_law_alone" "_law_alone" s__law_alone f fd) (T:Txt K mg):FnOk P w K mg base (CXE P w) 1 f fd ["e","place"] (sp__law_alone K mg):=by
 refine F.okX sc__law_alone (λvs H Q E h=>?_) (λcdv A outer s H vs Q E hr h=>?_)
 .obtain⟨e,C,i,j,rfl,_⟩:=h;rfl
 obtain⟨e,C,i,j,rfl,hi,hj,he,Z,k1⟩:=h
 refine⟨_,(Ze (Zs (i:=2) sc__law_alone.nd rfl (Or.inl rfl) (ZQ (Za (Zk (ZM (K:=K) rfl) rfl T.b_isinstance Zw (Za (pv 0) (Za (Z7 (v:=.ref (clsAt mg "Unlike")) rfl T.c_Unlike rfl) Zb))) (Za (Zk (ZM (K:=K) rfl) rfl T.b_isinstance Zw (Za (pv 0) (Za (Z7 (v:=.ref (clsAt mg "Empty")) rfl T.c_Empty rfl) Zb))) (Za (Zk (ZM (K:=K) rfl) rfl T.b_isinstance Zw (Za (pv 0) (Za (Z7 (v:=.ref (clsAt mg "TooMany")) rfl T.c_TooMany rfl) Zb))) (Za (Zk (ZM (K:=K) rfl) rfl T.b_isinstance Zw (Za (pv 0) (Za (Z7 (v:=.ref (clsAt mg "NoTree")) rfl T.c_NoTree rfl) Zb))) (Za (Zk (ZM (K:=K) rfl) rfl T.b_isinstance Zw (Za (pv 0) (Za (Z7 (v:=.ref (clsAt mg "NoTelling")) rfl T.c_NoTelling rfl) Zb))) (Za (Zk (ZM (K:=K) rfl) rfl T.b_isinstance Zw (Za (pv 0) (Za (Z7 (v:=.ref (clsAt mg "NoPlace")) rfl T.c_NoPlace rfl) Zb))) (Za (Zk (ZM (K:=K) rfl) rfl T.b_isinstance Zw (Za (pv 0) (Za (Z7 (v:=.ref (clsAt mg "NoNumber")) rfl T.c_NoNumber rfl) Zb))) (Za (Zk (ZM (K:=K) rfl) rfl T.b_isinstance Zw (Za (pv 0) (Za (Z7 (v:=.ref (clsAt mg "NoPast")) rfl T.c_NoPast rfl) Zb))) (Za (Zk (ZM (K:=K) rfl) rfl T.b_isinstance Zw (Za (pv 0) (Za (Z7 (v:=.ref (clsAt mg "NoText")) rfl T.c_NoText rfl) Zb))) (Za (Zk (ZM (K:=K) rfl) rfl T.b_isinstance Zw (Za (pv 0) (Za (Z7 (v:=.ref (clsAt mg "NoLine")) rfl T.c_NoLine rfl) Zb))) Zb))))))))))))
   (Ze (ZN (PW.pt (ZdN (ZfY (ZeW (Zk (ZM (K:=K) rfl) rfl T.b_isinstance Zw (Za (pv 0) (Za (Z7 (v:=.ref (clsAt mg "DipError")) rfl T.c_DipError rfl) Zb))))) (ZdM (ZfY (ZeW (Zk (ZM (K:=K) rfl) rfl T.b_isinstance Zw (Za (pv 0) (Za (Zg3 (v:=.ty "ValueError") rfl T.b_ValueError Zia rfl) Zb)))))))) (Zg (Zu ZeM)) ZA)
   (Zg (Zu (ZkM (ZeB ZdU (Zb4 PySem.F.plainAttrs_list PySem.F.slot_list_count PySem.F.type_list_count Zn2 (pv 2) (Za ZeM Zb)) Zf (Zl _)) (ZkL (Zm Zr (pv 2) (pv 1) (λ_ _=>rfl)))))))),?_⟩
 refine Zaj (fun σ Hx=>∃p,σ=[some (.ref e),some (.int (i:Int)),some (.ref p)]/\Hx p=some (.lst (bl10 j))/\Zd H Hx) (λR hR=>?_) ?_
 .walk_at "rd"
  exact⟨_,tyE he Z.z Z.k0,_,tyE he Z.z Z.k1,_,tyE he Z.z Z.k2,_,tyE he Z.z Z.k3,_,tyE he Z.z Z.k4,_,tyE he Z.z Z.k5,_,tyE he Z.z Z.k6,_,tyE he Z.z Z.k7,_,tyE he Z.z Z.k8,_,tyE he Z.z Z.k9,by decide,λp hp=>hR _ _ ⟨p,rfl,Zc,(Zd.refl H).upd hp⟩⟩
 rintro σ H1 ⟨p,rfl,hp,s1⟩
 replace he:=s1 _ _ he
 refine Zaj (fun σ Hx=>σ=[some (.ref e),some (.int (i:Int)),some (.ref p)]/\Hx=H1) (λR hR=>?_) ?_
 .walk_at "rd"
  refine⟨_,tyE he Z.z Z.kd,?_⟩
  walk_at "rd"
  refine⟨_,tyE he Z.z Z.kv,?_⟩
  walk_at "rd"
  exact hR _ _ ⟨rfl,rfl⟩
 rintro σ H2 ⟨rfl,rfl⟩
 walk_at "rd"
 refine⟨ZX hp,_,hp,⟨_,rfl⟩,bl10_all,?_⟩
 rw[bl10_one hj]
 exact Zy (λ_=>⟨_,SqL.of hp,_,bl10_at hi,k1 _ s1⟩) λz=>absurd rfl z
theorem ok__law_asked {f:Addr}{fd:FuncData} (F:Fun K "_law_asked" "_law_asked" s__law_asked f fd) (Zd5:Callee P w K mg base "places_in" 7 ["row","text","a","b"] (sp_places_in K mg)) (T:Txt K mg):FnOk P w K mg base (CXE P w) 8 f fd ["row","text","a","b"] (sp__law_asked K mg):=by
 refine F.okX sc__law_asked (λvs H Q E h=>?_) (λcdv A outer s H vs Q E hr h=>?_)
 .obtain⟨r,x,ns,ts,a,b,rfl,_⟩:=h;rfl
 obtain⟨r,x,ns,ts,a,b,rfl,hRT,hT,k1,kP⟩:=h
 refine⟨_,(Ze (Zs (i:=4) sc__law_asked.nd rfl (Or.inl rfl) ZP)
   (Ze (ps_try (j:=5) ⟨rfl,rfl⟩ sc__law_asked.nd rfl rfl rfl T.c_DipError T.x_DipError (λEc pl=>(Zg (Zs (i:=4) sc__law_asked.nd rfl (Or.inl rfl) (ZmH Zd5 (hr.mono nofun) rfl passT (Za (pv 0) (Za (pv 1) (Za (pv 2) (Za (pv 3) Zb)))))))) (λA'=>(Zg (Zs (i:=4) sc__law_asked.nd rfl (Or.inl rfl) (pv 5)))))
   (Zg (Zu (pv 4))))),?_⟩
 walk_at "rd"
 refine⟨fun σ1 C _ H1=>σ1=[some (.ref r),some (.ref x),some (.int a),some (.int b),some .non,none]/\C=.ref (clsAt mg "NoPlace")/\¬ StrIn ts.length a b/\H1=H,?_,?_⟩
 .walk_at "rd"
  exact⟨r,x,ns,ts,a,b,rfl,hRT,hT,λhst v H1 s1 hv=>k1 hst v H1 s1 hv,λhn=>⟨rfl,hn,rfl⟩⟩
 .rintro σ1 C H1 ⟨rfl,rfl,hn,rfl⟩
  refine⟨_,rfl,T.up_NoPlace,λe he=>?_⟩
  walk_at "rd"
  exact kP hn e _ ((Zd.refl _).upd he) Zc
theorem tv_app {H:Hp}{acc bcc:List V}{rs qs:List (List Int)} (h:ZT H acc rs) (k:ZT H bcc qs):ZT H (acc++bcc) (rs++qs):=by
 obtain⟨as,rfl,l1,k1⟩:=h
 obtain⟨bs,rfl,l2,k2⟩:=k
 refine⟨as++bs,by rw[Jb],by simp[l1,l2],λi h1 h2=>?_⟩
 by_cases c:i<as.length
 .rw[Jd c,Jd ⋯]
  exact k1 i c ⋯
 .rw[Jj ⋯,Jj ⋯]
  simp at h1 h2
  have:=k2 (i-as.length) ⋯ ⋯
  simp only[l1]at this⊢
  exact this
theorem ta_v {H:Hp}{a:Addr}{rs:List (List Int)} (h:TupsAt H a rs):∃xs,H a=some (.lst xs)/\ZT H xs rs:=by
 obtain⟨as,h1,h2,h3⟩:=h
 exact⟨_,h1,as,rfl,h2,h3⟩
theorem tv_two {H:Hp}{acc:List V}{rs:List (List Int)}{c:Addr}{a b:Int} (h:ZT H acc rs) (z:H c=none):ZT (upd H c (.tup [V.int a,V.int b])) (acc++[V.ref c]) (rs++[[a,b]])/\Zd H (upd H c (.tup [V.int a,V.int b])) :=
 ⟨(h.same ((Zd.refl H).upd z)).snoc (r:=[a,b]) Zc,(Zd.refl H).upd z⟩
theorem tv_two0 {H:Hp}{c:Addr}{a b:Int} (z:H c=none):ZT (upd H c (.tup [V.int a,V.int b])) [V.ref c] [[a,b]]:=(tv_two ZT.nil z).1
theorem tv_exc {H H':Hp}{acc:List V}{rs:List (List Int)}{p:Addr} (h:ZT H acc rs) (P:ZK H p) (e:Exc p H H'):ZT H' acc rs:=by
 obtain⟨as,rfl,h1,h2⟩:=h
 refine⟨as,rfl,h1,λi i1 i2=>e _ _ (λz=>?_) (h2 i i1 i2)⟩
 obtain⟨g,eg,_⟩:=P
 have:=h2 i i1 i2
 rw[z,eg]at this;cases this
theorem rise_uniq {xs ys:List Int} (h1:xs.Pairwise (· < ·)) (h2:ys.Pairwise (· < ·)) (h:∀z,z∈xs↔z∈ys):xs=ys :=
 Zke ((List.perm_ext_iff_of_nodup (h1.imp λh e=>⋯) (h2.imp λh e=>⋯)).mpr h) (h1.imp λh=>Int.le_of_lt h) (h2.imp λh=>Int.le_of_lt h)
theorem ints_get {vs:List Int}{i:Nat} (h:i<vs.length):(vs.map V.int)[i]?=some (V.int (nth vs i)):=by
 unfold nth
 rw[YG,Yf h,Yg,Yf h];rfl
theorem ints_last {vs:List Int} (h:0<vs.length):atI (vs.map V.int) (-1)=some (V.int (nth vs (vs.length-1))):=by
 rcases List.eq_nil_or_concat vs with rfl|⟨q,x,rfl⟩
 .exact absurd h (by simp)
 .rw[List.concat_eq_append,ZmS q x]
  congr 2
  unfold nth
  simp
theorem ok__law_holds_so {f:Addr}{fd:FuncData} (F:Fun K "_law_holds_so" "_law_holds_so" s__law_holds_so f fd) (Zc2:Callee P w K mg base "_law_whole" 1 ["thing"] (sp__law_whole K mg)) (ZR:Callee P w K mg base "_law_tree" 2 ["row"] (sp__law_tree K mg)) (T:Txt K mg):FnOk P w K mg base (CXE P w) 3 f fd ["row","text","a","b","told"] (sp__law_holds_so K mg):=by
 refine F.okX sc__law_holds_so (λvs H Q E h=>?_) (λcdv A outer s H vs Q E hr h=>?_)
 .obtain⟨r,x,c,ns,ts,a,b,g,rfl,_⟩:=h;rfl
 obtain⟨r,x,c,ns,ts,a,b,g,rfl,hRT,hc,hH,k1⟩:=h
 obtain⟨hr1,hx,h0,h6,h16⟩:=id hRT
 refine⟨_,(Ze (ZN (PW.pt (ZdN (ZfY (ZeW (Zk (ZM (K:=K) rfl) rfl T.b_isinstance Zw (Za (pv 4) (Za (Zg3 (v:=.ty "tuple") rfl T.b_tuple ZdW rfl) Zb))))) (ZdN (Zj op_ne (Zk (Zp (K:=K) rfl) rfl T.b_len YC (Za (pv 4) Zb)) (Zk (Zp (K:=K) rfl) rfl T.b_len YC (Za (pv 0) Zb)) (Zl _)) (ZdM (ZfY (ZeW (Zk (Zn8 (K:=K) rfl rfl) rfl T.b_all bt_all (Za (Z2 ["place"] [none] rfl rfl rfl (ZiZ (pv 4)) (λ_ _ _ _ _=>(Zn (i:=0) (show(["place"]:List Str).Nodup from by decide +kernel) rfl (Or.inl rfl))) (λ_ _ _ _ _=>ZW) (λ_ _ _ _ _=>(Zi Zc2 (hr.mono nofun) rfl Zx (Za (pv 0) Zb))) Zt) Zb)))))))) (Zg (Zu ZeM)) ZA)
   (Ze (ZN (PW.pt (ZdN (Zj (ZkZ (K:=K) rfl hr) (ZaD (ZcS (K:=K) rfl) rfl T.b_list Zg6 (Za (pv 4) Zb)) (Zlq (K:=K) rfl rfl rfl T.b_sorted rfl T.b_set (pv 4)) (Zl _)) (ZdN (Zj ZcB (Zm ZI (pv 4) Zf (λ_ _=>rfl)) (pv 2) (Zl _)) (ZdM (Zj ZcC (Zm ZI (pv 4) (Zb2 ZaG Zf) (λ_ _=>rfl)) (pv 3) (Zl _)))))) (Zg (Zu ZeM)) ZA)
   (Zg (Zu (ZeB (Zhm (K:=K) rfl hr) (Zi ZR (hr.mono nofun) rfl Zx (Za (Z2 ["place","text"] [none,some 1] rfl rfl rfl (ZiZ (pv 4)) (λ_ _ _ _ _=>(Zn (i:=0) (show(["place","text"]:List Str).Nodup from by decide +kernel) rfl (Or.inl rfl))) (λ_ _ _ _ _=>ZW) (λ_ _ _ _ _=>(Zm (ZeZ (K:=K) rfl) (pv 1) (pv 0) (λ_ _=>rfl))) Zt) Zb)) (Zi ZR (hr.mono nofun) rfl Zx (Za (pv 0) Zb)) (Zl _)))))),?_⟩
 have eC:((plL ns.length g).map V.int).length=ns.length:=by rw[Yh,plL_len]
 have eR:(ns.map V.int).length=ns.length:=Yh ..
 obtain⟨q1,q2,W,q3,q4⟩:=hold_pl h0 hH.1
 refine Zaj (fun σ Hx=>σ=[some (.ref r),some (.ref x),some (.int a),some (.int b),some (.ref c)]/\Zd H Hx) (λR hR=>?_) ?_
 .walk_at "rd"
  refine⟨true,.inl ⟨_,.tup hc,by with_unfolding_all rfl⟩,Zy (λz=>nomatch z) λ_=>⟨_,.inr (SqT.of hc),_,hr1,Zy (λz=>absurd (by rw[eC,eR]) z) λ_=>⟨⟨_,SqT.of hc⟩,?_⟩⟩⟩
  refine comp_map (n:=ns.length) (λ_=>V.bl true) (YA (show _<=1000 by omega) nofun) (λv Hz s hv=>⟨_,_,SqT.of (s _ _ hc),ints_get (by rw[plL_len];exact hv)⟩) (λHz s=>⟨_,SqT.of (s _ _ hc),by rw[eC];exact Ye _⟩) ?_ ?_
  .rintro v y Hz Hw hv s ⟨rfl,hy⟩
   have:=hy _ (SqT.of (s _ _ hc))
   rw[ints_get (by rw[plL_len];exact hv)]at this
   cases this
   walk_at "rd"
   exact⟨_,rfl,CW.next hv rfl s⟩
  .intro lz Hz sz zlz
   exact⟨lz,rfl,List.replicate ns.length true,SqL.of (by rw[Zc,List.map_replicate,List.map_const',YX]),Zy (λz=>absurd z (by simp)) λ_=>hR _ _ ⟨rfl,sz.Zai zlz⟩⟩
 rintro σ H1 ⟨rfl,s1⟩
 replace hc:=s1 _ _ hc
 refine Zaj (fun σ Hx=>σ=[some (.ref r),some (.ref x),some (.int a),some (.int b),some (.ref c)]/\Hx c=some (.tup ((plL ns.length g).map V.int))/\Zd H Hx) (λR hR=>?_) ?_
 .walk_at "rd"
  refine⟨_,.inr (SqT.of hc),λl zl=>⟨plL ns.length g,.inr (SqT.of (((Zd.refl H1).upd zl) _ _ hc)),by rw[plL_len];omega,λzs l1 hz hpw zl1=>?_⟩⟩
  have ez:=rise_uniq hpw q1 hz
  subst ez
  have sA:=((Zd.refl H1).upd (o:=.lst ((plL ns.length g).map V.int)) zl).Zai (o:=.lst ((plL ns.length g).map V.int)) zl1
  have hl:=((Zd.refl _).upd (o:=.lst ((plL ns.length g).map V.int)) zl1) _ _ (Zc (H:=H1) (a:=l) (o:=.lst ((plL ns.length g).map V.int)))
  have hl1:=Zc (H:=upd H1 l (.lst ((plL ns.length g).map V.int))) (a:=l1) (o:=.lst ((plL ns.length g).map V.int))
  generalize upd (upd H1 l (.lst ((plL ns.length g).map V.int))) l1 (.lst ((plL ns.length g).map V.int))=H2 at sA hl hl1⊢
  have e0:atI ((plL ns.length g).map V.int) 0=some (V.int (g 0:Int)):=by
   have:=Zb3 (xs:=(plL ns.length g).map V.int) (j:=0) (ints_get (by rw[plL_len];exact h0))
   rw[plL_nth h0]at this;exact this
  have e1:atI ((plL ns.length g).map V.int) (-1)=some (V.int (g (ns.length-1):Int)):=by
   have:=ints_last (vs:=plL ns.length g) (by rw[plL_len];exact h0)
   rw[plL_len,plL_nth ⋯]at this;exact this
  obtain⟨_,b1,b2⟩:=hH
  exact⟨_,Zg7 (n:=2) (K:=K) ZeF _ _ _ _ (Zbf (SqL.of hl)) (Zbf (SqL.of hl1)),Zy (λz=>absurd z (by simp)) λ_=>⟨_,SqT.of (sA _ _ hc),_,e0,_,rfl,Zy (λz=>absurd z ⋯) λ_=>⟨_,SqT.of (sA _ _ hc),_,e1,_,rfl,Zy (λz=>absurd z ⋯) λ_=>hR _ _ ⟨rfl,sA _ _ hc,s1.trans sA⟩⟩⟩⟩
 rintro σ H2 ⟨rfl,hc2,s2⟩
 walk_at "rd"
 refine⟨⟨_,SqT.of hc2⟩,?_⟩
 refine comp_map (n:=ns.length) (λv=>V.int (nth ts (nth (plL ns.length g) v).toNat)) (YA (show _<=1000 by omega) nofun) (λv Hz s hv=>⟨_,_,SqT.of (s _ _ hc2),ints_get (by rw[plL_len];exact hv)⟩) (λHz s=>⟨_,SqT.of (s _ _ hc2),by rw[eC];exact Ye _⟩) ?_ ?_
 .rintro v y Hz Hw hv s ⟨rfl,hy⟩
  have:=hy _ (SqT.of (s _ _ hc2))
  rw[ints_get (by rw[plL_len];exact hv)]at this
  cases this
  have hb:=q2 (nth (plL ns.length g) v) (nth_mem (by rw[plL_len];exact hv))
  walk_at "rd"
  refine⟨_,(s2.trans s).q hx,_,?_,CW.next hv rfl s⟩
  have:=Zb3 (xs:=ts.map V.int) (j:=(nth (plL ns.length g) v).toNat) (ints_get ⋯)
  rw[show(((nth (plL ns.length g) v).toNat:Nat):Int)=nth (plL ns.length g) v by omega]at this
  exact this
 .intro lz Hz sz zlz
  have em:(List.range ns.length).map (λv=>V.int (nth ts (nth (plL ns.length g) v).toNat))=(atL ts (plL ns.length g)).map V.int:=by
   unfold atL
   rw[YZ]
   refine List.ext_getElem (by simp[plL_len]) λi i1 i2=>?_
   have hi:i<(plL ns.length g).length:=by simpa using i2
   simp[nth,Yg,hi]
  have g1:=(Zd.refl Hz).upd (o:=.lst ((atL ts (plL ns.length g)).map V.int)) zlz
  rw[em]
  refine⟨lz,_,rfl,.inl (SqL.of Zc),by simp[atL,plL_len];omega,.inl λt es H3 hT3 s3 ht=>⟨r,ns,rfl,((s2.trans sz).trans (g1.trans s3)).q hr1,⋯,.inl λt2 es2 H4 hT4 s4 ht2=>⟨t,rfl,t2,rfl,_,ZlY (n:=2) (K:=K) ZeF _ _ _ _ (Zfl (SqT.of (s4 _ _ ht))) (Zfl (SqT.of ht2)),?_⟩⟩⟩
  rw[Yu ((hT3.unique q4).trans (hT4.unique q3).symm)]
  exact k1 _ ((s2.trans sz).trans ((g1.trans s3).trans s4))
theorem ok__law_right {f:Addr}{fd:FuncData} (F:Fun K "_law_right" "_law_right" s__law_right f fd) (Zc3:Callee P w K mg base "_law_alone" 1 ["e","place"] (sp__law_alone K mg)) (Zc4:Callee P w K mg base "_law_asked" 8 ["row","text","a","b"] (sp__law_asked K mg)) (Zbm:Callee P w K mg base "_law_holds_so" 3 ["row","text","a","b","told"] (sp__law_holds_so K mg)) (T:Txt K mg):FnOk P w K mg base (CXE P w) 9 f fd ["row","text","pairs","a","b"] (sp__law_right K mg):=by
 refine F.okX sc__law_right (λvs H Q E h=>?_) (λcdv A outer s H vs Q E hr h=>?_)
 .obtain⟨r,x,l,ns,ts,ps,a,b,rfl,_⟩:=h;rfl
 obtain⟨r,x,l,ns,ts,ps,a,b,rfl,hRT,tl,hp16,hP1,hP2,hT,k1⟩:=h
 obtain⟨hr1,hx,h0,h6,h16⟩:=id hRT
 refine⟨_,(Ze (Zs (i:=5) sc__law_right.nd rfl (Or.inl rfl) (Zi Zc4 (hr.mono nofun) rfl Zx (Za (pv 0) (Za (pv 1) (Za (pv 3) (Za (pv 4) Zb))))))
   (Ze (ZN (PW.pt (ZdN (Zj ZcB (pv 3) Zf (Zl _)) (ZdN (Zj ZcB (pv 4) (pv 3) (Zl _)) (ZdM (Zj Ziw (pv 4) (Zk (Zp (K:=K) rfl) rfl T.b_len YC (Za (pv 1) Zb)) (Zl _)))))) (Zg (Zu (Zi Zc3 (hr.mono nofun) rfl Zx (Za (pv 5) (Za Zf Zb))))) ZA)
   (Ze (ZN (ZeW (Zk (Zn9 (K:=K) rfl rfl) rfl T.b_any bt_any (Za (Z2 ["pair","a","b"] [none,some 3,some 4] rfl rfl rfl (Zao (pv 2)) (λ_ _ _ _ _=>(Zn (i:=0) (show(["pair","a","b"]:List Str).Nodup from by decide +kernel) rfl (Or.inl rfl))) (λ_ _ _ _ _=>ZW) (λ_ _ _ _ _=>(ZkM (ZeB Zgs (pv 1) (Zm (r:=rIxT K) ZI (pv 0) Zf (λ_ _=>rfl)) (Zl _)) (ZkL (ZeB Zgs (Zm (r:=rIxT K) ZI (pv 0) Zf (λ_ _=>rfl)) (pv 2) (Zl _))))) Zt) Zb))) (Zg (Zu (Zi Zbm (hr.mono nofun) rfl Zx (Za (pv 0) (Za (pv 1) (Za (pv 3) (Za (pv 4) (Za (pv 5) Zb)))))))) ZA)
   (Zg (Zu (ZeB ZkQ (pv 5) ZP (Zl _))))))),?_⟩
 have eX:(ts.map V.int).length=ts.length:=Yh ..
 walk_at "rd"
 refine⟨r,x,ns,ts,a,b,rfl,hRT,hT,λhst v H1 s1 hv=>?_,λhn e H1 s1 he=>?_⟩
 .obtain⟨y1,y2,y3⟩:=id hst
  refine Zy (λz=>absurd z ⋯) λ_=>Zy (λz=>absurd z ⋯) λ_=>⟨_,s1.q hx,Zy (λz=>absurd z (by rw[eX];omega)) λ_=>⟨(tl.same s1).sq,?_⟩⟩
  obtain⟨w1,w2,w3⟩:=(tl.same s1).walk (K:=K)
  refine comp_map (n:=ps.length) (λj=>V.bl (decide (a<=nth (ps.getD j []) 0/\nth (ps.getD j []) 1<=b))) (YA (show _<=1000 by omega) nofun) (λj Hx s hj=>w1 j Hx s hj) (λHx s=>w2 Hx s) ?_ ?_
  .rintro j y Hx Hy hj s hy
   obtain⟨rfl,u,rfl,hu⟩:=w3 j y Hx Hy hj s hy
   have eg:ps.getD j []=ps[j]:=by rw[Yg,Yf hj];rfl
   obtain⟨g,_,eq⟩:=hP1 ps[j] (YK hj)
   rw[eq]at hu eg
   walk_at "rd"
   refine⟨_,SqT.of hu,_,rfl,_,rfl,Zy (λz=>⟨_,SqT.of hu,_,rfl,_,rfl,CW.next hj ?_ s⟩) λz=>CW.next hj ?_ s⟩
   .rw[eg]
    congr 1
    rw[decide_eq_decide]
    exact⟨λh=>⟨z,h⟩,λh=>h.2⟩
   .rw[eg,Yt λh=>z h.1]
  .intro lz Hx sx hlz
   have s12:=s1.trans (sx.Zai (o:=.lst ((List.range ps.length).map λj=>V.bl (decide (a<=nth (ps.getD j []) 0/\nth (ps.getD j []) 1<=b)))) hlz)
   refine⟨lz,rfl,(List.range ps.length).map λj=>decide (a<=nth (ps.getD j []) 0/\nth (ps.getD j []) 1<=b),SqL.of (by rw[Zc,YZ];rfl),Zy (λz=>?_) λz=>?_⟩
   .obtain⟨d,hd,ed⟩:=List.any_eq_true.mp z
    obtain⟨j,hj,rfl⟩:=YH.mp hd
    have hj:=Yq.mp hj
    have ed:=Y2 ed
    have eg:ps.getD j []=ps[j]:=by rw[Yg,Yf hj];rfl
    obtain⟨g,hg,eq⟩:=hP1 ps[j] (YK hj)
    rw[eg,eq]at ed
    rcases hv with⟨_,hno⟩|⟨c,g',rfl,hc,hH⟩
    .exact absurd ⟨hg,ed.1,ed.2⟩ (hno g)
    .exact⟨r,x,c,ns,ts,a,b,g',rfl,hRT.same s12,(sx.Zai hlz) _ _ hc,hH,λH3 s3=>k1 _ (s12.trans s3)⟩
   .rcases hv with⟨rfl,_⟩|⟨c,g',rfl,hc,hH⟩
    .rw[Yu rfl]
     exact k1 _ s12
    .obtain⟨hg,g1,g2⟩:=hH
     obtain⟨q,hq,k2,k3⟩:=hP2 g' hg
     obtain⟨j,hj,rfl⟩:=YU hq
     refine absurd (List.any_eq_true.mpr ⟨_,YH.mpr ⟨j,Yq.mpr hj,rfl⟩,?_⟩) z
     have eg:ps.getD j []=ps[j]:=by rw[Yg,Yf hj];rfl
     rw[eg]
     exact Yu ⟨⋯,⋯⟩
 .have al:sp__law_alone K mg [V.ref e,V.int 5] H1 Q E0:=⟨e,_,5,5,rfl,by decide,by decide,he,kinds_NoPlace T,λH2 s2=>k1 _ (s1.trans s2)⟩
  exact Zy (λ_=>al) λz1=>Zy (λ_=>al) λz2=>⟨_,s1.q hx,Zy (λ_=>al) λz3=>absurd ⟨⋯,⋯,by rw[eX]at z3;omega⟩ hn⟩
theorem ok__law_stretches {f:Addr}{fd:FuncData} (F:Fun K "_law_stretches" "_law_stretches" s__law_stretches f fd) (Zo:Callee P w K mg base "_law_take" 1 ["pot","many"] (sp__law_take K mg)) (Zak:Callee P w K mg base "_law_least_ones" 1 ["pairs"] (sp__law_least_ones K mg)) (T:Txt K mg):FnOk P w K mg base (CXE P w) 2 f fd ["pot","text","pairs"] (sp__law_stretches K mg):=by
 refine F.okX sc__law_stretches (λvs H Q E h=>?_) (λcdv A outer s H vs Q E hr h=>?_)
 .obtain⟨p,x,l,ts,ps,rfl,_⟩:=h;rfl
 obtain⟨p,x,l,ts,ps,rfl,hP,nxp,nlp,hx,tl,hps,hp16,h16,k1⟩:=h
 refine⟨_,(Ze (Zs (i:=3) sc__law_stretches.nd rfl (Or.inr rfl) (Zk (Zp (K:=K) rfl) rfl T.b_len YC (Za (pv 1) Zb)))
   (Ze (Zs (i:=4) sc__law_stretches.nd rfl (Or.inl rfl) (Zv Zhk (ZQ (Za (Zaw (Za Zf (Za (Zv ZdS (pv 3) Zf) Zb))) (Za (Zaw (Za (Zb2 ZaG Zf) (Za Zf Zb))) (Za (Zaw (Za Zf (Za (pv 3) Zb))) (Za (Zaw (Za Zf (Za Zf Zb))) (Za (Zaw (Za (Zv ZcO Zf Zf) (Za (Zv ZcO Zf Zf) Zb))) (Za (Zaw (Za (Zb2 ZaG Zf) (Za (Zb2 ZaG Zf) Zb))) Zb))))))) (Zi Zak (hr.mono nofun) rfl Zx (Za (pv 2) Zb))))
   (Ze (ZaC (Zbj PassesOwn.never rfl (Zao (Zi Zak (hr.mono nofun) rfl Zx (Za (pv 2) Zb))) (Zhf (n:=2) rfl (ZV (Zn (i:=5) sc__law_stretches.nd rfl (Or.inl rfl)) (ZV (Zn (i:=6) sc__law_stretches.nd rfl (Or.inl rfl)) ZcL))) (Zg (Z8 (Zb4 PySem.F.plainAttrs_list PySem.F.slot_list_extend PySem.F.type_list_extend Zmy (pv 4) (Za (ZQ (Za (Zaw (Za (Zv Zav (pv 5) Zf) (Za (pv 6) Zb))) (Za (Zaw (Za (pv 5) (Za (Zv ZdS (pv 6) Zf) Zb))) Zb))) Zb))))))
   (Zg (Zu (Zv Zhk (pv 4) (Z2 ["turn","pot","many"] [none,some 0,some 3] rfl rfl rfl (ZJ rfl T.b_range (Za Zf Zb)) (λ_ _ _ _ _=>(Zn (i:=0) (show(["turn","pot","many"]:List Str).Nodup from by decide +kernel) rfl (Or.inl rfl))) (λ_ _ _ _ _=>ZW) (λ_ _ _ _ _=>(Zaw (Za (Zi Zo (hr.mono nofun) rfl Zx (Za (pv 1) (Za (Zv Zav (pv 2) Zf) Zb))) (Za (Zi Zo (hr.mono nofun) rfl Zx (Za (pv 1) (Za (Zv Zav (pv 2) Zf) Zb))) Zb)))) Zt))))))),?_⟩
 have eX:(ts.map V.int).length=ts.length:=Yh ..
 refine Zaj (fun σ Hx=>σ=[some (.ref p),some (.ref x),some (.ref l),some (.int (ts.length:Int)),none,none,none]/\Hx=H) (λR hR=>?_) ?_
 .walk_at "rd"
  exact⟨_,.inl (SqL.of hx),hR _ _ ⟨by rw[eX],rfl⟩⟩
 rintro σ H1 ⟨rfl,rfl⟩
 refine Zaj (fun σ Hx=>∃(d:Addr) (qs:List (List Int)),σ=[some (.ref p),some (.ref x),some (.ref l),some (.int (ts.length:Int)),some (.ref d),none,none]/\H1 d=none/\TupsAt Hx d qs/\Two qs/\qs.length<=22/\Zd H1 Hx) (λR hR=>?_) ?_
 .walk_at "rd"
  refine⟨by decide,λc1 z1=>⟨by decide,λc2 z2=>⟨by decide,λc3 z3=>⟨by decide,λc4 z4=>⟨by unfold Zi0;decide,by unfold Zi0;decide,by decide,λc5 z5=>⟨by decide,λc6 z6=>⟨by decide,λc7 z7=>?_⟩⟩⟩⟩⟩⟩⟩
  have t1:=tv_two0 z1 (a:=0) (b:=(ts.length:Int)-1)
  have g1:=(Zd.refl H1).upd (o:=.tup [V.int 0,V.int ((ts.length:Int)-1)]) z1
  generalize upd H1 c1 (.tup [V.int 0,V.int ((ts.length:Int)-1)])=G1 at z2 z3 z4 z5 z6 z7 t1 g1⊢
  obtain⟨t2,g2⟩:=tv_two t1 z2 (a:=-1) (b:=0)
  generalize upd G1 c2 (.tup [V.int (-1),V.int 0])=G2 at z3 z4 z5 z6 z7 t2 g2⊢
  obtain⟨t3,g3⟩:=tv_two t2 z3 (a:=0) (b:=(ts.length:Int))
  generalize upd G2 c3 (.tup [V.int 0,V.int (ts.length:Int)])=G3 at z4 z5 z6 z7 t3 g3⊢
  obtain⟨t4,g4⟩:=tv_two t3 z4 (a:=1) (b:=0)
  generalize upd G3 c4 (.tup [V.int 1,V.int 0])=G4 at z5 z6 z7 t4 g4⊢
  generalize ((10:Int) ^ Int.toNat 59)=big at z5 z6 z7⊢
  obtain⟨t5,g5⟩:=tv_two t4 z5 (a:=big) (b:=big)
  generalize upd G4 c5 (.tup [V.int big,V.int big])=G5 at z6 z7 t5 g5⊢
  obtain⟨t6,g6⟩:=tv_two t5 z6 (a:=-2) (b:=-1)
  generalize upd G5 c6 (.tup [V.int (-2),V.int (-1)])=G6 at z7 t6 g6⊢
  have s6:=((((g1.trans g2).trans g3).trans g4).trans g5).trans g6
  have t7:=t6.at z7
  have s7:=s6.Zai (o:=.lst [V.ref c1,V.ref c2,V.ref c3,V.ref c4,V.ref c5,V.ref c6]) z7
  generalize hG:upd G6 c7 (.lst [V.ref c1,V.ref c2,V.ref c3,V.ref c4,V.ref c5,V.ref c6])=G7 at s7⊢
  have t7:TupsAt G7 c7 _:=hG▸t7
  refine⟨l,ps,rfl,tl.same s7,hps,hp16,λm rs H3 zm hL hrl tm s3=>?_⟩
  obtain⟨xs,h7,v7⟩:=ta_v (t7.same s3)
  obtain⟨ys,hm,vm⟩:=ta_v tm
  have v8:=tv_app v7 vm
  have hlen:=v8.len
  refine⟨m,rfl,xs,h7,ys,hm,Yn (show _<=1000 by rw[<-YQ,hlen];simp;omega) nofun,λd zd=>hR _ _ ⟨d,_,rfl,(s7.trans s3).free zd,v8.at zd,?_,?_,(s7.trans s3).Zai zd⟩⟩
  .intro q hq
   rcases Yw.mp hq with hq|hq
   .simp only[List.nil_append,List.cons_append,Yi,List.not_mem_nil,or_false]at hq
    rcases hq with rfl|rfl|rfl|rfl|rfl|rfl<;>exact⟨_,_,rfl⟩
   .obtain⟨x,y,e,_⟩:=hps q ((hL.2 q).mp hq).1
    exact⟨x,y,e⟩
  .simp;omega
 rintro σ H2 ⟨d,qs,rfl,zd,td,h2,l2,s2⟩
 refine Zaj (fun σ Hx=>∃(qs:List (List Int)) (v5 v6:Option V),σ=[some (.ref p),some (.ref x),some (.ref l),some (.int (ts.length:Int)),some (.ref d),v5,v6]/\TupsAt Hx d qs/\Two qs/\qs.length<=54/\Zd H1 Hx) (λR hR=>?_) ?_
 .walk_at "rd"
  refine⟨l,ps,rfl,tl.same s2,hps,hp16,λm rs H3 zm hL hrl tm s3=>⟨m,rfl,tm.sq,?_⟩⟩
  have nmd:m≠d:=λz=>by
   obtain⟨as,e,_⟩:=td
   rw[z,e]at zm;cases zm
  obtain⟨xs0,hd3,_⟩:=ta_v (td.same s3)
  refine Zhu (n:=rs.length) (λj σ Hx=>∃(qs:List (List Int)) (v5 v6:Option V),σ=[some (.ref p),some (.ref x),some (.ref l),some (.int (ts.length:Int)),some (.ref d),v5,v6]/\TupsAt Hx d qs/\Two qs/\qs.length<=22+2*j/\Exc d H3 Hx) ⟨qs,_,_,rfl,td.same s3,h2,⋯,(Zd.refl _).ZcE⟩ (λj σ Hx hj ⟨_,_,_,_,_,_,_,ex⟩=>(onWalk (K:=K) tm nmd hd3 ex).1 j Hx (Zd.refl _) hj) (fun σ Hx ⟨_,_,_,_,_,_,_,ex⟩=>(onWalk (K:=K) tm nmd hd3 ex).2.1 Hx (Zd.refl _)) ?_ ?_
  .rintro j y σ Hx Hy hj ⟨qs,v5,v6,rfl,tq,hq2,hql,ex⟩ hy
   obtain⟨rfl,u,rfl,hu⟩:=(onWalk (K:=K) tm nmd hd3 ex).2.2 j y Hx Hy hj (Zd.refl _) hy
   obtain⟨x',y',e,_⟩:=hps rs[j] ((hL.2 rs[j]).mp (YK hj)).1
   rw[e]at hu
   obtain⟨xs,hdy,_⟩:=ta_v tq
   walk_at "rd"
   refine⟨_,SqT.of hu,rfl,_,_,rfl,_,_,rfl,rfl,ZX hdy,_,rfl,by decide,λc1 z1=>⟨_,rfl,by decide,λc2 z2=>⟨by decide,λc3 z3=>?_⟩⟩⟩
   obtain⟨t1,g1⟩:=tv_two ZT.nil z1 (a:=x'+1) (b:=y')
   generalize upd Hy c1 (.tup [V.int (x'+1),V.int y'])=G1 at z2 z3 t1 g1⊢
   obtain⟨t2,g2⟩:=tv_two t1 z2 (a:=x') (b:=y'-1)
   generalize upd G1 c2 (.tup [V.int x',V.int (y'-1)])=G2 at z3 t2 g2⊢
   have g3:=(Zd.refl G2).upd (o:=.lst [V.ref c1,V.ref c2]) z3
   have h3:=Zc (H:=G2) (a:=c3) (o:=.lst [V.ref c1,V.ref c2])
   generalize upd G2 c3 (.lst [V.ref c1,V.ref c2])=G3 at g3 h3⊢
   have gs:=(g1.trans g2).trans g3
   have hlx:xs.length=qs.length:=by obtain⟨_,hh,v⟩:=ta_v tq;rw[hdy]at hh;cases hh;exact v.len
   refine⟨xs,gs _ _ hdy,_,h3,Yn (show _<=1000 by rw[hlx];simp;omega) nofun,_,TupsAt.app (gs _ _ hdy) (tq.same gs) (t2.same g3),λq hq=>?_,by simp;omega,(ex.same gs).trans Exc.upd⟩
   rcases Yw.mp hq with hq|hq
   .exact hq2 q hq
   .simp only[List.nil_append,List.cons_append,Yi,List.not_mem_nil,or_false]at hq
    rcases hq with rfl|rfl<;>exact⟨_,_,rfl⟩
  .rintro σ Hx ⟨qs,v5,v6,rfl,tq,hq2,hql,ex⟩
   exact hR _ _ ⟨qs,v5,v6,rfl,tq,hq2,⋯,(s2.trans s3).exc zd ex⟩
 rintro σ H3 ⟨qs,v5,v6,rfl,td,h2,l2,s3⟩
 walk_at "rd"
 refine⟨by decide,by decide,?_⟩
 refine Zam (n:=6) (λj acc Hz=>∃rs,ZT Hz acc rs/\Two rs/\rs.length=j/\ZK Hz p/\Exc p H3 Hz) nofun ⟨[],ZT.nil,(λq hq=>nomatch hq),rfl,hP.same s3,(Zd.refl H3).ZcE⟩ (λj acc Hz _ hj=>hj) (λacc Hz _=>Ye _) ?_ ?_
 .rintro j y acc Hz Hw hj hla ⟨rs,tv,h2,hl,P2,ex⟩ ⟨rfl,rfl⟩
  walk_at "rd"
  refine⟨p,_,rfl,⋯,⋯,P2,λc1 H4 _ _ P4 e4=>⟨p,_,rfl,⋯,⋯,P4,λc2 H5 _ _ P5 e5=>⟨by decide,λu zu=>CA.take hj hla ⟨rs++[[c1,c2]],?_,?_,by simp[hl],P5.upd zu,((ex.trans e4).trans e5).same ((Zd.refl H5).upd zu)⟩⟩⟩⟩
  .exact(tv_two (tv_exc (tv_exc tv P2 e4) P4 e5) zu).1
  .intro q hq
   rcases Yw.mp hq with hq|hq
   .exact h2 q hq
   .rw[YT.mp hq];exact⟨_,_,rfl⟩
 .rintro g acc Hz ⟨rs,tv,hr2,hl,P2,ex⟩ _ zg
  have ndp:d≠p:=hP.ne zd
  obtain⟨xs,hd3,vd3⟩:=ta_v td
  have gg:=(Zd.refl Hz).upd (o:=.lst acc) zg
  have hd4:=gg _ _ (ex _ _ ndp hd3)
  have v5:=(tv_app (tv_exc vd3 (hP.same s3) ex) tv).same gg
  have hlen:=v5.len
  refine⟨g,rfl,xs,hd4,acc,Zc,Yn (show _<=1000 by rw[<-YQ,hlen];simp;omega) nofun,λd2 zd2=>?_⟩
  have eX:Exc p H1 (upd Hz g (.lst acc)):=(s3.ZcE.trans ex).same gg
  refine k1 d2 _ _ ?_ (v5.at zd2) (λq hq=>(Yw.mp hq).elim (h2 q) (hr2 q)) (by simp;omega) ((P2.same gg).upd zd2) (eX.same ((Zd.refl _).upd zd2))
  cases e:H1 d2 with
  |none=>rfl
  |some o=>exact absurd (eX _ _ ((P2.same gg).ne zd2) e) (by rw[zd2];simp)
noncomputable def LT2 (H:Hp) (r:Addr) (ns:List Int):Prop:=H r=some (.lst (ns.map V.int))\/H r=some (.tup (ns.map V.int))
theorem LT2.sq {K:PySem.W.Frag}{H:Hp}{r:Addr}{ns:List Int} (h:LT2 H r ns):SqL K H r (ns.map V.int)\/SqT K H r (ns.map V.int):=h.elim (λe=>.inl (SqL.of e)) λe=>.inr (SqT.of e)
theorem LT2.same {H H':Hp}{r:Addr}{ns:List Int} (h:LT2 H r ns) (s:Zd H H'):LT2 H' r ns:=h.imp (s _ _) (s _ _)
theorem ok_law {f:Addr}{fd:FuncData} (F:Fun K "law" "law" s_law f fd) (Zd6:Callee P w K mg base "_law_deal" 1 ["script","k"] (sp__law_deal K mg)) (Zo:Callee P w K mg base "_law_take" 1 ["pot","many"] (sp__law_take K mg)) (ZR:Callee P w K mg base "_law_tree" 2 ["row"] (sp__law_tree K mg)) (Za1:Callee P w K mg base "_law_either" 2 ["pot","some"] (sp__law_either K mg)) (Zd7:Callee P w K mg base "_law_pair" 3 ["pot","most","wide"] (sp__law_pair K mg)) (Zc5:Callee P w K mg base "_law_table" 6 ["row","text"] (sp__law_table K mg)) (Zc6:Callee P w K mg base "_law_right" 9 ["row","text","pairs","a","b"] (sp__law_right K mg)) (ZaW:Callee P w K mg base "_law_stretches" 2 ["pot","text","pairs"] (sp__law_stretches K mg)) (T:Txt K mg):FnOk P w K mg base (CXE P w) 10 f fd ["script"] (spLaw K mg):=by
 refine F.okX sc_law (λvs H Q E h=>?_) (λcdv A outer s H vs Q E hr h=>?_)
 .obtain⟨a,ns,rfl,_⟩:=h;rfl
 obtain⟨sc,ss,rfl,hsc,hss,hTT,k1⟩:=h
 have hT1:Z4 K mg "from_below" H:=hTT (Zd1 K mg "from_below",Zfv "from_below") (by unfold tabsL;simp)
 have hT2:Z4 K mg "best_ahead" H:=hTT (Zd1 K mg "best_ahead",Zfv "best_ahead") (by unfold tabsL;simp)
 have hT3:Z4 K mg "best_behind" H:=hTT (Zd1 K mg "best_behind",Zfv "best_behind") (by unfold tabsL;simp)
 have hT4:Z4 K mg "_law_table" H:=hTT (Zd1 K mg "_law_table",Zfv "_law_table") (by unfold tabsL;simp)
 refine⟨_,(Ze (ZaC (Zbj PassesOwn.never rfl (ZJ rfl T.b_range (Za (Zk (Zms rfl) rfl T.b_max ZkW (Za Zf (Za (Zk (Zmt rfl) rfl T.b_min ZkX (Za (Zk (Zp (K:=K) rfl) rfl T.b_len YC (Za (pv 0) Zb)) (Za Zf Zb))) Zb))) Zb)) (Zn (i:=1) sc_law.nd rfl (Or.inl rfl)) (Ze (Zs (i:=2) sc_law.nd rfl (Or.inl rfl) (Zi Zd6 (hr.mono nofun) rfl Zx (Za (pv 0) (Za (pv 1) Zb))))
   (Ze (ZcM (Zi Zd7 (hr.mono nofun) rfl Zx (Za (pv 2) (Za (Zm ZI (Zaw (Za Zf (Za Zf (Za Zf Zb)))) (Zi Zo (hr.mono nofun) rfl Zx (Za (pv 2) (Za Zf Zb))) (λ_ _=>rfl)) (Za (Zm ZI (Zaw (Za Zf (Za Zf Zb))) (Zi Zo (hr.mono nofun) rfl Zx (Za (pv 2) (Za Zf Zb))) (λ_ _=>rfl)) Zb)))) (Zhf (n:=2) rfl (ZV (Zn (i:=3) sc_law.nd rfl (Or.inl rfl)) (ZV (Zn (i:=4) sc_law.nd rfl (Or.inl rfl)) ZcL))))
   (Ze (Z3 (i:=5) ["pair"] [none] sc_law.nd rfl (Or.inl rfl) rfl rfl rfl (Zao (Zm Zr (Zi Zc5 (hr.mono nofun) rfl Zx (Za (pv 3) (Za (pv 4) Zb))) (Zll PySem.F.slot_tuple_index PySem.F.type_tuple_index (Zgf (K:=K) rfl) (Zi ZR (hr.mono nofun) rfl Zx (Za (pv 3) Zb)) (Za (Zb2 ZaG Zf) Zb)) (λ_ _=>rfl))) (λ_ _ _ _ _=>(Zn (i:=0) (show(["pair"]:List Str).Nodup from by decide +kernel) rfl (Or.inl rfl))) (λ_ _ _ _ _=>Zaa (Zj Zay (pv 0) ZP (Zl _))) (λ_ _ _ _ _=>(pv 0)) Zt)
   (Ze (Zs (i:=6) sc_law.nd rfl (Or.inl rfl) (Zaw (Za (Zi Za1 (hr.mono nofun) rfl Zx (Za (pv 2) (Za (pv 3) Zb))) (Za (Zi Za1 (hr.mono nofun) rfl Zx (Za (pv 2) (Za (pv 4) Zb))) Zb))))
   (Ze (ZaC (Zbj PassesOwn.never rfl (Zao (Zi ZaW (hr.mono nofun) rfl Zx (Za (pv 2) (Za (pv 4) (Za (pv 5) Zb))))) (Zhf (n:=2) rfl (ZV (Zn (i:=7) sc_law.nd rfl (Or.inl rfl)) (ZV (Zn (i:=8) sc_law.nd rfl (Or.inl rfl)) ZcL))) (Zg (ZN (ZfY (ZeW (Zi Zc6 (hr.mono nofun) rfl Zx (Za (Zm ZI (pv 6) Zf (λ_ _=>rfl)) (Za (Zm ZI (pv 6) Zf (λ_ _=>rfl)) (Za (pv 5) (Za (pv 7) (Za (pv 8) Zb)))))))) (Zg (Zu ZeM)) ZA))))
   (Zg (ZN (PW.pt (ZdN (Zj (ZkZ (K:=K) rfl hr) (ZaD (ZcS (K:=K) rfl) rfl T.b_list Zg6 (Za (Zm ZI (pv 6) Zf (λ_ _=>rfl)) Zb)) (pv 3) (Zl _)) (ZdM (Zj (ZkZ (K:=K) rfl hr) (ZaD (ZcS (K:=K) rfl) rfl T.b_list Zg6 (Za (Zm ZI (pv 6) Zf (λ_ _=>rfl)) Zb)) (pv 4) (Zl _))))) (Zg (Zu ZeM)) ZA)))))))))
   (Zg (Zu ZeM))),?_⟩
 walk_at "rd"
 refine⟨_,.inl hsc,by split<;>(try split)<;>omega,by split<;>(try split)<;>omega,?_⟩
 refine ZeA (λi σ Hx=>∃v1 v2 v3 v4 v5 v6 v7 v8,σ=[some (.ref sc),v1,v2,v3,v4,v5,v6,v7,v8]/\Zd H Hx) ⟨_,_,_,_,_,_,_,_,rfl,Zd.refl H⟩ ?_ ?_
 .rintro i σ H' hi ⟨v1,v2,v3,v4,v5,v6,v7,v8,rfl,hs⟩
  have hi8:i<16:=by
   revert hi
   split
   .split<;>omega
   .omega
  refine Zaj (fun σ Hx=>∃p,σ=[some (.ref sc),some (.int (0+(i:Int))),some (.ref p),v3,v4,v5,v6,v7,v8]/\H p=none/\ZK Hx p/\Zd H Hx) (λR hR=>?_) ?_
  .walk_at "rd"
   exact⟨sc,ss,_,rfl,hs.seq hsc,⋯,⋯,λp H1 hp s1 P1=>hR _ _ ⟨p,rfl,hs.free hp,P1,hs.trans s1⟩⟩
  rintro σ H1 ⟨p,rfl,zp,P1,s1⟩
  refine Zaj (fun σ Hx=>∃(r x:Addr) (ns ts:List Int),σ=[some (.ref sc),some (.int (0+(i:Int))),some (.ref p),some (.ref r),some (.ref x),v5,v6,v7,v8]/\r≠p/\x≠p/\0<ns.length/\ns.length<=6/\ts.length<=16/\Hx r=some (.lst (ns.map V.int))/\Hx x=some (.lst (ts.map V.int))/\ZK Hx p/\Zd H Hx) (λR hR=>?_) ?_
  .walk_at "rd"
   refine⟨by decide,λq zq=>⟨p,3,rfl,by decide,by decide,P1.upd zq,λc H2 c0 c1 P2 e2=>?_⟩⟩
   have hq2:=e2 _ _ (P1.ne zq) Zc
   obtain⟨v,hv,y,rfl,y0,y1⟩:=Zjf (xs:=[V.int 4,V.int 4,V.int 6]) (i:=c) (λv=>∃y,v=V.int y/\0<y/\y<=6) c0 c1 (by
    intro z hz
    simp only[Yi,List.not_mem_nil,or_false]at hz
    rcases hz with rfl|rfl|rfl<;>exact⟨_,rfl,⋯,⋯⟩)
   refine⟨_,c,rfl,SqT.of hq2,_,hv,by decide,λq' zq'=>⟨p,2,rfl,by decide,by decide,P2.upd zq',λc' H3 c0' c1' P3 e3=>?_⟩⟩
   have hq3:=e3 _ _ (P2.ne zq') Zc
   obtain⟨v',hv',y',rfl,y0',y1'⟩:=Zjf (xs:=[V.int 9,V.int 16]) (i:=c') (λv=>∃y,v=V.int y/\0<=y/\y<=16) c0' c1' (by
    intro z hz
    simp only[Yi,List.not_mem_nil,or_false]at hz
    rcases hz with rfl|rfl<;>exact⟨_,rfl,⋯,⋯⟩)
   have e13:Exc p H1 H3:=((((Zd.refl H1).upd zq).ZcE.trans e2).same ((Zd.refl H2).upd zq')).trans e3
   exact⟨_,c',rfl,SqT.of hq3,_,hv',p,y,y',rfl,⋯,⋯,⋯,⋯,P3,λt r x ns ts H4 zr zx l0 l1 l2 hr2 hx2 ht2 P4 e4=>⟨t,rfl,_,SqT.of ht2,rfl,_,_,rfl,_,_,rfl,rfl,hR _ _ ⟨r,x,ns,ts,rfl,P3.ne zr,P3.ne zx,l0,⋯,⋯,hr2,hx2,P4,s1.exc zp (e13.trans e4)⟩⟩⟩
  clear P1 s1 H1
  rintro σ H2 ⟨r,x,ns,ts,rfl,nrp,nxp,l0,l1,l2,hr2,hx2,P2,s2⟩
  refine Zaj (fun σ Hx=>∃(l:Addr) (ps:List (List Int)),σ=[some (.ref sc),some (.int (0+(i:Int))),some (.ref p),some (.ref r),some (.ref x),some (.ref l),v6,v7,v8]/\H2 l=none/\TupsAt Hx l ps/\ps.length<=16/\(∀r∈ps,∃x y,r=[x,y]/\0<=y/\y<100000)/\PsIs ns ts ps/\PsAll ns ts ps/\Zd H2 Hx) (λR hR=>?_) ?_
  .walk_at "rd"
   refine⟨r,x,ns,ts,rfl,hr2,hx2,l1,l2,Z4.same hT4 s2,λl T2 tab H3 zl hT TB hTab s3=>⟨r,ns,rfl,.inl (SqL.of (s3 _ _ hr2)),⋯,.inr λt T' H4 hT' s4 ht=>?_⟩⟩
   have eT:=hT'.unique hT
   subst eT
   obtain⟨hm1,htl,ht2⟩:=top_idx hT l0
   obtain⟨xs,a,vals,hl,hxa,ha,hvl,hvp⟩:=tbl_row (TB.same s4) (i:=T'.idxOf (-1)) (by rw[hTab.1];exact htl)
   have hpl:=(hTab.2 _ htl).1
   have hbd:∀r∈pairsP (tab.getD (T'.idxOf (-1)) []),∃x y,r=[x,y]/\0<=y/\y<100000:=λr hr=>top_bd hT l0 hTab l1 l2 (pairsP_mem.mp hr)
   obtain⟨hQ1,hQ2⟩:=top_all hT l0 ⟨by have:=hT.1;omega,ns,hT⟩ hTab
   generalize tab.getD (T'.idxOf (-1)) []=ps at hvl hvp hpl hbd hQ1 hQ2
   refine⟨⟨t,rfl,_,ht⟩,t,rfl,T',ht.sq,hm1,l,rfl,xs,SqL.of hl,V.ref a,by rw[Zb3 hxa],a,rfl,⟨_,SqL.of ha⟩,?_⟩
   refine Zam (n:=vals.length) (λj acc Hz=>ZT Hz acc (pairsP (ps.take j))/\Zd H4 Hz) (YA (show _<=1000 by omega) nofun) ⟨ZT.nil,Zd.refl _⟩ (λj acc Hz ⟨_,s⟩ hj=>⟨_,_,SqL.of (s _ _ ha),Yf hj⟩) (λacc Hz ⟨_,s⟩=>⟨_,SqL.of (s _ _ ha),Ye _⟩) ?_ ?_
   .rintro j y acc Hz Hw hj hla ⟨tv,sz⟩ ⟨rfl,hy⟩
    have:=hy _ (SqL.of (sz _ _ ha))
    rw[Yf hj]at this
    cases this
    have hp:=hvp j vals[j] (ps[j]'⋯) (Yf hj) (Yf ⋯)
    have etk:ps.take (j+1)=ps.take j++[ps[j]'⋯]:=by rw[Je,Yf ⋯];rfl
    generalize vals[j]=y at hp⊢
    generalize ps[j]'⋯=pt at hp etk
    cases pt with
    |none =>
     have hp:y=.non:=hp
     subst hp
     walk_at "rd"
     refine Zy (λz=>absurd z (by simp)) λ_=>CA.skip hj hla ⟨?_,sz⟩
     have:pairsP (ps.take (j+1))=pairsP (ps.take j):=by rw[etk];unfold pairsP;rw[List.filterMap_append];simp
     rw[this];exact tv
    |some e =>
     obtain⟨q,rfl,hq⟩:=hp
     walk_at "rd"
     refine Zy (λ_=>CA.take hj hla ⟨?_,sz⟩) λz=>absurd z (by simp)
     have:pairsP (ps.take (j+1))=pairsP (ps.take j)++[[e.1,e.2]]:=by rw[etk];unfold pairsP;rw[List.filterMap_append];simp
     rw[this]
     exact tv.snoc (sz _ _ hq)
   .rintro g acc Hz ⟨tv,sz⟩ _ zg
    rw[List.take_of_length_le ⋯]at tv
    exact hR _ _ ⟨g,_,rfl,s3.free (s4.free (sz.free zg)),tv.at zg,Yn (pairsP_len _) ⋯,hbd,hQ1,hQ2,(s3.trans s4).trans (sz.Zai zg)⟩
  rintro σ H3 ⟨l,ps,rfl,zl,tl,pl,hpb,hP1,hP2,s3⟩
  refine Zaj (fun σ Hx=>∃(h u1 u2:Addr),σ=[some (.ref sc),some (.int (0+(i:Int))),some (.ref p),some (.ref r),some (.ref x),some (.ref l),some (.ref h),v7,v8]/\Hx h=some (.tup [.ref u1,.ref u2])/\(Hx u1=some (.lst (ns.map V.int))\/Hx u1=some (.tup (ns.map V.int)))/\(Hx u2=some (.lst (ts.map V.int))\/Hx u2=some (.tup (ts.map V.int)))/\h≠p/\u1≠p/\u2≠p/\ZK Hx p/\Exc p H3 Hx) (λR hR=>?_) ?_
  .walk_at "rd"
   refine⟨p,r,_,rfl,P2.same s3,nrp,s3 _ _ hr2,by rw[Yh];omega,λu1 H2' zu1 hu1 P2' e2=>⟨p,x,_,rfl,P2',nxp,e2 _ _ nxp (s3 _ _ hx2),by rw[Yh];omega,λu2 H4 zu2 hu2 P3 e3=>⟨by decide,λh zh=>hR _ _ ⟨h,u1,u2,rfl,Zc,?_,?_,P3.ne zh,(P2.same s3).ne zu1,P2'.ne zu2,P3.upd zh,(e2.trans e3).same ((Zd.refl H4).upd zh)⟩⟩⟩⟩
   .exact hu1.imp (λz=>((Zd.refl H4).upd zh) _ _ (e3 _ _ ((P2.same s3).ne zu1) z)) λz=>((Zd.refl H4).upd zh) _ _ (e3 _ _ ((P2.same s3).ne zu1) z)
   .exact hu2.imp (λz=>((Zd.refl H4).upd zh) _ _ z) λz=>((Zd.refl H4).upd zh) _ _ z
  rintro σ H4 ⟨h,u1,u2,rfl,hh,hu1,hu2,nhp,n1,n2,P4,e4⟩
  have nlp:l≠p:=P2.ne zl
  refine Zaj (fun σ Hx=>∃(v7 v8:Option V),σ=[some (.ref sc),some (.int (0+(i:Int))),some (.ref p),some (.ref r),some (.ref x),some (.ref l),some (.ref h),v7,v8]/\ZK Hx p/\Exc p H4 Hx) (λR hR=>?_) ?_
  .walk_at "rd"
   have tl4:TupsAt H4 l ps:=by
    obtain⟨xs,h1,v⟩:=ta_v tl
    obtain⟨as,rfl,q1,q2⟩:=tv_exc v (P2.same s3) e4
    exact⟨as,e4 _ _ nlp h1,q1,q2⟩
   have zlH:Zd H H3:=s2.trans s3
   refine⟨p,x,l,ts,ps,rfl,P4,nxp,nlp,e4 _ _ nxp (s3 _ _ hx2),tl4,hpb,pl,l2,λm qs H5 zm tm h2 ml P5 e5=>⟨m,rfl,tm.sq,?_⟩⟩
   obtain⟨w1,w2,w3⟩:=tm.walk (K:=K)
   have tl5:TupsAt H5 l ps:=by
    obtain⟨xs,h1,v⟩:=ta_v tl4
    obtain⟨as,rfl,q1,q2⟩:=tv_exc v P4 e5
    exact⟨as,e5 _ _ nlp h1,q1,q2⟩
   have sH5:Zd H H5:=zlH.exc zp (e4.trans e5)
   have hh5:=e5 _ _ nhp hh
   have hu15:LT2 H5 u1 ns:=hu1.imp (e5 _ _ n1) (e5 _ _ n1)
   have hu25:LT2 H5 u2 ts:=hu2.imp (e5 _ _ n2) (e5 _ _ n2)
   refine Zhu (n:=qs.length) (λj σ Hx=>∃(v7 v8:Option V),σ=[some (.ref sc),some (.int (0+(i:Int))),some (.ref p),some (.ref r),some (.ref x),some (.ref l),some (.ref h),v7,v8]/\Zd H5 Hx) ⟨_,_,rfl,Zd.refl _⟩ (λj σ Hx hj ⟨_,_,_,s⟩=>w1 j Hx s hj) (fun σ Hx ⟨_,_,_,s⟩=>w2 Hx s) ?_ ?_
   .rintro j y σ Hx Hy hj ⟨v7,v8,rfl,s⟩ hy
    obtain⟨rfl,u,rfl,hu⟩:=w3 j y Hx Hy hj s hy
    obtain⟨a,b,eq⟩:=h2 qs[j] (YK hj)
    rw[eq]at hu
    walk_at "rd"
    refine⟨_,SqT.of hu,rfl,_,_,rfl,_,_,rfl,rfl,_,SqT.of (s _ _ hh5),_,rfl,_,SqT.of (s _ _ hh5),_,rfl,?_⟩
    exact⟨u1,u2,l,ns,ts,ps,a,b,rfl,⟨(hu15.same s).sq,(hu25.same s).sq,l0,l1,l2⟩,tl5.same s,pl,hP1,hP2,⟨Z4.same hT1 (sH5.trans s),Z4.same hT2 (sH5.trans s),Z4.same hT3 (sH5.trans s)⟩,λH6 s6=>⟨true,rfl,Zy (λz=>nomatch z) λ_=>s.trans s6⟩⟩
   .rintro σ Hx ⟨v7,v8,rfl,s⟩
    exact hR _ _ ⟨v7,v8,rfl,P5.same s,e5.same s⟩
  rintro σ H5 ⟨v7,v8,rfl,P5,e5⟩
  walk_at "rd"
  have hh5:=e5 _ _ nhp hh
  have hu15:LT2 H5 u1 ns:=hu1.imp (e5 _ _ n1) (e5 _ _ n1)
  have hu25:LT2 H5 u2 ts:=hu2.imp (e5 _ _ n2) (e5 _ _ n2)
  have hr5:=e5 _ _ nrp (e4 _ _ nrp (s3 _ _ hr2))
  have hx5:=e5 _ _ nxp (e4 _ _ nxp (s3 _ _ hx2))
  have sH5:Zd H H5:=(s2.trans s3).exc zp (e4.trans e5)
  refine⟨_,SqT.of hh5,_,rfl,u1,rfl,ns.map V.int,hu15.sq,λl3 z3=>?_⟩
  have s6:=(Zd.refl H5).upd (o:=.lst (ns.map V.int)) z3
  have h3:=Zc (H:=H5) (a:=l3) (o:=.lst (ns.map V.int))
  generalize upd H5 l3 (.lst (ns.map V.int))=H6 at s6 h3⊢
  refine⟨_,Zg7 (n:=2) (K:=K) ZeF _ _ _ _ (Zbf (SqL.of h3)) (Zbf (SqL.of (s6 _ _ hr5))),Zy (λz=>absurd z (by simp)) λ_=>⟨_,SqT.of (s6 _ _ hh5),_,rfl,u2,rfl,ts.map V.int,(hu25.same s6).sq,λl4 z4=>?_⟩⟩
  have s7:=s6.Zai (o:=.lst (ts.map V.int)) z4
  have h4:=Zc (H:=H6) (a:=l4) (o:=.lst (ts.map V.int))
  generalize upd H6 l4 (.lst (ts.map V.int))=H7 at s7 h4⊢
  exact⟨_,Zg7 (n:=2) (K:=K) ZeF _ _ _ _ (Zbf (SqL.of h4)) (Zbf (SqL.of (s7 _ _ hx5))),Zy (λz=>absurd z (by simp)) λ_=>sH5.trans s7⟩
 .rintro σ H' ⟨v1,v2,v3,v4,v5,v6,v7,v8,rfl,hs⟩
  walk_at "rd"
  exact k1 H'
end
theorem all_mk {l:PySem.W.OpenLaw}{w:World}{K:PySem.W.Frag}{h:Heap}{mg:Str->Option Value}{fa:Addr}{ts:List Addr} (X:K.In h) (G:h.Ns mainGlobals mg) (hfa:mg "law"=some (.ref fa))
  {ZdI:Tok}{oc3_need_numbers:Value}{od3_need_numbers:Option Addr}{ZgX:Nat}{sl3_need_numbers:Array (Option Value)}
  (ZaJ:nsIn K mainGlobals "need_numbers"=some (some (.ref Zd8))) (ZbR:K.lookup Zd8=some ⟨Znu,Znv,.func (fnOf "need_numbers" "need_numbers" (defArgs s_need_numbers) (defBody s_need_numbers) (defScope s_need_numbers) (.ref ZhO) Znw Znx Zny Znz ZgY ZnA),ZnB⟩) (ZbS:codeIn K ZgY "need_numbers"=true) (Zan:keepIn K (.ref Zd8)=true)
  (ZaK:K.lookup ZhO=some ⟨oc3_need_numbers,od3_need_numbers,.seq #[.int 1 ZdI] ZgX,sl3_need_numbers⟩)
  (Zc7:nsIn K mainGlobals "is_stretch"=some (some (.ref Zfx))) (Zc8:K.lookup Zfx=some ⟨Zpk,Zpl,.func (fnOf "is_stretch" "is_stretch" (defArgs s_is_stretch) (defBody s_is_stretch) (defScope s_is_stretch) .none Zpm Zpn Zpo Zpp Zie Zpq),Zpr⟩) (Zc9:codeIn K Zie "is_stretch"=true) (Zbs:keepIn K (.ref Zfx)=true)
  (ZbT:nsIn K mainGlobals "need_stretch"=some (some (.ref Zd9))) (ZbU:K.lookup Zd9=some ⟨ZnC,ZnD,.func (fnOf "need_stretch" "need_stretch" (defArgs s_need_stretch) (defBody s_need_stretch) (defScope s_need_stretch) .none ZnE ZnF ZnG ZnH ZgZ ZnI),ZnJ⟩) (ZbV:codeIn K ZgZ "need_stretch"=true) (ZaL:keepIn K (.ref Zd9)=true)
  (ZhP:nsIn K mainGlobals "settle"=some (some (.ref Zkw))) (ZhQ:K.lookup Zkw=some ⟨Ztj,Ztk,.func (fnOf "settle" "settle" (defArgs s_settle) (defBody s_settle) (defScope s_settle) .none Ztl Ztm Ztn Zto Zni Ztp),Ztq⟩) (ZhR:codeIn K Zni "settle"=true) (Zfy:keepIn K (.ref Zkw)=true)
  (Zgk:nsIn K mainGlobals "tree_of"=some (some (.ref ZiV))) (Zgl:K.lookup ZiV=some ⟨ZsY,ZsZ,.func (fnOf "tree_of" "tree_of" (defArgs s_tree_of) (defBody s_tree_of) (defScope s_tree_of) .none Zs0 Zs1 Zs2 Zs3 Zlr Zs4),Zs5⟩) (Zgm:codeIn K Zlr "tree_of"=true) (ZeJ:keepIn K (.ref ZiV)=true)
  (ZhS:nsIn K mainGlobals "way_up"=some (some (.ref Zkx))) (ZhT:K.lookup Zkx=some ⟨Ztr,Zts,.func (fnOf "way_up" "way_up" (defArgs s_way_up) (defBody s_way_up) (defScope s_way_up) .none Ztt Ztu Ztv Ztw Znj Ztx),Zty⟩) (ZhU:codeIn K Znj "way_up"=true) (Zfz:keepIn K (.ref Zkx)=true)
  (Ze5:nsIn K mainGlobals "young_of"=some (some (.ref ZhV))) (Ze6:K.lookup ZhV=some ⟨Zsz,ZsA,.func (fnOf "young_of" "young_of" (defArgs s_young_of) (defBody s_young_of) (defScope s_young_of) .none ZsB ZsC ZsD ZsE Zky ZsF),ZsG⟩) (Ze7:codeIn K Zky "young_of"=true) (Zda:keepIn K (.ref ZhV)=true)
  (Zbt:nsIn K mainGlobals "from_below"=some (some (.ref Zdb))) (Zbu:K.lookup Zdb=some ⟨Zps,Zpt,.func (fnOf "from_below" "from_below" (defArgs s_from_below) (defBody s_from_below) (defScope s_from_below) .none Zpu Zpv Zpw Zpx ZeQ Zpy),Zpz⟩) (Zdc:codeIn K ZeQ "from_below"=true) (Zbv:keepIn K (.ref Zdb)=true)
  (Zch:ZeQ=.ref Za2) (Zci:K.lookup Za2=some ⟨ZpA,ZpB,.fields Zif,ZpC⟩) (Zcj:Zif[11]?=some (.ref Za3)) (Za4:PySem.W.codeHdIn K Za2 Za3=true) (Zck:K.lookup Za3=none) (Zcl:Za3∈ts)
  (Zdd:nsIn K mainGlobals "need_loose"=some (some (.ref ZfA))) (Zde:K.lookup ZfA=some ⟨ZpD,ZpE,.func (fnOf "need_loose" "need_loose" (defArgs s_need_loose) (defBody s_need_loose) (defScope s_need_loose) .none ZpF ZpG ZpH ZpI Zig ZpJ),ZpK⟩) (Zdf:codeIn K Zig "need_loose"=true) (Zbw:keepIn K (.ref ZfA)=true)
  (Zbx:nsIn K mainGlobals "best_ahead"=some (some (.ref Zdg))) (Zby:K.lookup Zdg=some ⟨ZpL,ZpM,.func (fnOf "best_ahead" "best_ahead" (defArgs s_best_ahead) (defBody s_best_ahead) (defScope s_best_ahead) .none ZpN ZpO ZpP ZpQ ZeR ZpR),ZpS⟩) (Zdh:codeIn K ZeR "best_ahead"=true) (Zbz:keepIn K (.ref Zdg)=true)
  (Zcm:ZeR=.ref Za5) (Zcn:K.lookup Za5=some ⟨ZpT,ZpU,.fields Zih,ZpV⟩) (Zco:Zih[11]?=some (.ref Za6)) (Za7:PySem.W.codeHdIn K Za5 Za6=true) (Zcp:K.lookup Za6=none) (Zcq:Za6∈ts)
  (Za8:nsIn K mainGlobals "best_behind"=some (some (.ref Zcr))) (Za9:K.lookup Zcr=some ⟨ZoT,ZoU,.func (fnOf "best_behind" "best_behind" (defArgs s_best_behind) (defBody s_best_behind) (defScope s_best_behind) .none ZoV ZoW ZoX ZoY Zea ZoZ),Zo0⟩) (Zcs:codeIn K Zea "best_behind"=true) (Zba:keepIn K (.ref Zcr)=true)
  (ZbW:Zea=.ref ZaM) (ZbX:K.lookup ZaM=some ⟨Zo1,Zo2,.fields ZhW,Zo3⟩) (ZbY:ZhW[11]?=some (.ref ZaN)) (ZaO:PySem.W.codeHdIn K ZaM ZaN=true) (ZbZ:K.lookup ZaN=none) (Zb0:ZaN∈ts)
  (Zgn:nsIn K mainGlobals "pair_at"=some (some (.ref ZiW))) (Zgo:K.lookup ZiW=some ⟨Zs6,Zs7,.func (fnOf "pair_at" "pair_at" (defArgs s_pair_at) (defBody s_pair_at) (defScope s_pair_at) .none Zs8 Zs9 Zta Ztb Zls Ztc),Ztd⟩) (Zgp:codeIn K Zls "pair_at"=true) (ZeK:keepIn K (.ref ZiW)=true)
  (Ze8:nsIn K mainGlobals "table_by"=some (some (.ref ZhX))) (Ze9:K.lookup ZhX=some ⟨ZsH,ZsI,.func (fnOf "table_by" "table_by" (defArgs s_table_by) (defBody s_table_by) (defScope s_table_by) .none ZsJ ZsK ZsL ZsM Zkz ZsN),ZsO⟩) (Zfa:codeIn K Zkz "table_by"=true) (Zdi:keepIn K (.ref ZhX)=true)
  (Zeb:nsIn K mainGlobals "places_by"=some (some (.ref ZgG))) (Zec:K.lookup ZgG=some ⟨Zrx,Zry,.func (fnOf "places_by" "places_by" (defArgs s_places_by) (defBody s_places_by) (defScope s_places_by) .none Zrz ZrA ZrB ZrC Zju ZrD),ZrE⟩) (Zed:codeIn K Zju "places_by"=true) (Zb7:keepIn K (.ref ZgG)=true)
  (Zee:nsIn K mainGlobals "places_in"=some (some (.ref ZgH))) (Zef:K.lookup ZgH=some ⟨ZrF,ZrG,.func (fnOf "places_in" "places_in" (defArgs s_places_in) (defBody s_places_in) (defScope s_places_in) .none ZrH ZrI ZrJ ZrK Zjv ZrL),ZrM⟩) (Zeg:codeIn K Zjv "places_in"=true) (Zb8:keepIn K (.ref ZgH)=true)
  (Zeh:nsIn K mainGlobals "_law_deal"=some (some (.ref ZgI))) (Zei:K.lookup ZgI=some ⟨ZrN,ZrO,.func (fnOf "_law_deal" "_law_deal" (defArgs s__law_deal) (defBody s__law_deal) (defScope s__law_deal) .none ZrP ZrQ ZrR ZrS Zjw ZrT),ZrU⟩) (Zej:codeIn K Zjw "_law_deal"=true) (Zb9:keepIn K (.ref ZgI)=true)
  (Zek:nsIn K mainGlobals "_law_take"=some (some (.ref ZgJ))) (Zel:K.lookup ZgJ=some ⟨ZrV,ZrW,.func (fnOf "_law_take" "_law_take" (defArgs s__law_take) (defBody s__law_take) (defScope s__law_take) .none ZrX ZrY ZrZ Zr0 Zjx Zr1),Zr2⟩) (Zem:codeIn K Zjx "_law_take"=true) (Zca:keepIn K (.ref ZgJ)=true)
  (Zdj:nsIn K mainGlobals "_law_whole"=some (some (.ref ZfB))) (Zdk:K.lookup ZfB=some ⟨ZpW,ZpX,.func (fnOf "_law_whole" "_law_whole" (defArgs s__law_whole) (defBody s__law_whole) (defScope s__law_whole) .none ZpY ZpZ Zp0 Zp1 Zii Zp2),Zp3⟩) (Zdl:codeIn K Zii "_law_whole"=true) (ZbA:keepIn K (.ref ZfB)=true)
  (Zfb:nsIn K mainGlobals "_law_row"=some (some (.ref ZhY))) (Zfc:K.lookup ZhY=some ⟨ZsP,ZsQ,.func (fnOf "_law_row" "_law_row" (defArgs s__law_row) (defBody s__law_row) (defScope s__law_row) .none ZsR ZsS ZsT ZsU ZkA ZsV),ZsW⟩) (Zfd:codeIn K ZkA "_law_row"=true) (Zdm:keepIn K (.ref ZhY)=true)
  (Zdn:nsIn K mainGlobals "_law_elder"=some (some (.ref ZfC))) (Zdo:K.lookup ZfC=some ⟨Zp4,Zp5,.func (fnOf "_law_elder" "_law_elder" (defArgs s__law_elder) (defBody s__law_elder) (defScope s__law_elder) .none Zp6 Zp7 Zp8 Zp9 Zij Zqa),Zqb⟩) (Zdp:codeIn K Zij "_law_elder"=true) (ZbB:keepIn K (.ref ZfC)=true)
  (Zen:nsIn K mainGlobals "_law_tree"=some (some (.ref ZgK))) (Zeo:K.lookup ZgK=some ⟨Zr3,Zr4,.func (fnOf "_law_tree" "_law_tree" (defArgs s__law_tree) (defBody s__law_tree) (defScope s__law_tree) .none Zr5 Zr6 Zr7 Zr8 Zjy Zr9),Zsa⟩) (Zep:codeIn K Zjy "_law_tree"=true) (Zcb:keepIn K (.ref ZgK)=true)
  (Zeq:nsIn K mainGlobals "_law_over"=some (some (.ref ZgL))) (Zer:K.lookup ZgL=some ⟨Zsb,Zsc,.func (fnOf "_law_over" "_law_over" (defArgs s__law_over) (defBody s__law_over) (defScope s__law_over) .none Zsd Zse Zsf Zsg Zjz Zsh),Zsi⟩) (Zes:codeIn K Zjz "_law_over"=true) (Zcc:keepIn K (.ref ZgL)=true)
  (Zdq:nsIn K mainGlobals "_law_alone"=some (some (.ref ZfD))) (Zdr:K.lookup ZfD=some ⟨Zqc,Zqd,.func (fnOf "_law_alone" "_law_alone" (defArgs s__law_alone) (defBody s__law_alone) (defScope s__law_alone) .none Zqe Zqf Zqg Zqh Zik Zqi),Zqj⟩) (Zds:codeIn K Zik "_law_alone"=true) (ZbC:keepIn K (.ref ZfD)=true)
  (Zct:nsIn K mainGlobals "_law_either"=some (some (.ref ZeS))) (Zcu:K.lookup ZeS=some ⟨Zo4,Zo5,.func (fnOf "_law_either" "_law_either" (defArgs s__law_either) (defBody s__law_either) (defScope s__law_either) .none Zo6 Zo7 Zo8 Zo9 ZhZ Zpa),Zpb⟩) (Zcv:codeIn K ZhZ "_law_either"=true) (Zbb:keepIn K (.ref ZeS)=true)
  (Zet:nsIn K mainGlobals "_law_pair"=some (some (.ref ZgM))) (Zeu:K.lookup ZgM=some ⟨Zsj,Zsk,.func (fnOf "_law_pair" "_law_pair" (defArgs s__law_pair) (defBody s__law_pair) (defScope s__law_pair) .none Zsl Zsm Zsn Zso ZjA Zsp),Zsq⟩) (Zev:codeIn K ZjA "_law_pair"=true) (Zcd:keepIn K (.ref ZgM)=true)
  (Zdt:nsIn K mainGlobals "_law_under"=some (some (.ref ZfE))) (Zdu:K.lookup ZfE=some ⟨Zqk,Zql,.func (fnOf "_law_under" "_law_under" (defArgs s__law_under) (defBody s__law_under) (defScope s__law_under) .none Zqm Zqn Zqo Zqp Zil Zqq),Zqr⟩) (Zdv:codeIn K Zil "_law_under"=true) (ZbD:keepIn K (.ref ZfE)=true)
  (Zew:nsIn K mainGlobals "_law_hand"=some (some (.ref ZgN))) (Zex:K.lookup ZgN=some ⟨Zsr,Zss,.func (fnOf "_law_hand" "_law_hand" (defArgs s__law_hand) (defBody s__law_hand) (defScope s__law_hand) .none Zst Zsu Zsv Zsw ZjB Zsx),Zsy⟩) (Zey:codeIn K ZjB "_law_hand"=true) (Zce:keepIn K (.ref ZgN)=true)
  (Zdw:nsIn K mainGlobals "_law_ruled"=some (some (.ref ZfF))) (Zdx:K.lookup ZfF=some ⟨Zqs,Zqt,.func (fnOf "_law_ruled" "_law_ruled" (defArgs s__law_ruled) (defBody s__law_ruled) (defScope s__law_ruled) .none Zqu Zqv Zqw Zqx Zim Zqy),Zqz⟩) (Zdy:codeIn K Zim "_law_ruled"=true) (ZbE:keepIn K (.ref ZfF)=true)
  (ZbF:nsIn K mainGlobals "_law_table"=some (some (.ref Zdz))) (ZbG:K.lookup Zdz=some ⟨ZqA,ZqB,.func (fnOf "_law_table" "_law_table" (defArgs s__law_table) (defBody s__law_table) (defScope s__law_table) .none ZqC ZqD ZqE ZqF ZeT ZqG),ZqH⟩) (ZdA:codeIn K ZeT "_law_table"=true) (ZbH:keepIn K (.ref Zdz)=true)
  (Zcw:ZeT=.ref Zbc) (Zcx:K.lookup Zbc=some ⟨ZqI,ZqJ,.fields Zin,ZqK⟩) (Zcy:Zin[11]?=some (.ref Zbd)) (Zbe:PySem.W.codeHdIn K Zbc Zbd=true) (Zcz:K.lookup Zbd=none) (ZcA:Zbd∈ts)
  (ZaP:nsIn K mainGlobals "_law_least_ones"=some (some (.ref Zcf))) (ZaQ:K.lookup Zcf=some ⟨Zlt,Zlu,.func (fnOf "_law_least_ones" "_law_least_ones" (defArgs s__law_least_ones) (defBody s__law_least_ones) (defScope s__law_least_ones) .none Zlv Zlw Zlx Zly Zfe Zlz),ZlA⟩) (ZaR:codeIn K Zfe "_law_least_ones"=true) (Zal:keepIn K (.ref Zcf)=true)
  (ZdB:nsIn K mainGlobals "_law_asked"=some (some (.ref ZfG))) (ZdC:K.lookup ZfG=some ⟨ZqL,ZqM,.func (fnOf "_law_asked" "_law_asked" (defArgs s__law_asked) (defBody s__law_asked) (defScope s__law_asked) .none ZqN ZqO ZqP ZqQ Zio ZqR),ZqS⟩) (ZdD:codeIn K Zio "_law_asked"=true) (ZbI:keepIn K (.ref ZfG)=true)
  (Zbn:nsIn K mainGlobals "_law_holds_so"=some (some (.ref ZdJ))) (Zbo:K.lookup ZdJ=some ⟨Znk,Znl,.func (fnOf "_law_holds_so" "_law_holds_so" (defArgs s__law_holds_so) (defBody s__law_holds_so) (defScope s__law_holds_so) .none Znm Znn Zno Znp Zgq Znq),Znr⟩) (Zbp:codeIn K Zgq "_law_holds_so"=true) (ZaA:keepIn K (.ref ZdJ)=true)
  (ZdE:nsIn K mainGlobals "_law_right"=some (some (.ref ZfH))) (ZdF:K.lookup ZfH=some ⟨ZqT,ZqU,.func (fnOf "_law_right" "_law_right" (defArgs s__law_right) (defBody s__law_right) (defScope s__law_right) .none ZqV ZqW ZqX ZqY Ziq ZqZ),Zq0⟩) (ZdG:codeIn K Ziq "_law_right"=true) (ZbJ:keepIn K (.ref ZfH)=true)
  (ZaX:nsIn K mainGlobals "_law_stretches"=some (some (.ref ZcJ))) (ZaY:K.lookup ZcJ=some ⟨Zmf,Zmg,.func (fnOf "_law_stretches" "_law_stretches" (defArgs s__law_stretches) (defBody s__law_stretches) (defScope s__law_stretches) .none Zmh Zmi Zmj Zmk ZfI Zml),Zmm⟩) (ZaZ:codeIn K ZfI "_law_stretches"=true) (Zat:keepIn K (.ref ZcJ)=true)
  (Zpc:nsIn K mainGlobals "law"=some (some (.ref ZsX))) (Zpd:K.lookup ZsX=some ⟨ZtA,ZtB,.func (fnOf "law" "law" (defArgs s_law) (defBody s_law) (defScope s_law) .none Zte Ztf Ztg Zth Zpe Zti),ZtC⟩) (Zpf:codeIn K Zpe "law"=true) (Zpg:keepIn K (.ref ZsX)=true)
  {C_DipError:Addr} (n_DipError:nsIn K mainGlobals "DipError"=some (some (.ref C_DipError))) (x_DipError:PySem.W.excIn K C_DipError bmV newV=true) (d_DipError:PySem.W.hasDictIn K C_DipError=true) (y_DipError:PySem.W.typeIn K (.ref C_DipError)=some (.type "type"))
  {C_Unlike:Addr} (n_Unlike:nsIn K mainGlobals "Unlike"=some (some (.ref C_Unlike))) (x_Unlike:PySem.W.excIn K C_Unlike bmV newV=true) (d_Unlike:PySem.W.hasDictIn K C_Unlike=true) (y_Unlike:PySem.W.typeIn K (.ref C_Unlike)=some (.type "type"))
  {C_Empty:Addr} (n_Empty:nsIn K mainGlobals "Empty"=some (some (.ref C_Empty))) (x_Empty:PySem.W.excIn K C_Empty bmV newV=true) (d_Empty:PySem.W.hasDictIn K C_Empty=true) (y_Empty:PySem.W.typeIn K (.ref C_Empty)=some (.type "type"))
  {C_TooMany:Addr} (n_TooMany:nsIn K mainGlobals "TooMany"=some (some (.ref C_TooMany))) (x_TooMany:PySem.W.excIn K C_TooMany bmV newV=true) (d_TooMany:PySem.W.hasDictIn K C_TooMany=true) (y_TooMany:PySem.W.typeIn K (.ref C_TooMany)=some (.type "type"))
  {C_NoTree:Addr} (n_NoTree:nsIn K mainGlobals "NoTree"=some (some (.ref C_NoTree))) (x_NoTree:PySem.W.excIn K C_NoTree bmV newV=true) (d_NoTree:PySem.W.hasDictIn K C_NoTree=true) (y_NoTree:PySem.W.typeIn K (.ref C_NoTree)=some (.type "type"))
  {C_NoTelling:Addr} (n_NoTelling:nsIn K mainGlobals "NoTelling"=some (some (.ref C_NoTelling))) (x_NoTelling:PySem.W.excIn K C_NoTelling bmV newV=true) (d_NoTelling:PySem.W.hasDictIn K C_NoTelling=true) (y_NoTelling:PySem.W.typeIn K (.ref C_NoTelling)=some (.type "type"))
  {C_NoPlace:Addr} (n_NoPlace:nsIn K mainGlobals "NoPlace"=some (some (.ref C_NoPlace))) (x_NoPlace:PySem.W.excIn K C_NoPlace bmV newV=true) (d_NoPlace:PySem.W.hasDictIn K C_NoPlace=true) (y_NoPlace:PySem.W.typeIn K (.ref C_NoPlace)=some (.type "type"))
  {C_NoNumber:Addr} (n_NoNumber:nsIn K mainGlobals "NoNumber"=some (some (.ref C_NoNumber))) (x_NoNumber:PySem.W.excIn K C_NoNumber bmV newV=true) (d_NoNumber:PySem.W.hasDictIn K C_NoNumber=true) (y_NoNumber:PySem.W.typeIn K (.ref C_NoNumber)=some (.type "type"))
  {C_NoPast:Addr} (n_NoPast:nsIn K mainGlobals "NoPast"=some (some (.ref C_NoPast))) (x_NoPast:PySem.W.excIn K C_NoPast bmV newV=true) (d_NoPast:PySem.W.hasDictIn K C_NoPast=true) (y_NoPast:PySem.W.typeIn K (.ref C_NoPast)=some (.type "type"))
  {C_NoText:Addr} (n_NoText:nsIn K mainGlobals "NoText"=some (some (.ref C_NoText))) (x_NoText:PySem.W.excIn K C_NoText bmV newV=true) (d_NoText:PySem.W.hasDictIn K C_NoText=true) (y_NoText:PySem.W.typeIn K (.ref C_NoText)=some (.type "type"))
  {C_NoLine:Addr} (n_NoLine:nsIn K mainGlobals "NoLine"=some (some (.ref C_NoLine))) (x_NoLine:PySem.W.excIn K C_NoLine bmV newV=true) (d_NoLine:PySem.W.hasDictIn K C_NoLine=true) (y_NoLine:PySem.W.typeIn K (.ref C_NoLine)=some (.type "type"))
  (z1_NoPlace:PySem.W.hasDictIn K C_NoPlace=true) (z2_NoPlace:PySem.W.findIn K (.ref C_NoPlace) "__getattribute__"=some (some (.builtin "BaseException.__getattribute__"))) (z3_NoPlace:PySem.W.findIn K (.ref C_NoPlace) "__getattr__"=some none) (z4_NoPlace:PySem.W.findIn K (.ref C_NoPlace) "__class__"=some (some (.builtin "object.__class__"))) (z5_NoPlace:PySem.W.specialIn K (.builtin "object.__class__") "__get__"=some (some (.builtin "getset_descriptor.__get__"))) (z6_NoPlace:PySem.W.takesIn K (.builtin "object.__class__")=some true) (z7_NoPlace:PySem.W.mroIn K C_NoPlace (.type "object")=some true) (z8_NoPlace:PySem.W.mroIn K C_NoPlace (.type "BaseException")=some true)
  (u_NoPlace:PySem.W.mroIn K C_NoPlace (.ref C_DipError)=some true)
  (i_NoPlace_DipError:PySem.W.subIn K (.ref C_NoPlace) (.ref C_DipError)=some true) (ne_NoPlace_DipError:C_NoPlace≠C_DipError)
  (i_NoPlace_Unlike:PySem.W.subIn K (.ref C_NoPlace) (.ref C_Unlike)=some false) (ne_NoPlace_Unlike:C_NoPlace≠C_Unlike)
  (i_NoPlace_Empty:PySem.W.subIn K (.ref C_NoPlace) (.ref C_Empty)=some false) (ne_NoPlace_Empty:C_NoPlace≠C_Empty)
  (i_NoPlace_TooMany:PySem.W.subIn K (.ref C_NoPlace) (.ref C_TooMany)=some false) (ne_NoPlace_TooMany:C_NoPlace≠C_TooMany)
  (i_NoPlace_NoTree:PySem.W.subIn K (.ref C_NoPlace) (.ref C_NoTree)=some false) (ne_NoPlace_NoTree:C_NoPlace≠C_NoTree)
  (i_NoPlace_NoTelling:PySem.W.subIn K (.ref C_NoPlace) (.ref C_NoTelling)=some false) (ne_NoPlace_NoTelling:C_NoPlace≠C_NoTelling)
  (i_NoPlace_NoNumber:PySem.W.subIn K (.ref C_NoPlace) (.ref C_NoNumber)=some false) (ne_NoPlace_NoNumber:C_NoPlace≠C_NoNumber)
  (i_NoPlace_NoPast:PySem.W.subIn K (.ref C_NoPlace) (.ref C_NoPast)=some false) (ne_NoPlace_NoPast:C_NoPlace≠C_NoPast)
  (i_NoPlace_NoText:PySem.W.subIn K (.ref C_NoPlace) (.ref C_NoText)=some false) (ne_NoPlace_NoText:C_NoPlace≠C_NoText)
  (i_NoPlace_NoLine:PySem.W.subIn K (.ref C_NoPlace) (.ref C_NoLine)=some false) (ne_NoPlace_NoLine:C_NoPlace≠C_NoLine)
  (i_NoPlace_V:PySem.W.subIn K (.ref C_NoPlace) (.type "ValueError")=some true)
  (b_ValueError:nsIn K mainGlobals "ValueError"=some none)
  (b_all:nsIn K mainGlobals "all"=some none)
  (b_any:nsIn K mainGlobals "any"=some none)
  (b_bool:nsIn K mainGlobals "bool"=some none)
  (b_enumerate:nsIn K mainGlobals "enumerate"=some none)
  (b_int:nsIn K mainGlobals "int"=some none)
  (b_isinstance:nsIn K mainGlobals "isinstance"=some none)
  (b_len:nsIn K mainGlobals "len"=some none)
  (b_list:nsIn K mainGlobals "list"=some none)
  (b_max:nsIn K mainGlobals "max"=some none)
  (b_min:nsIn K mainGlobals "min"=some none)
  (b_range:nsIn K mainGlobals "range"=some none)
  (b_set:nsIn K mainGlobals "set"=some none)
  (b_sorted:nsIn K mainGlobals "sorted"=some none)
  (b_tuple:nsIn K mainGlobals "tuple"=some none)
  {t_MOST_HELD:Tok} (m_MOST_HELD:nsIn K mainGlobals "MOST_HELD"=some (some (.int 6 t_MOST_HELD)))
  {t_MOST_HOLDING:Tok} (m_MOST_HOLDING:nsIn K mainGlobals "MOST_HOLDING"=some (some (.int 16 t_MOST_HOLDING)))
  (nd:[Za3,Za6,ZaN,Zbd].Nodup)
  : ∃fd:FuncData,(∀(s:Shared) (v:Value),BindsTo s fd ⟨[v],[]⟩ [("script",v)])/\(∀p∈tabsL K mg,p.1∈ts/\K.lookup p.1=none/\∃c,PySem.W.codeHdIn K c p.1=true)/\((tabsL K mg).map (·.1)).Nodup/\∀base:Heap,K.In base->base.Ns mainGlobals mg->BM mg base->FnOk l.prog w K mg base (CXE l.prog w) 10 fa fd ["script"] (spLaw K mg):=by
 have e:=hfa.symm.trans (mg_of X G Zpc)
 cases e
 have q_DipError:clsAt mg "DipError"=C_DipError:=by unfold clsAt;rw[mg_of X G n_DipError]
 have q_Unlike:clsAt mg "Unlike"=C_Unlike:=by unfold clsAt;rw[mg_of X G n_Unlike]
 have q_Empty:clsAt mg "Empty"=C_Empty:=by unfold clsAt;rw[mg_of X G n_Empty]
 have q_TooMany:clsAt mg "TooMany"=C_TooMany:=by unfold clsAt;rw[mg_of X G n_TooMany]
 have q_NoTree:clsAt mg "NoTree"=C_NoTree:=by unfold clsAt;rw[mg_of X G n_NoTree]
 have q_NoTelling:clsAt mg "NoTelling"=C_NoTelling:=by unfold clsAt;rw[mg_of X G n_NoTelling]
 have q_NoPlace:clsAt mg "NoPlace"=C_NoPlace:=by unfold clsAt;rw[mg_of X G n_NoPlace]
 have q_NoNumber:clsAt mg "NoNumber"=C_NoNumber:=by unfold clsAt;rw[mg_of X G n_NoNumber]
 have q_NoPast:clsAt mg "NoPast"=C_NoPast:=by unfold clsAt;rw[mg_of X G n_NoPast]
 have q_NoText:clsAt mg "NoText"=C_NoText:=by unfold clsAt;rw[mg_of X G n_NoText]
 have q_NoLine:clsAt mg "NoLine"=C_NoLine:=by unfold clsAt;rw[mg_of X G n_NoLine]
 have q_MOST_HELD:tokAt mg "MOST_HELD"=t_MOST_HELD:=by unfold tokAt;rw[mg_of X G m_MOST_HELD]
 have q_MOST_HOLDING:tokAt mg "MOST_HOLDING"=t_MOST_HOLDING:=by unfold tokAt;rw[mg_of X G m_MOST_HOLDING]
 have T:Txt K mg:={
  b_ValueError:=mg_none_of X G b_ValueError
  b_all:=mg_none_of X G b_all
  b_any:=mg_none_of X G b_any
  b_bool:=mg_none_of X G b_bool
  b_enumerate:=mg_none_of X G b_enumerate
  b_int:=mg_none_of X G b_int
  b_isinstance:=mg_none_of X G b_isinstance
  b_len:=mg_none_of X G b_len
  b_list:=mg_none_of X G b_list
  b_max:=mg_none_of X G b_max
  b_min:=mg_none_of X G b_min
  b_range:=mg_none_of X G b_range
  b_set:=mg_none_of X G b_set
  b_sorted:=mg_none_of X G b_sorted
  b_tuple:=mg_none_of X G b_tuple
  c_DipError:=by rw[q_DipError];exact mg_of X G n_DipError
  x_DipError:=by rw[q_DipError];exact x_DipError
  c_Unlike:=by rw[q_Unlike];exact mg_of X G n_Unlike
  x_Unlike:=by rw[q_Unlike];exact x_Unlike
  c_Empty:=by rw[q_Empty];exact mg_of X G n_Empty
  x_Empty:=by rw[q_Empty];exact x_Empty
  c_TooMany:=by rw[q_TooMany];exact mg_of X G n_TooMany
  x_TooMany:=by rw[q_TooMany];exact x_TooMany
  c_NoTree:=by rw[q_NoTree];exact mg_of X G n_NoTree
  x_NoTree:=by rw[q_NoTree];exact x_NoTree
  c_NoTelling:=by rw[q_NoTelling];exact mg_of X G n_NoTelling
  x_NoTelling:=by rw[q_NoTelling];exact x_NoTelling
  c_NoPlace:=by rw[q_NoPlace];exact mg_of X G n_NoPlace
  x_NoPlace:=by rw[q_NoPlace];exact x_NoPlace
  c_NoNumber:=by rw[q_NoNumber];exact mg_of X G n_NoNumber
  x_NoNumber:=by rw[q_NoNumber];exact x_NoNumber
  c_NoPast:=by rw[q_NoPast];exact mg_of X G n_NoPast
  x_NoPast:=by rw[q_NoPast];exact x_NoPast
  c_NoText:=by rw[q_NoText];exact mg_of X G n_NoText
  x_NoText:=by rw[q_NoText];exact x_NoText
  c_NoLine:=by rw[q_NoLine];exact mg_of X G n_NoLine
  x_NoLine:=by rw[q_NoLine];exact x_NoLine
  ex_NoPlace:=by rw[q_NoPlace];exact⟨z1_NoPlace,z2_NoPlace,z3_NoPlace,z4_NoPlace,z5_NoPlace,z6_NoPlace,z7_NoPlace,z8_NoPlace⟩
  up_NoPlace:=by rw[q_NoPlace,q_DipError];exact u_NoPlace
  is_NoPlace_DipError:=by rw[q_NoPlace,q_DipError];exact Za0 ne_NoPlace_DipError d_DipError y_DipError i_NoPlace_DipError
  is_NoPlace_Unlike:=by rw[q_NoPlace,q_Unlike];exact Za0 ne_NoPlace_Unlike d_Unlike y_Unlike i_NoPlace_Unlike
  is_NoPlace_Empty:=by rw[q_NoPlace,q_Empty];exact Za0 ne_NoPlace_Empty d_Empty y_Empty i_NoPlace_Empty
  is_NoPlace_TooMany:=by rw[q_NoPlace,q_TooMany];exact Za0 ne_NoPlace_TooMany d_TooMany y_TooMany i_NoPlace_TooMany
  is_NoPlace_NoTree:=by rw[q_NoPlace,q_NoTree];exact Za0 ne_NoPlace_NoTree d_NoTree y_NoTree i_NoPlace_NoTree
  is_NoPlace_NoTelling:=by rw[q_NoPlace,q_NoTelling];exact Za0 ne_NoPlace_NoTelling d_NoTelling y_NoTelling i_NoPlace_NoTelling
  is_NoPlace_NoPlace:=by rw[q_NoPlace];exact Zn3
  is_NoPlace_NoNumber:=by rw[q_NoPlace,q_NoNumber];exact Za0 ne_NoPlace_NoNumber d_NoNumber y_NoNumber i_NoPlace_NoNumber
  is_NoPlace_NoPast:=by rw[q_NoPlace,q_NoPast];exact Za0 ne_NoPlace_NoPast d_NoPast y_NoPast i_NoPlace_NoPast
  is_NoPlace_NoText:=by rw[q_NoPlace,q_NoText];exact Za0 ne_NoPlace_NoText d_NoText y_NoText i_NoPlace_NoText
  is_NoPlace_NoLine:=by rw[q_NoPlace,q_NoLine];exact Za0 ne_NoPlace_NoLine d_NoLine y_NoLine i_NoPlace_NoLine
  is_NoPlace_V:=by rw[q_NoPlace];exact kit_V i_NoPlace_V
  m_MOST_HELD:=by rw[q_MOST_HELD];exact mg_of X G m_MOST_HELD
  m_MOST_HOLDING:=by rw[q_MOST_HOLDING];exact mg_of X G m_MOST_HOLDING
 }
 subst Zch
 have Zaf:=Zhb (mg_of X G Zbt) Zbu rfl Zci Zcj
 have ZjC:Zjs K mg "from_below" Zdb:=⟨Za2,Zaf.2,by rw[Zaf.1];exact Za4⟩
 subst Zcm
 have Zag:=Zhb (mg_of X G Zbx) Zby rfl Zcn Zco
 have ZjD:Zjs K mg "best_ahead" Zdg:=⟨Za5,Zag.2,by rw[Zag.1];exact Za7⟩
 subst ZbW
 have Z5:=Zhb (mg_of X G Za8) Za9 rfl ZbX ZbY
 have Zir:Zjs K mg "best_behind" Zcr:=⟨ZaM,Z5.2,by rw[Z5.1];exact ZaO⟩
 subst Zcw
 have Zah:=Zhb (mg_of X G ZbF) ZbG rfl Zcx Zcy
 have ZjE:Zjs K mg "_law_table" Zdz:=⟨Zbc,Zah.2,by rw[Zah.1];exact Zbe⟩
 have ZaS:=Zrg (st:=s_need_numbers) ZbR ZbS Zan
 have Zh0:=ZaS.binds (ps:=["row","fewest"]) (ds:=[]) ZaK λ_ _ _ _ _ _ us hl=>by obtain⟨x0,u0,rfl,h0⟩:=le1 (show us.length=2 by simpa using hl);obtain⟨x1,u1,rfl,h1⟩:=le1 h0;obtain rfl:=le0 h1;exact⟨_,rfl,rfl⟩
 have Zg0:=ZaS.binds (ps:=["row","fewest"]) (ds:=[.int 1 ZdI]) ZaK λ_ _ _ _ _ _ us hl=>by obtain⟨x0,u0,rfl,h0⟩:=le1 (show us.length=1 from Nat.succ.inj (YQ.symm.trans hl));obtain rfl:=le0 h0;exact⟨_,rfl,rfl⟩
 have ZfJ:=ZE (st:=s_is_stretch) Zc8 Zc9 Zbs
 have ZjF:=ZfJ.binds (ps:=["many","a","b"]) λ_ _ _ _ _ _ us hl=>by obtain⟨x0,u0,rfl,h0⟩:=le1 hl;obtain⟨x1,u1,rfl,h1⟩:=le1 h0;obtain⟨x2,u2,rfl,h2⟩:=le1 h1;obtain rfl:=le0 h2;exact rfl
 have Zez:=ZE (st:=s_need_stretch) ZbU ZbV ZaL
 have Zh1:=Zez.binds (ps:=["many","a","b"]) λ_ _ _ _ _ _ us hl=>by obtain⟨x0,u0,rfl,h0⟩:=le1 hl;obtain⟨x1,u1,rfl,h1⟩:=le1 h0;obtain⟨x2,u2,rfl,h2⟩:=le1 h1;obtain rfl:=le0 h2;exact rfl
 have ZkB:=ZE (st:=s_settle) ZhQ ZhR Zfy
 have Zph:=ZkB.binds (ps:=["elders","spine","place","keep"]) λ_ _ _ _ _ _ us hl=>by obtain⟨x0,u0,rfl,h0⟩:=le1 hl;obtain⟨x1,u1,rfl,h1⟩:=le1 h0;obtain⟨x2,u2,rfl,h2⟩:=le1 h1;obtain⟨x3,u3,rfl,h3⟩:=le1 h2;obtain rfl:=le0 h3;exact rfl
 have ZiX:=ZE (st:=s_tree_of) Zgl Zgm ZeJ
 have Zns:=ZiX.binds (ps:=["row"]) λ_ _ _ _ _ _ us hl=>by obtain⟨x0,u0,rfl,h0⟩:=le1 hl;obtain rfl:=le0 h0;exact rfl
 have ZkC:=ZE (st:=s_way_up) ZhT ZhU Zfz
 have Zpi:=ZkC.binds (ps:=["tree","place"]) λ_ _ _ _ _ _ us hl=>by rfl'
 have Zh2:=ZE (st:=s_young_of) Ze6 Ze7 Zda
 have ZlB:=Zh2.binds (ps:=["tree"]) λ_ _ _ _ _ _ us hl=>by obtain⟨x0,u0,rfl,h0⟩:=le1 hl;obtain rfl:=le0 h0;exact rfl
 have ZfK:=ZE (st:=s_from_below) Zbu Zdc Zbv
 have ZjG:=ZfK.binds (ps:=["tree"]) λ_ _ _ _ _ _ us hl=>by obtain⟨x0,u0,rfl,h0⟩:=le1 hl;obtain rfl:=le0 h0;exact rfl
 have ZfL:=ZE (st:=s_need_loose) Zde Zdf Zbw
 have ZjH:=ZfL.binds (ps:=["row","text"]) λ_ _ _ _ _ _ us hl=>by rfl'
 have ZfM:=ZE (st:=s_best_ahead) Zby Zdh Zbz
 have ZjI:=ZfM.binds (ps:=["text","pairs","i"]) λ_ _ _ _ _ _ us hl=>by obtain⟨x0,u0,rfl,h0⟩:=le1 hl;obtain⟨x1,u1,rfl,h1⟩:=le1 h0;obtain⟨x2,u2,rfl,h2⟩:=le1 h1;obtain rfl:=le0 h2;exact rfl
 have ZeU:=ZE (st:=s_best_behind) Za9 Zcs Zba
 have Zis:=ZeU.binds (ps:=["text","pairs","i"]) λ_ _ _ _ _ _ us hl=>by obtain⟨x0,u0,rfl,h0⟩:=le1 hl;obtain⟨x1,u1,rfl,h1⟩:=le1 h0;obtain⟨x2,u2,rfl,h2⟩:=le1 h1;obtain rfl:=le0 h2;exact rfl
 have ZiY:=ZE (st:=s_pair_at) Zgo Zgp ZeK
 have Znt:=ZiY.binds (ps:=["text","table","young","i"]) λ_ _ _ _ _ _ us hl=>by obtain⟨x0,u0,rfl,h0⟩:=le1 hl;obtain⟨x1,u1,rfl,h1⟩:=le1 h0;obtain⟨x2,u2,rfl,h2⟩:=le1 h1;obtain⟨x3,u3,rfl,h3⟩:=le1 h2;obtain rfl:=le0 h3;exact rfl
 have Zh3:=ZE (st:=s_table_by) Ze9 Zfa Zdi
 have ZlC:=Zh3.binds (ps:=["tree","text"]) λ_ _ _ _ _ _ us hl=>by rfl'
 have ZgO:=ZE (st:=s_places_by) Zec Zed Zb7
 have ZkD:=ZgO.binds (ps:=["tree","text","table","i"]) λ_ _ _ _ _ _ us hl=>by obtain⟨x0,u0,rfl,h0⟩:=le1 hl;obtain⟨x1,u1,rfl,h1⟩:=le1 h0;obtain⟨x2,u2,rfl,h2⟩:=le1 h1;obtain⟨x3,u3,rfl,h3⟩:=le1 h2;obtain rfl:=le0 h3;exact rfl
 have ZgP:=ZE (st:=s_places_in) Zef Zeg Zb8
 have ZkE:=ZgP.binds (ps:=["row","text","a","b"]) λ_ _ _ _ _ _ us hl=>by obtain⟨x0,u0,rfl,h0⟩:=le1 hl;obtain⟨x1,u1,rfl,h1⟩:=le1 h0;obtain⟨x2,u2,rfl,h2⟩:=le1 h1;obtain⟨x3,u3,rfl,h3⟩:=le1 h2;obtain rfl:=le0 h3;exact rfl
 have ZgQ:=ZE (st:=s__law_deal) Zei Zej Zb9
 have ZkF:=ZgQ.binds (ps:=["script","k"]) λ_ _ _ _ _ _ us hl=>by rfl'
 have ZgR:=ZE (st:=s__law_take) Zel Zem Zca
 have ZkG:=ZgR.binds (ps:=["pot","many"]) λ_ _ _ _ _ _ us hl=>by rfl'
 have ZfN:=ZE (st:=s__law_whole) Zdk Zdl ZbA
 have ZjJ:=ZfN.binds (ps:=["thing"]) λ_ _ _ _ _ _ us hl=>by obtain⟨x0,u0,rfl,h0⟩:=le1 hl;obtain rfl:=le0 h0;exact rfl
 have Zh4:=ZE (st:=s__law_row) Zfc Zfd Zdm
 have ZlD:=Zh4.binds (ps:=["pot","most"]) λ_ _ _ _ _ _ us hl=>by rfl'
 have ZfO:=ZE (st:=s__law_elder) Zdo Zdp ZbB
 have ZjK:=ZfO.binds (ps:=["row","place"]) λ_ _ _ _ _ _ us hl=>by rfl'
 have ZgS:=ZE (st:=s__law_tree) Zeo Zep Zcb
 have ZkH:=ZgS.binds (ps:=["row"]) λ_ _ _ _ _ _ us hl=>by obtain⟨x0,u0,rfl,h0⟩:=le1 hl;obtain rfl:=le0 h0;exact rfl
 have ZgT:=ZE (st:=s__law_over) Zer Zes Zcc
 have ZkI:=ZgT.binds (ps:=["tree","place"]) λ_ _ _ _ _ _ us hl=>by rfl'
 have ZfP:=ZE (st:=s__law_alone) Zdr Zds ZbC
 have ZjL:=ZfP.binds (ps:=["e","place"]) λ_ _ _ _ _ _ us hl=>by rfl'
 have ZeV:=ZE (st:=s__law_either) Zcu Zcv Zbb
 have Zit:=ZeV.binds (ps:=["pot","some"]) λ_ _ _ _ _ _ us hl=>by rfl'
 have ZgU:=ZE (st:=s__law_pair) Zeu Zev Zcd
 have ZkJ:=ZgU.binds (ps:=["pot","most","wide"]) λ_ _ _ _ _ _ us hl=>by obtain⟨x0,u0,rfl,h0⟩:=le1 hl;obtain⟨x1,u1,rfl,h1⟩:=le1 h0;obtain⟨x2,u2,rfl,h2⟩:=le1 h1;obtain rfl:=le0 h2;exact rfl
 have ZfQ:=ZE (st:=s__law_under) Zdu Zdv ZbD
 have ZjM:=ZfQ.binds (ps:=["tree","place"]) λ_ _ _ _ _ _ us hl=>by rfl'
 have ZgV:=ZE (st:=s__law_hand) Zex Zey Zce
 have ZkK:=ZgV.binds (ps:=["tree","place","later"]) λ_ _ _ _ _ _ us hl=>by obtain⟨x0,u0,rfl,h0⟩:=le1 hl;obtain⟨x1,u1,rfl,h1⟩:=le1 h0;obtain⟨x2,u2,rfl,h2⟩:=le1 h1;obtain rfl:=le0 h2;exact rfl
 have ZfR:=ZE (st:=s__law_ruled) Zdx Zdy ZbE
 have ZjN:=ZfR.binds (ps:=["tree","text","table","place","at"]) λ_ _ _ _ _ _ us hl=>by obtain⟨x0,u0,rfl,h0⟩:=le1 hl;obtain⟨x1,u1,rfl,h1⟩:=le1 h0;obtain⟨x2,u2,rfl,h2⟩:=le1 h1;obtain⟨x3,u3,rfl,h3⟩:=le1 h2;obtain⟨x4,u4,rfl,h4⟩:=le1 h3;obtain rfl:=le0 h4;exact rfl
 have ZfS:=ZE (st:=s__law_table) ZbG ZdA ZbH
 have ZjO:=ZfS.binds (ps:=["row","text"]) λ_ _ _ _ _ _ us hl=>by rfl'
 have Zcg:=ZE (st:=s__law_least_ones) ZaQ ZaR Zal
 have ZfT:=Zcg.binds (ps:=["pairs"]) λ_ _ _ _ _ _ us hl=>by obtain⟨x0,u0,rfl,h0⟩:=le1 hl;obtain rfl:=le0 h0;exact rfl
 have ZfU:=ZE (st:=s__law_asked) ZdC ZdD ZbI
 have ZjP:=ZfU.binds (ps:=["row","text","a","b"]) λ_ _ _ _ _ _ us hl=>by obtain⟨x0,u0,rfl,h0⟩:=le1 hl;obtain⟨x1,u1,rfl,h1⟩:=le1 h0;obtain⟨x2,u2,rfl,h2⟩:=le1 h1;obtain⟨x3,u3,rfl,h3⟩:=le1 h2;obtain rfl:=le0 h3;exact rfl
 have ZdK:=ZE (st:=s__law_holds_so) Zbo Zbp ZaA
 have Zg1:=ZdK.binds (ps:=["row","text","a","b","told"]) λ_ _ _ _ _ _ us hl=>by obtain⟨x0,u0,rfl,h0⟩:=le1 hl;obtain⟨x1,u1,rfl,h1⟩:=le1 h0;obtain⟨x2,u2,rfl,h2⟩:=le1 h1;obtain⟨x3,u3,rfl,h3⟩:=le1 h2;obtain⟨x4,u4,rfl,h4⟩:=le1 h3;obtain rfl:=le0 h4;exact rfl
 have ZfV:=ZE (st:=s__law_right) ZdF ZdG ZbJ
 have ZjQ:=ZfV.binds (ps:=["row","text","pairs","a","b"]) λ_ _ _ _ _ _ us hl=>by obtain⟨x0,u0,rfl,h0⟩:=le1 hl;obtain⟨x1,u1,rfl,h1⟩:=le1 h0;obtain⟨x2,u2,rfl,h2⟩:=le1 h1;obtain⟨x3,u3,rfl,h3⟩:=le1 h2;obtain⟨x4,u4,rfl,h4⟩:=le1 h3;obtain rfl:=le0 h4;exact rfl
 have ZcK:=ZE (st:=s__law_stretches) ZaY ZaZ Zat
 have Zgr:=ZcK.binds (ps:=["pot","text","pairs"]) λ_ _ _ _ _ _ us hl=>by obtain⟨x0,u0,rfl,h0⟩:=le1 hl;obtain⟨x1,u1,rfl,h1⟩:=le1 h0;obtain⟨x2,u2,rfl,h2⟩:=le1 h1;obtain rfl:=le0 h2;exact rfl
 have Ztz:=ZE (st:=s_law) Zpd Zpf Zpg
 refine⟨fnOf "law" "law" (defArgs s_law) (defBody s_law) (defScope s_law) .none Zte Ztf Ztg Zth Zpe Zti,λs v=>.of_eq rfl,?tb,?nd,λbase _ _ B=>?_⟩
 case tb =>
  intro p hp
  unfold tabsL at hp
  simp only[Yi,List.not_mem_nil,or_false]at hp
  rcases hp with rfl|rfl|rfl|rfl
  .exact⟨by rw[Zaf.1];exact Zcl,by rw[Zaf.1];exact Zck,Za2,by rw[Zaf.1];exact Za4⟩
  .exact⟨by rw[Zag.1];exact Zcq,by rw[Zag.1];exact Zcp,Za5,by rw[Zag.1];exact Za7⟩
  .exact⟨by rw[Z5.1];exact Zb0,by rw[Z5.1];exact ZbZ,ZaM,by rw[Z5.1];exact ZaO⟩
  .exact⟨by rw[Zah.1];exact ZcA,by rw[Zah.1];exact Zcz,Zbc,by rw[Zah.1];exact Zbe⟩
 case nd =>
  unfold tabsL
  simp only[YJ,List.map_nil]
  rw[Zaf.1,Zag.1,Z5.1,Zah.1]
  exact nd
 have Zd6:Callee l.prog w K mg base "_law_deal" 1 ["script","k"] (sp__law_deal K mg):=⟨_,_,mg_of X G Zeh,Zb9,ZkF,ok__law_deal ZgQ T⟩
 have Zo:Callee l.prog w K mg base "_law_take" 1 ["pot","many"] (sp__law_take K mg):=⟨_,_,mg_of X G Zek,Zca,ZkG,ok__law_take ZgR T⟩
 have ZcW:Callee l.prog w K mg base "_law_elder" 1 ["row","place"] (sp__law_elder K mg):=⟨_,_,mg_of X G Zdn,ZbB,ZjK,ok__law_elder ZfO T⟩
 have ZR:Callee l.prog w K mg base "_law_tree" 2 ["row"] (sp__law_tree K mg):=⟨_,_,mg_of X G Zen,Zcb,ZkH,ok__law_tree ZgS ZcW T⟩
 have Za1:Callee l.prog w K mg base "_law_either" 2 ["pot","some"] (sp__law_either K mg):=⟨_,_,mg_of X G Zct,Zbb,Zit,ok__law_either ZeV Zo T⟩
 have ZcZ:Callee l.prog w K mg base "_law_row" 2 ["pot","most"] (sp__law_row K mg):=⟨_,_,mg_of X G Zfb,Zdm,ZlD,ok__law_row Zh4 Zo T⟩
 have Zd7:Callee l.prog w K mg base "_law_pair" 3 ["pot","most","wide"] (sp__law_pair K mg):=⟨_,_,mg_of X G Zet,Zcd,ZkJ,ok__law_pair ZgU Zo ZcZ T⟩
 have Zd3:Callee l.prog w K mg base "_law_over" 1 ["tree","place"] (sp__law_over K mg):=⟨_,_,mg_of X G Zeq,Zcc,ZkI,ok__law_over ZgT T⟩
 have ZcX:Callee l.prog w K mg base "_law_under" 2 ["tree","place"] (sp__law_under K mg):=⟨_,_,mg_of X G Zdt,ZbD,ZjM,ok__law_under ZfQ Zd3 T⟩
 have Zb6:Callee l.prog w K mg base "_law_hand" 1 ["tree","place","later"] (sp__law_hand K mg):=⟨_,_,mg_of X G Zew,Zce,ZkK,ok__law_hand ZgV T⟩
 have ZcY:Callee l.prog w K mg base "_law_ruled" 2 ["tree","text","table","place","at"] (sp__law_ruled K mg):=⟨_,_,mg_of X G Zdw,ZbE,ZjN,ok__law_ruled ZfR Zb6 T⟩
 have Zc5:Callee l.prog w K mg base "_law_table" 6 ["row","text"] (sp__law_table K mg):=⟨_,_,mg_of X G ZbF,ZbH,ZjO,ok__law_table ZfS ZR ZcX ZcY ZjE B T⟩
 have Zc3:Callee l.prog w K mg base "_law_alone" 1 ["e","place"] (sp__law_alone K mg):=⟨_,_,mg_of X G Zdq,ZbC,ZjL,ok__law_alone ZfP T⟩
 have Zc0:Callee l.prog w K mg base "is_stretch" 1 ["many","a","b"] (sp_is_stretch K mg):=⟨_,_,mg_of X G Zc7,Zbs,ZjF,ok_is_stretch ZfJ T⟩
 have ZbQ:Callee l.prog w K mg base "need_stretch" 2 ["many","a","b"] (sp_need_stretch K mg):=⟨_,_,mg_of X G ZbT,ZaL,Zh1,ok_need_stretch Zez Zc0 T⟩
 have ZhM:Callee l.prog w K mg base "settle" 1 ["elders","spine","place","keep"] (sp_settle K mg):=⟨_,_,mg_of X G ZhP,Zfy,Zph,ok_settle ZkB T⟩
 have Zgj:Callee l.prog w K mg base "tree_of" 2 ["row"] (sp_tree_of K mg):=⟨_,_,mg_of X G Zgk,ZeJ,Zns,ok_tree_of ZiX ZhM T⟩
 have Zpj:Callee l.prog w K mg base "need_numbers" 1 ["row","fewest"] (sp_need_numbers K mg):=⟨_,_,mg_of X G ZaJ,Zan,Zh0,ok_need_numbers ZaS T⟩
 have Zbl:Zjl l.prog w K mg base "need_numbers" 1 ["row","fewest"] [V.int 1] (sp_need_numbers K mg):=⟨_,_,_,mg_of X G ZaJ,Zan,Zg0,.cons ⟨_,rfl⟩ .nil,ok_need_numbers ZaS T⟩
 have Zc1:Callee l.prog w K mg base "need_loose" 2 ["row","text"] (sp_need_loose K mg):=⟨_,_,mg_of X G Zdd,Zbw,ZjH,ok_need_loose ZfL Zbl T⟩
 have ZaV:Callee l.prog w K mg base "young_of" 1 ["tree"] (sp_young_of K mg):=⟨_,_,mg_of X G Ze5,Zda,ZlB,ok_young_of Zh2 T⟩
 have ZhN:Callee l.prog w K mg base "way_up" 1 ["tree","place"] (sp_way_up K mg):=⟨_,_,mg_of X G ZhS,Zfz,Zpi,ok_way_up ZkC T⟩
 have Zas:Callee l.prog w K mg base "from_below" 5 ["tree"] (sp_from_below K mg):=⟨_,_,mg_of X G Zbt,Zbv,ZjG,ok_from_below ZfK ZhN ZjC B T⟩
 have Zar:Callee l.prog w K mg base "best_ahead" 1 ["text","pairs","i"] (sp_best_ahead K mg):=⟨_,_,mg_of X G Zbx,Zbz,ZjI,ok_best_ahead ZfM ZjD B T⟩
 have Zae:Callee l.prog w K mg base "best_behind" 1 ["text","pairs","i"] (sp_best_behind K mg):=⟨_,_,mg_of X G Za8,Zba,Zis,ok_best_behind ZeU Zir B T⟩
 have Zgi:Callee l.prog w K mg base "pair_at" 2 ["text","table","young","i"] (sp_pair_at K mg):=⟨_,_,mg_of X G Zgn,ZeK,Znt,ok_pair_at ZiY Zar Zae T⟩
 have Ze4:Callee l.prog w K mg base "table_by" 6 ["tree","text"] (sp_table_by K mg):=⟨_,_,mg_of X G Ze8,Zdi,ZlC,ok_table_by Zh3 ZaV Zas Zgi T⟩
 have Zd4:Callee l.prog w K mg base "places_by" 6 ["tree","text","table","i"] (sp_places_by K mg):=⟨_,_,mg_of X G Zeb,Zb7,ZkD,ok_places_by ZgO ZaV Zas Zar Zae T⟩
 have Zd5:Callee l.prog w K mg base "places_in" 7 ["row","text","a","b"] (sp_places_in K mg):=⟨_,_,mg_of X G Zee,Zb8,ZkE,ok_places_in ZgP ZbQ Zgj Zc1 Ze4 Zd4 T⟩
 have Zc4:Callee l.prog w K mg base "_law_asked" 8 ["row","text","a","b"] (sp__law_asked K mg):=⟨_,_,mg_of X G ZdB,ZbI,ZjP,ok__law_asked ZfU Zd5 T⟩
 have Zc2:Callee l.prog w K mg base "_law_whole" 1 ["thing"] (sp__law_whole K mg):=⟨_,_,mg_of X G Zdj,ZbA,ZjJ,ok__law_whole ZfN T⟩
 have Zbm:Callee l.prog w K mg base "_law_holds_so" 3 ["row","text","a","b","told"] (sp__law_holds_so K mg):=⟨_,_,mg_of X G Zbn,ZaA,Zg1,ok__law_holds_so ZdK Zc2 ZR T⟩
 have Zc6:Callee l.prog w K mg base "_law_right" 9 ["row","text","pairs","a","b"] (sp__law_right K mg):=⟨_,_,mg_of X G ZdE,ZbJ,ZjQ,ok__law_right ZfV Zc3 Zc4 Zbm T⟩
 have Zak:Callee l.prog w K mg base "_law_least_ones" 1 ["pairs"] (sp__law_least_ones K mg):=⟨_,_,mg_of X G ZaP,Zal,ZfT,ok__law_least_ones Zcg T⟩
 have ZaW:Callee l.prog w K mg base "_law_stretches" 2 ["pot","text","pairs"] (sp__law_stretches K mg):=⟨_,_,mg_of X G ZaX,Zat,Zgr,ok__law_stretches ZcK Zo Zak T⟩
 exact ok_law Ztz Zd6 Zo ZR Za1 Zd7 Zc5 Zc6 ZaW T
theorem walk {l:PySem.W.OpenLaw}{q:Program}{loose:List Str}{XP:(Str->Option Value)->Heap->Prop}{YP:World->Heap->Prop}{d:DefRec}{K:Params->PySem.W.Frag}{ts:List Addr} (hn:l.most=some 63) (hdf:d.params.defaults=[])
  (hY:∀(w:World) (h:Heap),YP w h->(K w.params).In h) (hY2:∀(w:World) (h:Heap),YP w h->∀P∈ts,h.get? P=some (PySem.W.tabObj #[]))
  (F:∀(w:World) (mg:Str->Option Value) (fa:Addr) (h:Heap),(K w.params).In h->h.Ns mainGlobals mg->mg d.name=some (.ref fa) ->
   ∃fd:FuncData,(∀(s:Shared) (u:Value),BindsTo s fd ⟨[u],[]⟩ [("script",u)])/\(∀p∈tabsL (K w.params) mg,p.1∈ts/\(K w.params).lookup p.1=none/\∃c,PySem.W.codeHdIn (K w.params) c p.1=true)/\((tabsL (K w.params) mg).map (·.1)).Nodup/\∀base:Heap,(K w.params).In base->base.Ns mainGlobals mg->BM mg base->FnOk l.prog w (K w.params) mg base (CXE l.prog w) 10 fa fd ["script"] (spLaw (K w.params) mg)) :
  PySem.W.WalkO q loose XP YP l.row.toRowW d [] (λf vs=>PySem.call f vs) :=
 Lake.ZoA (n:=63) (k:=10) (x:="script") (ts:=ts) (tabs:=tabsL) (CX:=λw=>CXE l.prog w) (sp:=λw mg=>spLaw (K w.params) mg) hn nofun hdf ⟨rfl,by decide,by decide⟩ hY hY2 F (λ_ _ _ a ns hl hS hT=>⟨a,ns,rfl,hS,hl,hT,λ_=>rfl⟩) λ_ _ _ _ _ ⟨_,_,_,_,_,_,_,z⟩=>z
end Internal
def PySem.W.Fast.tw16333805765041066373:Unit:=()
def PySem.W.Fast.tw6286460007710133311:Unit:=()
def PySem.W.Fast.tw14568427647077003411:Unit:=()
def PySem.W.Fast.tw17458676340112412282:Unit:=()
def PySem.W.Fast.tw4853937143775768029:Unit:=()
def PySem.W.Fast.tw11901388952221994043:Unit:=()
def PySem.W.Fast.tw4649583500418252084:Unit:=()
def PySem.W.Fast.tw3321102678083821924:Unit:=()
def PySem.W.Fast.tw6508141233819272754:Unit:=()
def PySem.W.Fast.tw4345788217788219857:Unit:=()
def PySem.W.Fast.tw10637815632008929613:Unit:=()
def PySem.W.Fast.tw4510501004104865093:Unit:=()
def PySem.W.Fast.tw13859133701239996699:Unit:=()
def PySem.W.Fast.tw11851679262850409401:Unit:=()
def PySem.W.Fast.tw6190326483592844189:Unit:=()
def PySem.W.Fast.tw2043522405989157451:Unit:=()
def PySem.W.Fast.tw11049315363345441314:Unit:=()
def PySem.W.Fast.tw15681651358650796620:Unit:=()
def PySem.W.Fast.tw16258522707971259269:Unit:=()
def PySem.W.Fast.tw10242868125778191084:Unit:=()
def PySem.W.Fast.tw17996597882204786952:Unit:=()
def PySem.W.Fast.tw15763244207820472823:Unit:=()
def PySem.W.Fast.tw2102301211500825850:Unit:=()
def PySem.W.Fast.tw10195779319638067466:Unit:=()
def PySem.W.Fast.tw2181998743907304759:Unit:=()
def PySem.W.Fast.tw17843558949033741411:Unit:=()
def PySem.W.Fast.tw14477797566874818460:Unit:=()
def PySem.W.Fast.tw16710908822635286903:Unit:=()
def PySem.W.Fast.tw14792776400010884890:Unit:=()
def PySem.W.Fast.tw15583054431161340144:Unit:=()
def PySem.W.Fast.tw10672610777898049853:Unit:=()
def PySem.W.Fast.tw7739267752534586807:Unit:=()
def PySem.W.Fast.tw4750425897191110283:Unit:=()
def PySem.W.Fast.tw4274132141888671534:Unit:=()
def PySem.W.Fast.tw15578240169680058987:Unit:=()
def PySem.W.Fast.tw17919902665604202784:Unit:=()
def PySem.W.Fast.tw8156056433351762890:Unit:=()
def PySem.W.Fast.tw13744368884580352882:Unit:=()
def PySem.W.Fast.tw5077691799626337013:Unit:=()
def PySem.W.Fast.tw17332785281843932685:Unit:=()
def PySem.W.Fast.tw972705918640232205:Unit:=()
def PySem.W.Fast.tw10463726848422669943:Unit:=()
def PySem.W.Fast.tw10750585710342178716:Unit:=()
def PySem.W.Fast.tw6102037819252325884:Unit:=()
def PySem.W.Fast.tw15341370144191734246:Unit:=()
def PySem.W.Fast.tw10073765199971566340:Unit:=()
def PySem.W.Fast.tw2981098237841755755:Unit:=()
def PySem.W.Fast.tw8719916868368708734:Unit:=()
def PySem.W.Fast.tw9668804001969697321:Unit:=()
def PySem.W.Fast.tw7700578759905429836:Unit:=()
def PySem.W.Fast.tw18391628602831951296:Unit:=()
def PySem.W.Fast.tw14504952289559845192:Unit:=()
def PySem.W.Fast.tw15413759172661214578:Unit:=()
def PySem.W.Fast.tw15743066026015247094:Unit:=()
def PySem.W.Fast.tw13325407573755468764:Unit:=()
def PySem.W.Fast.tw16119290376044027725:Unit:=()
def PySem.W.Fast.tw4358442524136386590:Unit:=()
def PySem.W.Fast.tw2922476881331477141:Unit:=()
def PySem.W.Fast.tw8690720099665321015:Unit:=()
def PySem.W.Fast.tw1931831550972009712:Unit:=()
def PySem.W.Fast.tw13424062983243866387:Unit:=()
def PySem.W.Fast.tw16082240010921973651:Unit:=()
def PySem.W.Fast.tw5200008009815005103:Unit:=()
def PySem.W.Fast.tw2836444801305741985:Unit:=()
def PySem.W.Fast.tw9372483816262975796:Unit:=()
def PySem.W.Fast.tw15786369909499541364:Unit:=()
def PySem.W.Fast.tw2334986523413525502:Unit:=()
def PySem.W.Fast.tw9189953272981128710:Unit:=()
def PySem.W.Fast.tw14561824558389620605:Unit:=()
def PySem.W.Fast.tw351939903895969737:Unit:=()
def PySem.W.Fast.tw17367228535037959273:Unit:=()
def PySem.W.Fast.tw96034012222543019:Unit:=()
def PySem.W.Fast.tw7871477682485952143:Unit:=()
def PySem.W.Fast.tw8846886848857422568:Unit:=()
def PySem.W.Fast.tw14052855454960776671:Unit:=()
def PySem.W.Fast.tw14391677219184341593:Unit:=()
def PySem.W.Fast.tw3176117513915385810:Unit:=()
def PySem.W.Fast.tw8161262878851645031:Unit:=()
def PySem.W.Fast.tw10990467676261165300:Unit:=()
def PySem.W.Fast.tw14014200248534878461:Unit:=()
def PySem.W.Fast.tw13017852141602970909:Unit:=()
def PySem.W.Fast.tw11988997228286448380:Unit:=()
def PySem.W.Fast.tw15460483975341205225:Unit:=()
def PySem.W.Fast.tw9293873859998145546:Unit:=()
def PySem.W.Fast.tw5780982677973574167:Unit:=()
def PySem.W.Fast.tw7165612042558505481:Unit:=()
def PySem.W.Fast.tw16400389972907165109:Unit:=()
def PySem.W.Fast.tw8364993338903785155:Unit:=()
def PySem.W.Fast.tw7283524928281423554:Unit:=()
def PySem.W.Fast.tw15462895685399825585:Unit:=()
def PySem.W.Fast.tw4089252117664232412:Unit:=()
def PySem.W.Fast.tw13576692243684919921:Unit:=()
def PySem.W.Fast.tw14647773724581474011:Unit:=()
def PySem.W.Fast.tw10393402785370138420:Unit:=()
def PySem.W.Fast.tw5001288010966726858:Unit:=()
def PySem.W.Fast.tw18317962161770963726:Unit:=()
def PySem.W.Fast.tw15772744418977761193:Unit:=()
def PySem.W.Fast.tw10174264591111798157:Unit:=()
def PySem.W.Fast.tw1076809865024668120:Unit:=()
def PySem.W.Fast.tw7939571116258899339:Unit:=()
def PySem.W.Fast.tw1089771511298318204:Unit:=()
def PySem.W.Fast.tw6794151661418090510:Unit:=()
def PySem.W.Fast.tw520079519961225145:Unit:=()
def PySem.W.Fast.tw5869624292226649591:Unit:=()
def PySem.W.Fast.tw8283008269361985368:Unit:=()
def PySem.W.Fast.tw6938607479215242273:Unit:=()
def PySem.W.Fast.tw4966312732690079303:Unit:=()
def PySem.W.Fast.tw16063153477830543831:Unit:=()
def PySem.W.Fast.tw929178984134628395:Unit:=()
open PySem PySem.W PyProof.Rows
set_option maxRecDepth 100000 in
set_option maxHeartbeats 0 in
theorem PySem.Challenge.cw_dipkin_k53_places_in_stretches_holds : PySem.Challenge.rw_dipkin_k53_places_in_stretches.Holds := by
 w_on;o_law;k_head;(case hw=>w_witness2)
 k_fill
 refine Internal.walk (l:=PySem.Challenge.rw_dipkin_k53_places_in_stretches) rfl rfl (λw h Y=>PySem.W.km_in_of Y) (λw h Y=>PySem.W.km_tabs_of Y) ?F
 case F =>
  intro w mg fa h KX G hmg
  refine' Internal.all_mk KX G hmg ?ZaJ ?ZbR ?ZbS ?Zan ?ZaK ?Zc7 ?Zc8 ?Zc9 ?Zbs ?ZbT ?ZbU ?ZbV ?ZaL ?ZhP ?ZhQ ?ZhR ?Zfy ?Zgk ?Zgl ?Zgm ?ZeJ ?ZhS ?ZhT ?ZhU ?Zfz ?Ze5 ?Ze6 ?Ze7 ?Zda ?Zbt ?Zbu ?Zdc ?Zbv ?Zch ?Zci ?Zcj ?Za4 ?Zck ?Zcl ?Zdd ?Zde ?Zdf ?Zbw ?Zbx ?Zby ?Zdh ?Zbz ?Zcm ?Zcn ?Zco ?Za7 ?Zcp ?Zcq ?Za8 ?Za9 ?Zcs ?Zba ?ZbW ?ZbX ?ZbY ?ZaO ?ZbZ ?Zb0 ?Zgn ?Zgo ?Zgp ?ZeK ?Ze8 ?Ze9 ?Zfa ?Zdi ?Zeb ?Zec ?Zed ?Zb7 ?Zee ?Zef ?Zeg ?Zb8 ?Zeh ?Zei ?Zej ?Zb9 ?Zek ?Zel ?Zem ?Zca ?Zdj ?Zdk ?Zdl ?ZbA ?Zfb ?Zfc ?Zfd ?Zdm ?Zdn ?Zdo ?Zdp ?ZbB ?Zen ?Zeo ?Zep ?Zcb ?Zeq ?Zer ?Zes ?Zcc ?Zdq ?Zdr ?Zds ?ZbC ?Zct ?Zcu ?Zcv ?Zbb ?Zet ?Zeu ?Zev ?Zcd ?Zdt ?Zdu ?Zdv ?ZbD ?Zew ?Zex ?Zey ?Zce ?Zdw ?Zdx ?Zdy ?ZbE ?ZbF ?ZbG ?ZdA ?ZbH ?Zcw ?Zcx ?Zcy ?Zbe ?Zcz ?ZcA ?ZaP ?ZaQ ?ZaR ?Zal ?ZdB ?ZdC ?ZdD ?ZbI ?Zbn ?Zbo ?Zbp ?ZaA ?ZdE ?ZdF ?ZdG ?ZbJ ?ZaX ?ZaY ?ZaZ ?Zat ?Zpc ?Zpd ?Zpf ?Zpg ?n_DipError ?x_DipError ?d_DipError ?y_DipError ?n_Unlike ?x_Unlike ?d_Unlike ?y_Unlike ?n_Empty ?x_Empty ?d_Empty ?y_Empty ?n_TooMany ?x_TooMany ?d_TooMany ?y_TooMany ?n_NoTree ?x_NoTree ?d_NoTree ?y_NoTree ?n_NoTelling ?x_NoTelling ?d_NoTelling ?y_NoTelling ?n_NoPlace ?x_NoPlace ?d_NoPlace ?y_NoPlace ?n_NoNumber ?x_NoNumber ?d_NoNumber ?y_NoNumber ?n_NoPast ?x_NoPast ?d_NoPast ?y_NoPast ?n_NoText ?x_NoText ?d_NoText ?y_NoText ?n_NoLine ?x_NoLine ?d_NoLine ?y_NoLine ?z1_NoPlace ?z2_NoPlace ?z3_NoPlace ?z4_NoPlace ?z5_NoPlace ?z6_NoPlace ?z7_NoPlace ?z8_NoPlace ?u_NoPlace ?i_NoPlace_DipError ?ne_NoPlace_DipError ?i_NoPlace_Unlike ?ne_NoPlace_Unlike ?i_NoPlace_Empty ?ne_NoPlace_Empty ?i_NoPlace_TooMany ?ne_NoPlace_TooMany ?i_NoPlace_NoTree ?ne_NoPlace_NoTree ?i_NoPlace_NoTelling ?ne_NoPlace_NoTelling ?i_NoPlace_NoNumber ?ne_NoPlace_NoNumber ?i_NoPlace_NoPast ?ne_NoPlace_NoPast ?i_NoPlace_NoText ?ne_NoPlace_NoText ?i_NoPlace_NoLine ?ne_NoPlace_NoLine ?i_NoPlace_V ?b_ValueError ?b_all ?b_any ?b_bool ?b_enumerate ?b_int ?b_isinstance ?b_len ?b_list ?b_max ?b_min ?b_range ?b_set ?b_sorted ?b_tuple ?m_MOST_HELD ?m_MOST_HOLDING ?nd
  (case ZaJ|ZbR|ZbS|Zan|ZaK|Zc7|Zc8|Zc9|Zbs|ZbT|ZbU|ZbV|ZaL|ZhP|ZhQ|ZhR|Zfy|Zgk|Zgl|Zgm|ZeJ|ZhS|ZhT|ZhU|Zfz|Ze5|Ze6|Ze7|Zda|Zbt|Zbu|Zdc|Zbv=>k_is)
  (case Zch=>exact rfl)
  (case Zci=>k_is)
  (case Zcj=>exact rfl)
  (case Za4=>kernel_rfl)
  (case Zck=>kernel_rfl)
  (case Zcl=>decide)
  (case Zdd|Zde|Zdf|Zbw|Zbx|Zby|Zdh|Zbz=>k_is)
  (case Zcm=>exact rfl)
  (case Zcn=>k_is)
  (case Zco=>exact rfl)
  (case Za7=>kernel_rfl)
  (case Zcp=>kernel_rfl)
  (case Zcq=>decide)
  (case Za8|Za9|Zcs|Zba=>k_is)
  (case ZbW=>exact rfl)
  (case ZbX=>k_is)
  (case ZbY=>exact rfl)
  (case ZaO=>kernel_rfl)
  (case ZbZ=>kernel_rfl)
  (case Zb0=>decide)
  (case Zgn|Zgo|Zgp|ZeK|Ze8|Ze9|Zfa|Zdi|Zeb|Zec|Zed|Zb7|Zee|Zef|Zeg|Zb8|Zeh|Zei|Zej|Zb9|Zek|Zel|Zem|Zca|Zdj|Zdk|Zdl|ZbA|Zfb|Zfc|Zfd|Zdm|Zdn|Zdo|Zdp|ZbB|Zen|Zeo|Zep|Zcb|Zeq|Zer|Zes|Zcc|Zdq|Zdr|Zds|ZbC|Zct|Zcu|Zcv|Zbb|Zet|Zeu|Zev|Zcd|Zdt|Zdu|Zdv|ZbD|Zew|Zex|Zey|Zce|Zdw|Zdx|Zdy|ZbE|ZbF|ZbG|ZdA|ZbH=>k_is)
  (case Zcw=>exact rfl)
  (case Zcx=>k_is)
  (case Zcy=>exact rfl)
  (case Zbe=>kernel_rfl)
  (case Zcz=>kernel_rfl)
  (case ZcA=>decide)
  (case ZaP|ZaQ|ZaR|Zal|ZdB|ZdC|ZdD|ZbI|Zbn|Zbo|Zbp|ZaA|ZdE|ZdF|ZdG|ZbJ|ZaX|ZaY|ZaZ|Zat|Zpc|Zpd|Zpf|Zpg|n_DipError=>k_is)
  (case x_DipError=>k_exc)
  (case d_DipError|y_DipError|n_Unlike=>k_is)
  (case x_Unlike=>k_exc)
  (case d_Unlike|y_Unlike|n_Empty=>k_is)
  (case x_Empty=>k_exc)
  (case d_Empty|y_Empty|n_TooMany=>k_is)
  (case x_TooMany=>k_exc)
  (case d_TooMany|y_TooMany|n_NoTree=>k_is)
  (case x_NoTree=>k_exc)
  (case d_NoTree|y_NoTree|n_NoTelling=>k_is)
  (case x_NoTelling=>k_exc)
  (case d_NoTelling|y_NoTelling|n_NoPlace=>k_is)
  (case x_NoPlace=>k_exc)
  (case d_NoPlace|y_NoPlace|n_NoNumber=>k_is)
  (case x_NoNumber=>k_exc)
  (case d_NoNumber|y_NoNumber|n_NoPast=>k_is)
  (case x_NoPast=>k_exc)
  (case d_NoPast|y_NoPast|n_NoText=>k_is)
  (case x_NoText=>k_exc)
  (case d_NoText|y_NoText|n_NoLine=>k_is)
  (case x_NoLine=>k_exc)
  (case d_NoLine|y_NoLine|z1_NoPlace|z2_NoPlace|z3_NoPlace|z4_NoPlace|z5_NoPlace|z6_NoPlace|z7_NoPlace|z8_NoPlace|u_NoPlace|i_NoPlace_DipError=>k_is)
  (case ne_NoPlace_DipError=>decide)
  (case i_NoPlace_Unlike=>k_is)
  (case ne_NoPlace_Unlike=>decide)
  (case i_NoPlace_Empty=>k_is)
  (case ne_NoPlace_Empty=>decide)
  (case i_NoPlace_TooMany=>k_is)
  (case ne_NoPlace_TooMany=>decide)
  (case i_NoPlace_NoTree=>k_is)
  (case ne_NoPlace_NoTree=>decide)
  (case i_NoPlace_NoTelling=>k_is)
  (case ne_NoPlace_NoTelling=>decide)
  (case i_NoPlace_NoNumber=>k_is)
  (case ne_NoPlace_NoNumber=>decide)
  (case i_NoPlace_NoPast=>k_is)
  (case ne_NoPlace_NoPast=>decide)
  (case i_NoPlace_NoText=>k_is)
  (case ne_NoPlace_NoText=>decide)
  (case i_NoPlace_NoLine=>k_is)
  (case ne_NoPlace_NoLine=>decide)
  (case i_NoPlace_V|b_ValueError|b_all|b_any|b_bool|b_enumerate|b_int|b_isinstance|b_len|b_list|b_max|b_min|b_range|b_set|b_sorted|b_tuple|m_MOST_HELD|m_MOST_HOLDING=>k_is)
  (case nd=>decide)
