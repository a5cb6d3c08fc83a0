import PyProof.Rows.All
import Wide.All
import OpenK.AllK
import Wide.FinOn
import Lean
import PyProof.EqAt
import PyProof.EqKinds
import PyProof.TupleCall
import PyProof.MeetsSeq
import PyProof.NeKinds
import PyProof.TupleOfSeq
import PyProof.ListRange
import PyProof.TupleOfGen
import PyProof.ZipIter
import KE.KRevIter
import PyProof.StrWalks
import PyProof.StrBlock2
import PyProof.MeetsStr
import PyProof.StrCalls2
import PyProof.StrLawsIn
import KE.KIntText
import PyProof.StrLawsTight
import PyProof.StrLawsChain
import PyProof.StrLawsAffix
import PyProof.Rows.StrItems
import PyProof.Rows.ReprOcc
import KE.KDictSum
import PyProof.Rows.SeqMore
import KE.KDictList
import PySem.Challenge.RW_dipkin_k62_whole_no_row_is_nearer
set_option Elab.async false
set_option linter.all false
set_option maxRecDepth 100000
set_option maxHeartbeats 4000000
set_option genSizeOfSpec false
local macro_rules | `(tactic| omega) => `(tactic| first | lia | omega (config := {}))
namespace L2
open PySem PySem.Spec PyProof.Rows
noncomputable abbrev Key:=Sum Int Str
noncomputable def keyIs:Key->Value->Bool
 |.inl k,v=>Value.isInt k v
 |.inr x,v=>Value.isStrOf x v
noncomputable def keyH (w:World):Key->Int
 |.inl k=>hashInt k
 |.inr x=>hashStr w x
theorem Zaf:∀{k:Key}{v:Value},keyIs k v=true->(∃i t,k=Sum.inl i/\v=Value.int i t)\/(∃x t,k=Sum.inr x/\v=Value.str x t)
 |.inl i,v,h=>by
  obtain⟨t,e⟩:=Value.isInt_shape (k:=i) (v:=v) h
  exact .inl ⟨i,t,rfl,e⟩
 |.inr x,v,h=>by
  obtain⟨t,e⟩:=Value.isStrOf_shape (x:=x) (v:=v) h
  exact .inr ⟨x,t,rfl,e⟩
theorem key_ll (a b:Int):decide ((Sum.inl a:Key)=Sum.inl b)=(a==b):=by
 by_cases e:a=b
 ·subst e;simp
 ·have h:¬ (Sum.inl a:Key)=Sum.inl b:=λq=>e (Sum.inl.inj q)
  rw[decide_eq_false h]
  exact(beq_eq_false_iff_ne.mpr e).symm
theorem key_rr (a b:Str):decide ((Sum.inr a:Key)=Sum.inr b)=decide (a=b):=by
 by_cases e:a=b
 ·subst e;simp
 ·have h:¬ (Sum.inr a:Key)=Sum.inr b:=λq=>e (Sum.inr.inj q)
  rw[decide_eq_false h,decide_eq_false e]
theorem key_lr (a:Int) (b:Str):decide ((Sum.inl a:Key)=Sum.inr b)=false:=decide_eq_false (λq=>nomatch q)
theorem key_rl (a:Str) (b:Int):decide ((Sum.inr a:Key)=Sum.inl b)=false:=decide_eq_false (λq=>nomatch q)
noncomputable def Zoh (prog:Program) (w:World):PySem.KeyKind prog w Key where
 is:=keyIs
 hash:=keyH w
 inj:=λv a b ha hb=>by
  rcases Zaf ha with⟨i,t,rfl,rfl⟩|⟨x,t,rfl,rfl⟩
  ·rcases Zaf hb with⟨j,u,rfl,e⟩|⟨y,u,rfl,e⟩
   ·injection e with e1 _;rw[e1]
   ·exact nomatch e
  ·rcases Zaf hb with⟨j,u,rfl,e⟩|⟨y,u,rfl,e⟩
   ·exact nomatch e
   ·injection e with e1 _;rw[e1]
 byValue:=λk v h=>by
  rcases Zaf h with⟨i,t,rfl,rfl⟩|⟨x,t,rfl,rfl⟩<;>rfl
 pyHash:=λhv h=>by
  rcases Zaf hv with⟨i,t,rfl,rfl⟩|⟨x,t,rfl,rfl⟩
  ·exact wpAny_pyHash_int h
  ·exact wpAny_pyHash_str h
 eqBool:=λhu hv h=>by
  rcases Zaf hu with⟨i,t,rfl,rfl⟩|⟨x,t,rfl,rfl⟩
  ·rcases Zaf hv with⟨j,u,rfl,rfl⟩|⟨y,u,rfl,rfl⟩
   ·rw[key_ll]at h;exact wpAny_eqBool_int h
   ·rw[key_lr]at h;exact SeqAt.EqAt.int_str i t y u _ _ _ _ h
  ·rcases Zaf hv with⟨j,u,rfl,rfl⟩|⟨y,u,rfl,rfl⟩
   ·rw[key_rl]at h;exact SeqAt.EqAt.str_int x t j u _ _ _ _ h
   ·rw[key_rr]at h;exact wpAny_eqBool_str h
 «strs»:=λk x t v h=>by
  rcases Zaf h with⟨i,u,rfl,e⟩|⟨y,u,rfl,e⟩
  ·exact nomatch e
  ·injection e with e1 _
   subst e1
   cases v<;>rfl
inductive V where
 |non|bl (b:Bool)|int (i:Int)|str (x:Str)|byt (b:Array UInt8)|flt (b:UInt64)|ref (a:Addr)|ty (n:String)
 deriving DecidableEq
noncomputable def RelV:V->Value->Prop
 |.non,u=>u=Value.none
 |.bl b,u=>u=Value.bool b
 |.int i,u=>∃t,u=Value.int i t
 |.str x,u=>∃t,u=Value.str x t
 |.byt b,u=>∃t,u=Value.bytes b t
 |.flt b,u=>∃t,u=Value.float b t
 |.ref a,u=>u=Value.ref a
 |.ty n,u=>u=Value.type n
noncomputable abbrev Vals:List V->List Value->Prop:=Paired RelV
theorem Vals.length {xs:List V}{us:List Value} (r:Vals xs us):xs.length=us.length:=Paired.length r
theorem Vals.get:∀{xs:List V}{us:List Value}{i:Nat}{x:V},Vals xs us->xs[i]?=some x->∃u,us[i]?=some u/\RelV x u
 |_,_,_,_,.nil,e=>by simp at e
 |_,_,0,_,.cons r _,e=>by simp at e;subst e;exact⟨_,rfl,r⟩
 |_,_,i+1,x,.cons _ t,e=>by
  obtain⟨u,h1,h2⟩:=Vals.get (i:=i) (x:=x) t (by simpa using e)
  exact⟨u,by simpa using h1,h2⟩
theorem Vals.set {x:V}{u:Value} (r:RelV x u):∀{xs:List V}{us:List Value} (i:Nat),Vals xs us->Vals (xs.set i x) (us.set i u)
 |_,_,_,.nil=>.nil
 |_,_,0,.cons _ t=>.cons r t
 |_,_,i+1,.cons q t=>.cons q (Vals.set r i t)
theorem Vals.append:∀{xs ys:List V}{us ws:List Value},Vals xs us->Vals ys ws->Vals (xs++ys) (us++ws)
 |_,_,_,_,.nil,s=>s
 |_,_,_,_,.cons r t,s=>.cons r (Vals.append t s)
theorem Vals.take:∀{xs:List V}{us:List Value} (n:Nat),Vals xs us->Vals (xs.take n) (us.take n)
 |_,_,0,_=>.nil
 |_,_,_+1,.nil=>.nil
 |_,_,n+1,.cons r t=>.cons r (Vals.take n t)
theorem Vals.drop:∀{xs:List V}{us:List Value} (n:Nat),Vals xs us->Vals (xs.drop n) (us.drop n)
 |_,_,0,r=>r
 |_,_,_+1,.nil=>.nil
 |_,_,n+1,.cons _ t=>Vals.drop n t
noncomputable def Znc:Option V->Option Value->Prop
 |some v,some u=>RelV v u
 |none,none=>True
 |_,_=>False
noncomputable def KV {κ:Type}:List (κ×V)->List (κ×Value)->Prop:=Paired λ(p:κ×V) (q:κ×Value)=>p.1=q.1/\RelV p.2 q.2
noncomputable def kV:Key->V
 |.inl i=>.int i
 |.inr x=>.str x
inductive HO where
 |lst (xs:List V)
 |tup (xs:List V)
 |dK (kvs:List (Key×V))|dT (kvs:List (List Key×V))
 |set (S:Int->Bool) (n:Nat)
 |ins (C dx:Addr) (fs:List (Str×V))
 |own (x:Addr)
 |xd (fs:List (Str×V))
 |met (f x:Addr)
 |rng (lo hi:Int)
 |frz (o:Obj) (u:HO)
 |tbl (ps:Array Value)
 |ext (φ:Heap->Prop)
noncomputable abbrev Hp:=Addr->Option HO
noncomputable def upd (H:Hp) (a:Addr) (o:HO):Hp:=λb=>if b=a then some o else H b
theorem Zd {H:Hp}{a:Addr}{o:HO}:upd H a o a=some o:=by unfold upd;rw[if_pos rfl]
theorem Zj {H:Hp}{a b:Addr}{o:HO} (h:b≠a):upd H a o b=H b:=by unfold upd;rw[if_neg h]
theorem Zx {H:Hp}{a b:Addr}{o:HO} (h:H a=some o) (h':H b=none):a≠b:=by
 intro e;subst e;rw[h]at h';cases h'
section
variable (P:Program) (w:World)
noncomputable def Zau (H:Hp) (h:Heap) (a:Addr):HO->Prop
 |.lst xs=>xs.length<=sizeLine/\∃(its:List Value) (n:Nat),Vals xs its/\h.get? a=some {cls:=.type "list",data:=.seq its.toArray n}
 |.tup xs=>xs.length<=sizeLine/\∃its:List Value,Vals xs its/\IsTup h a its.toArray
 |.dK kvs=>kvs.length<=sizeLine/\(a==sysModules)=false/\∃vs,KV kvs vs/\h.DictOf (Zoh P w) a vs
 |.dT kvs=>kvs.length<=sizeLine/\(a==sysModules)=false/\∃xs:List (List Key×Addr×Value),
   Paired (λ(p:List Key×V) (q:List Key×Addr×Value)=>p.1=q.1/\H q.2.1=some (.tup (p.1.map kV))/\RelV p.2 q.2.2) kvs xs /\
   ∃o es ep,h.get? a=some o/\o.ExactDict/\o.data=.dict es ep/\es.toList=xs.map (entryOfKey (tupleKind (Zoh P w)))/\(xs.map (·.1)).Nodup
 |.set S n=>h.SetOf (intKind P w) a S n
 |.ins C dx fs=>H dx=some (.own a)/\fs.length<=1000/\dx≠a/\h.get? a=some (PySem.W.instObj C dx) /\
   ∃mA,h.Ns1 dx mA/\(∀f,Znc (fs.lookup f) (mA f))/\PySem.Within mA (fs.map (·.1))
 |.own _=>∃o,h.get? a=some o
 |.xd fs=>∃mA,h.Ns1 a mA/\∀f,Znc (fs.lookup f) (mA f)
 |.rng lo hi=>∃t u v,h.get? a=some {cls:=.type "range",data:=.fields #[.int lo t,.int hi u,.int 1 v]}
 |.frz o u=>h.get? a=some o/\Zau H h a u
 |.tbl ps=>∃ts:Array Value,h.get? a=some {cls:=.none,data:=.fields ts}/\TriplesOk ts.toList/\∀pos cv,codeAmong pos ts.toList=some cv->∃c oc vs q t t',cv=.ref c/\H c=some (.frz oc (.own a))/\oc.data=.fields vs/\ps[0]?=some (.str q t)/\vs[1]?=some (.str q t')
 |.met f x=>h.get? a=some (PySem.W.methodObj (.ref f) (.ref x))
 |.ext φ=>φ h/\(∃o,h.get? a=some o)/\∀h1 h2:Heap,φ h1->(∀o,h1.get? a=some o->h2.get? a=some o)->φ h2
noncomputable def HOk (H:Hp) (h:Heap):Prop:=∀a o,H a=some o->Zau P w H h a o
end
section
variable {P:Program}{w:World}{H H':Hp}{h h':Heap}{a:Addr}{o:HO}
theorem Zau.lt (x:Zau P w H h a o):a<h.objs.size:=by
 cases o with
 |lst xs=>obtain⟨_,_,_,_,e⟩:=x;exact Heap.lt_size e
 |tup xs=>obtain⟨_,_,_,p⟩:=x;exact p.lt
 |dK kvs=>obtain⟨_,_,_,_,o,_,_,e,_⟩:=x;exact Heap.lt_size e
 |dT kvs=>obtain⟨_,_,_,_,o,_,_,e,_⟩:=x;exact Heap.lt_size e
 |set S n=>obtain⟨o,_,_,_,e,_⟩:=x;exact Heap.lt_size e
 |ins C dx fs=>obtain⟨_,_,_,e,_⟩:=x;exact Heap.lt_size e
 |own y=>obtain⟨_,e⟩:=x;exact Heap.lt_size e
 |xd fs=>obtain⟨_,⟨_,_,_,e,_⟩,_⟩:=x;exact Heap.lt_size e
 |rng lo hi=>obtain⟨_,_,_,e⟩:=x;exact Heap.lt_size e
 |frz ob u=>obtain⟨e,_⟩:=x;exact Heap.lt_size e
 |tbl ps=>obtain⟨_,e,_⟩:=x;exact Heap.lt_size e
 |met f y=>exact Heap.lt_size (show h.get? a=some _ from x)
 |ext φ=>obtain⟨_,⟨_,e⟩,_⟩:=x;exact Heap.lt_size e
theorem Paired.mapP {α β:Type}{F G:α->β->Prop}:∀{l₁:List α}{l₂:List β},Paired F l₁ l₂->(∀a b,F a b->G a b)->Paired G l₁ l₂
 |_,_,.nil,_=>.nil
 |_,_,.cons r t,f=>.cons (f _ _ r) (Paired.mapP t f)
theorem Zau.Zih (x:Zau P w H h a o) (k:∀b u,(b=a\/H b=some (.own a))->h.get? b=some u->h'.get? b=some u)
  (ho:∀b,H b=some (.own a)->H' b=some (.own a)) (ht:∀b xs,H b=some (.tup xs)->H' b=some (.tup xs)) (hz:∀b o u,H b=some (.frz o u)->H' b=some (.frz o u)):Zau P w H' h' a o:=by
 induction o with
 |lst xs=>obtain⟨z,its,n,r,e⟩:=x;exact⟨z,its,n,r,k _ _ (.inl rfl) e⟩
 |tup xs=>obtain⟨z,its,r,ob,e,c⟩:=x;exact⟨z,its,r,ob,k _ _ (.inl rfl) e,c⟩
 |dK kvs=>obtain⟨z,y,vs,r,ob,es,ep,e,c⟩:=x;exact⟨z,y,vs,r,ob,es,ep,k _ _ (.inl rfl) e,c⟩
 |dT kvs =>
  obtain⟨z,y,xs,r,ob,es,ep,e,c⟩:=x
  exact⟨z,y,xs,Paired.mapP r λp q z=>⟨z.1,ht _ _ z.2.1,z.2.2⟩,ob,es,ep,k _ _ (.inl rfl) e,c⟩
 |set S n=>obtain⟨ob,es,ep,t,e,c⟩:=x;exact⟨ob,es,ep,t,k _ _ (.inl rfl) e,c⟩
 |ins C dx fs =>
  obtain⟨d,z,ne,e,mA,⟨od,es,ep,e2,c⟩,r⟩:=x
  exact⟨ho _ d,z,ne,k _ _ (.inl rfl) e,mA,⟨od,es,ep,k _ _ (.inr d) e2,c⟩,r⟩
 |own y=>obtain⟨ob,e⟩:=x;exact⟨ob,k _ _ (.inl rfl) e⟩
 |xd fs=>obtain⟨mA,⟨od,es,ep,e,c⟩,r⟩:=x;exact⟨mA,⟨od,es,ep,k _ _ (.inl rfl) e,c⟩,r⟩
 |rng lo hi=>obtain⟨t,u,v,e⟩:=x;exact⟨t,u,v,k _ _ (.inl rfl) e⟩
 |frz ob u ih=>obtain⟨e,q⟩:=x;exact⟨k _ _ (.inl rfl) e,ih q⟩
 |tbl ps =>
  obtain⟨ts,e,t3,z⟩:=x
  refine⟨ts,k a _ (.inl rfl) e,t3,λpos cv hc=>?_⟩
  obtain⟨c,oc,vs,q,t,t',e1,e2,r⟩:=z pos cv hc
  exact⟨c,oc,vs,q,t,t',e1,hz _ _ _ e2,r⟩
 |met f y =>
  have e:h.get? a=some (PySem.W.methodObj (.ref f) (.ref y)):=x
  show h'.get? a=some (PySem.W.methodObj (.ref f) (.ref y))
  exact k a _ (.inl rfl) e
 |ext φ=>obtain⟨p,⟨o,e⟩,st⟩:=x;exact⟨st _ _ p λo q=>k _ _ (.inl rfl) q,⟨o,k _ _ (.inl rfl) e⟩,st⟩
theorem HOk.lt (x:HOk P w H h) (e:H a=some o):a<h.objs.size:=(x a o e).lt
theorem HOk.fresh (x:HOk P w H h) (e:h.objs.size<=a):H a=none:=by
 cases q:H a with
 |none=>rfl
 |some u=>exact absurd (Nat.lt_of_lt_of_le (x.lt q) e) (Nat.lt_irrefl _)
theorem HOk.kept (x:HOk P w H h) (k:∀b u,h.get? b=some u->h'.get? b=some u):HOk P w H h':=λa o e =>
 (x a o e).Zih (λb u _ q=>k b u q) (λ_ q=>q) (λ_ _ q=>q) λ_ _ _ q=>q
theorem HOk.laid (x:HOk P w H h) (k:∀b u,h.get? b=some u->h'.get? b=some u) (hp:h.objs.size<=a) (new:Zau P w (upd H a o) h' a o):HOk P w (upd H a o) h':=λb u e=>by
 have hn:=x.fresh hp
 by_cases hb:b=a
 ·subst hb;rw[Zd]at e;cases e;exact new
 ·rw[Zj hb]at e
  exact(x b u e).Zih (λc v _ q=>k c v q) (λc q=>by rw[Zj (Zx q hn)];exact q) (λc xs q=>by rw[Zj (Zx q hn)];exact q) λc o u q=>by rw[Zj (Zx q hn)];exact q
end
noncomputable def Rd (H:Hp) (a:Addr) (u:HO):Prop:=H a=some u\/∃o,H a=some (.frz o u)
theorem Rd.of {H:Hp}{a:Addr}{u:HO} (h:H a=some u):Rd H a u:=.inl h
theorem Rd.ok {P:Program}{w:World}{H:Hp}{h:Heap}{a:Addr}{u:HO} (r:Rd H a u) (x:HOk P w H h):Zau P w H h a u:=by
 rcases r with r|⟨o,r⟩
 ·exact x a u r
 ·obtain⟨_,q⟩:=x a _ r
  exact q
noncomputable def Mut:Option HO->Prop
 |some (.lst _)=>True
 |some (.dK _)=>True
 |some (.dT _)=>True
 |some (.set _ _)=>True
 |some (.ins _ _ _)=>True
 |some (.ext _)=>True
 |_=>False
section
variable {P:Program}{w:World}{H:Hp}{h h':Heap}{x e:Addr}{o':HO}
theorem HOk.write (ok:HOk P w H h) (mu:Mut (H x)) (he:e=x\/H e=some (.own x)) (k:∀b u,b≠e->h.get? b=some u->h'.get? b=some u) (heo:∃u,h'.get? e=some u)
  (new:Zau P w (upd H x o') h' x o'):HOk P w (upd H x o') h':=λb u q=>by
 have nown:∀c y,H c=some (.own y)->c≠x:=λc y r z=>by subst z;rw[r]at mu;exact mu
 have ntup:∀c xs,H c=some (.tup xs)->c≠x:=λc xs r z=>by subst z;rw[r]at mu;exact mu
 have nfrz:∀c o u,H c=some (.frz o u)->c≠x:=λc o u r z=>by subst z;rw[r]at mu;exact mu
 by_cases hb:b=x
 ·subst hb;rw[Zd]at q;cases q;exact new
 ·rw[Zj hb]at q
  by_cases hbe:b=e
  ·have q':H b=some (.own x):=by
    rcases he with z|z
    ·exact absurd (hbe.trans z) hb
    ·rw[hbe];exact z
   rw[q]at q';cases q'
   obtain⟨v,hv⟩:=heo
   exact⟨v,by rw[hbe];exact hv⟩
  ·refine(ok b u q).Zih (λc v hc r=>k c v ?_ r) (λc r=>by rw[Zj (nown c b r)];exact r) (λc xs r=>by rw[Zj (ntup c xs r)];exact r) λc o u r=>by rw[Zj (nfrz c o u r)];exact r
   rcases hc with rfl|hc
   ·exact hbe
   ·rintro rfl
    rcases he with z|z
    ·exact nown c b hc z
    ·rw[hc]at z;cases z;exact hb rfl
end
structure Un (fs ex:List Addr) (H H':Hp) (h h':Heap):Prop where
 keep:∀b o,h.get? b=some o->H b=none->b∉fs->b∉ex->h'.get? b=some o
 slot:∀b o,h.get? b=some o->H b=none->b∈fs->b∉ex->∃sl,h'.get? b=some {o with slots:=sl}
 free:∀b o,h.get? b=some o->H b=none->b∉ex->H' b=none
 there:∀b o,h.get? b=some o->b∉ex->∃o',h'.get? b=some o'
 tups:∀b xs,H b=some (.tup xs)->H' b=some (.tup xs)
 frzs:∀b o u,H b=some (.frz o u)->H' b=some (.frz o u)
 tbls:∀b ps,H b=some (.tbl ps)->∃more,H' b=some (.tbl (ps++more))
section
variable {fs fs' ex ex':List Addr}{H H1 H2:Hp}{h h1 h2 h':Heap}{a x e:Addr}{o:HO}
theorem Un.any (u:Un fs ex H H1 h h1) {b:Addr}{ob:Obj} (q:h.get? b=some ob) (n:H b=none) (hx:b∉ex):∃sl,h1.get? b=some {ob with slots:=sl}:=by
 by_cases hb:b∈fs
 ·exact u.slot b ob q n hb hx
 ·exact⟨ob.slots,u.keep b ob q n hb hx⟩
theorem Un.trans (a:Un fs ex H H1 h h1) (b:Un fs ex H1 H2 h1 h2):Un fs ex H H2 h h2 where
 keep:=λc ob q n hc hx=>b.keep c ob (a.keep c ob q n hc hx) (a.free c ob q n hx) hc hx
 slot:=λc ob q n hc hx=>by
  obtain⟨sl,e1⟩:=a.slot c ob q n hc hx
  obtain⟨sl',e2⟩:=b.slot c _ e1 (a.free c ob q n hx) hc hx
  exact⟨sl',e2⟩
 free:=λc ob q n hx=>by
  obtain⟨o',e1⟩:=a.there c ob q hx
  exact b.free c o' e1 (a.free c ob q n hx) hx
 there:=λc ob q hx=>by
  obtain⟨o',e1⟩:=a.there c ob q hx
  exact b.there c o' e1 hx
 tups:=λc xs q=>b.tups c xs (a.tups c xs q)
 frzs:=λc ob xs q=>b.frzs c ob xs (a.frzs c ob xs q)
 tbls:=λc ps q=>by
  obtain⟨m1,e1⟩:=a.tbls c ps q
  obtain⟨m2,e2⟩:=b.tbls c _ e1
  exact⟨m1++m2,by rw[e2,Array.append_assoc]⟩
theorem Un.kept (k:∀b u,h.get? b=some u->h'.get? b=some u):Un fs ex H H h h' :=
 ⟨λb ob q _ _ _=>k b ob q,λb ob q _ _ _=>⟨ob.slots,k b ob q⟩,λ_ _ _ n _=>n,λb ob q _=>⟨ob,k b ob q⟩,λ_ _ q=>q,λ_ _ _ q=>q,λ_ ps q=>⟨#[],by rw[q];simp⟩⟩
theorem Un.refl:Un fs ex H H h h:=Un.kept λ_ _ q=>q
theorem Un.laid (k:∀b u,h.get? b=some u->h'.get? b=some u) (hp:h.objs.size<=a) (hn:H a=none):Un fs ex H (upd H a o) h h' where
 keep:=λb u q _ _ _=>k b u q
 slot:=λb u q _ _ _=>⟨u.slots,k b u q⟩
 free:=λb u q n _=>by rw[Zj (Nat.ne_of_lt (Nat.lt_of_lt_of_le (Heap.lt_size q) hp))];exact n
 there:=λb u q _=>⟨u,k b u q⟩
 tups:=λb xs q=>by rw[Zj (Zx q hn)];exact q
 frzs:=λb u xs q=>by rw[Zj (Zx q hn)];exact q
 tbls:=λb ps q=>⟨#[],by rw[Zj (Zx q hn),q];simp⟩
theorem Un.write (mu:Mut (H x)) (he:e=x\/H e=some (.own x)) (k:∀b u,b≠e->h.get? b=some u->h'.get? b=some u) (heo:∃u,h'.get? e=some u):Un fs ex H (upd H x o) h h':=by
 have hx:∀b,H b=none->b≠x:=λb n z=>by subst z;rw[n]at mu;exact mu
 have hb:∀b,H b=none->b≠e:=λb n z=>by
  subst z
  rcases he with r|r
  ·exact hx b n r
  ·rw[n]at r;cases r
 have hm:∀b u,H b=some u->¬ Mut (some u)->b≠x:=λb u q nm z=>by subst z;rw[q]at mu;exact nm mu
 refine⟨λb u q n _ _=>k b u (hb b n) q,λb u q n _ _=>⟨u.slots,k b u (hb b n) q⟩,λb u q n _=>by rw[Zj (hx b n)];exact n,λb u q _=>?_,
  λb xs q=>by rw[Zj (hm b _ q λz=>z)];exact q,λb u xs q=>by rw[Zj (hm b _ q λz=>z)];exact q,λb ps q=>⟨#[],by rw[Zj (hm b _ q λz=>z),q];simp⟩⟩
 by_cases hbe:b=e
 ·subst hbe;exact heo
 ·exact⟨u,k b u hbe q⟩
theorem Un.mono (u:Un fs ex H H1 h h1) (hs:∀b∈fs,b∈fs') (hx:∀b∈ex,b∈ex'):Un fs' ex' H H1 h h1 :=
 ⟨λb ob q n hb he=>u.keep b ob q n (λz=>hb (hs b z)) λz=>he (hx b z),λ_ _ q n _ he=>u.any q n λz=>he (hx _ z),λb ob q n he=>u.free b ob q n λz=>he (hx b z),λb ob q he=>u.there b ob q λz=>he (hx b z),u.tups,u.frzs,u.tbls⟩
end
noncomputable def trk (h:Heap) (H:Hp):List Addr:=(List.range h.objs.size).filter λa=>(H a).isSome
noncomputable def ZjX (h:Heap) (H:Hp):Heap:=PySem.W.hideAll h (trk h H)
theorem ZoY (h:Heap) (H:Hp):(ZjX h H).objs.size=h.objs.size:=PySem.W.hideAll_size _ _
theorem Zq3 {h:Heap}{H:Hp}{b:Addr}{o:Obj} (e:h.get? b=some o) (n:H b=none):(ZjX h H).get? b=some o :=
 PySem.W.hideAll_get _ e λhm=>by
  have q:(H b).isSome=true:=(List.mem_filter.mp hm).2
  rw[n]at q;simp at q
theorem Ztk {h:Heap}{H:Hp}{b:Addr}{o:Obj} (e:(ZjX h H).get? b=some o):h.get? b=some o/\H b=none:=by
 have e':h.get? b=some o:=PySem.W.of_hideAll (trk h H) e
 refine⟨e',?_⟩
 cases q:H b with
 |none=>rfl
 |some x =>
  have hm:b∈trk h H:=List.mem_filter.mpr ⟨List.mem_range.mpr (Heap.lt_size e'),by simp[q]⟩
  have z:(ZjX h H).get? b=none:=PySem.W.hideAll_none (trk h H) hm
  rw[z]at e;cases e
noncomputable def Ztl (g h:Heap) (L:Addr):List (Addr×Obj):=(List.range h.objs.size).filterMap λa=>if a=L\/(g.get? a).isSome=true then none else (h.get? a).map λo=>(a,o)
noncomputable def rest (g h:Heap) (L d:Addr):List (Addr×Obj):=(Ztl g h L).filter λp=>decide (p.1≠d)
structure Mod (K:PySem.W.Frag) (mg:Str->Option Value) (base:Heap):Prop where
 kin:K.In base
 glob:base.Ns mainGlobals mg
 blt:∃mb,base.Ns builtinsNs mb/\∀x:Str,x≠"__name__"->mb x=bootBuiltins x
 nolimit:base.NoLimit
structure Cx where
 prog:Program
 w:World
 K:PySem.W.Frag
 mg:Str->Option Value
 base:Heap
 A:Around
 N:List Str
 s₀:Shared
 H₀:Hp
 env:Env
 outer:List Env
 stack:List Env
 ex:List Addr
 fn:Str->Bool
 calm:Bool
 pn:List (Addr×Obj)
 xe:Value->Shared->Prop
noncomputable def frs (l:List Env):List Addr:=l.filterMap (·.frame)
noncomputable abbrev Cx.fs (X:Cx):List Addr:=frs X.outer
noncomputable def Vis (sc:Scope) (x:Str):Prop:=sc.names.lookup x=some .local\/sc.names.lookup x=some .cell\/sc.names.lookup x=some .free
noncomputable def Loc (sc:Scope) (x:Str):Prop:=sc.names.lookup x=some .local\/sc.names.lookup x=some .cell
noncomputable def Look (env:Env) (h:Heap) (m:Str->Option Value) (x:Str) (u:Value):Prop :=
 (env.kindOf x=some .local/\m x=some u)\/((env.kindOf x=some .cell\/env.kindOf x=some .free)/\∃c,env.cells.lookup x=some c/\h.IsCell c (some u))
structure Cx.Ok (X:Cx):Prop where
 mod:Mod X.K X.mg X.base
 kind:X.env.scope.kind=.function
 glob:X.env.globals=mainGlobals
 blt:X.env.builtins=builtinsNs
 above:X.s₀.heap.objs.size<=X.env.locals
 inj:∀x y c,X.env.cells.lookup x=some c->X.env.cells.lookup y=some c->x=y
 has:∀x,(X.env.kindOf x=some .cell\/X.env.kindOf x=some .free)->∃c,X.env.cells.lookup x=some c
 cab:∀x c,X.fn x=true->X.env.cells.lookup x=some c->X.s₀.heap.objs.size<=c
 hd:X.calm=true->X.A.handled=none
 frames:X.A.frames=some X.stack
 stk:X.stack=X.outer\/(X.stack=X.env::X.outer/\X.env.frame=some X.env.locals)
 exf:∀b∈X.ex,b≠X.env.locals/\∀x c,X.env.cells.lookup x=some c->c≠b
 bs:∀b o,X.base.get? b=some o->X.s₀.heap.get? b=some o/\X.H₀ b=none
 bsz:X.base.objs.size<=X.s₀.heap.objs.size
 noex:∀b o,X.base.get? b=some o->b∉X.ex
 exfs:∀b∈X.ex,b∉X.fs
 funs:X.s₀.heap.FunFrames X.base X.outer
 frf:∀b∈X.fs,X.H₀ b=none
structure Inv (X:Cx) (pins:List (Addr×Obj)) (σ:List (Option V)) (H:Hp) (s:Shared):Prop where
 ok:X.Ok
 os:s.os=X.s₀.os
 bare:AllBare s.gens
 base:Un X.fs X.ex X.H₀ H X.s₀.heap s.heap
 loc:∃m,s.heap.Ns X.env.locals m/\∀(i:Nat) (x:Str) (v:V),X.N[i]?=some x->σ[i]?=some (some v)->Vis X.env.scope x->∃u,RelV v u/\Look X.env s.heap m x u
 cell:∀x c,X.env.cells.lookup x=some c->∃v,s.heap.IsCell c v
 free:H X.env.locals=none
 freeC:∀x c,X.env.cells.lookup x=some c->H c=none
 pin:∀p∈X.pn++pins,s.heap.get? p.1=some p.2/\H p.1=none/\p.1≠X.env.locals/\p.1∉X.fs/\∀v,p.2.data≠.cell v
 hok:HOk X.prog X.w H s.heap
 len:σ.length=X.N.length
section
variable {X:Cx}{pins:List (Addr×Obj)}{σ:List (Option V)}{H H':Hp}{s:Shared}{h':Heap}
theorem Cx.Ok.nofr (ok:X.Ok) {b:Addr}{o:Obj} (e:X.base.get? b=some o):b∉X.fs:=λhb=>by
 have:=(ok.funs.mem hb).1
 rw[e]at this;cases this
theorem Inv.bs (I:Inv X pins σ H s):∀b o,X.base.get? b=some o->s.heap.get? b=some o/\H b=none:=λb o e =>
 ⟨I.base.keep b o (I.ok.bs b o e).1 (I.ok.bs b o e).2 (I.ok.nofr e) (I.ok.noex b o e),I.base.free b o (I.ok.bs b o e).1 (I.ok.bs b o e).2 (I.ok.noex b o e)⟩
theorem Inv.bk (I:Inv X pins σ H s):∀b o,X.base.get? b=some o->s.heap.get? b=some o:=λb o e=>(I.bs b o e).1
theorem Inv.mod (I:Inv X pins σ H s):Mod X.K X.mg X.base:=I.ok.mod
theorem Inv.kIn (I:Inv X pins σ H s):X.K.In s.heap:=I.ok.mod.kin.keeps I.bk
theorem Inv.nolimit (I:Inv X pins σ H s):s.heap.NoLimit:=I.ok.mod.nolimit.keeps I.bk
theorem Inv.lt (I:Inv X pins σ H s):X.env.locals<s.heap.objs.size:=let ⟨_,hn,_⟩:=I.loc;hn.lt
theorem Inv.sz (I:Inv X pins σ H s):X.s₀.heap.objs.size<=s.heap.objs.size:=Nat.le_trans I.ok.above (Nat.le_of_lt I.lt)
theorem Inv.Znd (I:Inv X pins σ H s) {a:Addr} (h:s.heap.objs.size<=a):a∉X.fs:=λhb=>by
 obtain⟨_,o,ho,_⟩:=I.ok.funs.mem hb
 exact absurd (Nat.lt_of_lt_of_le (Heap.lt_size ho) (Nat.le_trans I.sz h)) (Nat.lt_irrefl _)
theorem Inv.cne (I:Inv X pins σ H s):∀x c,X.env.cells.lookup x=some c->c≠X.env.locals:=λx c e z=>by
 obtain⟨v,o,ho,hd⟩:=I.cell x c e
 obtain⟨m,⟨o',es,ep,ho',hd',_⟩,_⟩:=I.loc
 rw[z,ho']at ho;cases ho;rw[hd']at hd;cases hd
theorem Inv.funs (I:Inv X pins σ H s):s.heap.FunFrames X.base X.outer:=by
 have all:∀(l:List Env),(∀b∈frs l,b∈X.fs)->X.s₀.heap.FunFrames X.base l->s.heap.FunFrames X.base l:=by
  intro l
  induction l with
  |nil=>intro _ _;trivial
  |cons env r ih =>
   intro hs hl
   obtain⟨hk,⟨L,o,hf,hn,ho,hd⟩,hr⟩:=hl
   have hL:L∈X.fs:=hs L (by unfold frs;rw[List.filterMap_cons,hf];exact List.mem_cons_self)
   obtain⟨sl,e⟩:=I.base.slot L o ho (I.ok.frf L hL) hL λz=>I.ok.exfs L z hL
   exact⟨hk,⟨L,_,hf,hn,e,hd⟩,ih (λb hb=>hs b (by unfold frs;rw[List.filterMap_cons,hf];exact List.mem_cons_of_mem _ hb)) hr⟩
 exact all X.outer (λ_ hb=>hb) I.ok.funs
theorem Inv.stack (I:Inv X pins σ H s):s.heap.FunFrames X.base X.stack:=by
 rcases I.ok.stk with e|⟨e,hf⟩
 ·rw[e];exact I.funs
 ·rw[e]
  obtain⟨m,hn,_⟩:=I.loc
  refine .cons (by rw[I.ok.kind];decide) hf hn ?_ I.funs
  exact Heap.get?_none_of_le (Nat.le_trans I.ok.bsz I.ok.above)
theorem Inv.Ze0 (I:Inv X pins σ H s):∀b∈frs X.stack,b∈X.env.locals::X.fs:=λb hb=>by
 rcases I.ok.stk with e|⟨e,hf⟩
 ·rw[e]at hb;exact List.mem_cons_of_mem _ hb
 ·rw[e]at hb
  unfold frs at hb
  rw[List.filterMap_cons,hf]at hb
  exact hb
theorem Inv.ZgC (I:Inv X pins σ H s):∀b∈frs X.stack,H b=none:=λb hb=>by
 rcases List.mem_cons.mp (I.Ze0 b hb)with e|hb
 ·rw[e];exact I.free
 ·obtain⟨_,o,ho,_⟩:=I.ok.funs.mem hb
  exact I.base.free b o ho (I.ok.frf b hb) λz=>I.ok.exfs b z hb
theorem Inv.step {g':Array GenState}{t':Nat}{d':Drawn}{ch:List Addr} (I:Inv X pins σ H s)
  (hch:∀b∈ch,(b∈X.ex\/X.s₀.heap.objs.size<=b)/\b≠X.env.locals/\(∀x c,X.env.cells.lookup x=some c->c≠b)/\∀p∈X.pn++pins,p.1≠b)
  (keep:∀b o,b≠X.env.locals->b∉X.fs->b∉ch->s.heap.get? b=some o->H b=none->h'.get? b=some o)
  (slot:∀b o,b≠X.env.locals->b∈X.fs->b∉ch->s.heap.get? b=some o->H b=none->∃sl,h'.get? b=some {o with slots:=sl}) (free:∀b o,b∉ch->s.heap.get? b=some o->H b=none->H' b=none)
  (there:∀b o,b∉ch->s.heap.get? b=some o->∃o',h'.get? b=some o')
  (tups:∀b xs,H b=some (.tup xs)->H' b=some (.tup xs)) (frzs:∀b o u,H b=some (.frz o u)->H' b=some (.frz o u)) (tbls:∀b ps,H b=some (.tbl ps)->∃more,H' b=some (.tbl (ps++more)))
  (ns:∀m,s.heap.Ns X.env.locals m->h'.Ns X.env.locals m) (hok:HOk X.prog X.w H' h') (hg:AllBare g') :
  Inv X pins σ H' {s with heap:=h',gens:=g',drawn:=d',toks:=t'}:=by
 have neL:∀b o,X.s₀.heap.get? b=some o->b≠X.env.locals:=λb o e=>Nat.ne_of_lt (Nat.lt_of_lt_of_le (Heap.lt_size e) I.ok.above)
 have neC:∀b o,X.s₀.heap.get? b=some o->b∉X.ex->b∉ch:=λb o e hx hb=>by
  rcases(hch b hb).1 with z|z
  ·exact hx z
  ·exact absurd (Nat.lt_of_lt_of_le (Heap.lt_size e) z) (Nat.lt_irrefl _)
 have cellK:∀x c,X.env.cells.lookup x=some c->∀v,s.heap.IsCell c v->h'.IsCell c v:=λx c e v ⟨o,ho,hd⟩=>by
  have nch:c∉ch:=λz=>(hch c z).2.2.1 x c e rfl
  by_cases hc:c∈X.fs
  ·obtain⟨sl,q⟩:=slot c o (I.cne x c e) hc nch ho (I.freeC x c e)
   exact⟨_,q,hd⟩
  ·exact⟨o,keep c o (I.cne x c e) hc nch ho (I.freeC x c e),hd⟩
 refine⟨I.ok,I.os,hg,⟨λb o e n hb hx=>?_,λb o e n hb hx=>?_,λb o e n hx=>?_,λb o e hx=>?_,λb xs e=>tups b xs (I.base.tups b xs e),λb o xs e=>frzs b o xs (I.base.frzs b o xs e),λb ps e=>?_⟩,?_,λx c e=>?_,?_,λx c e=>?_,λp hp=>?_,hok,I.len⟩
 ·exact keep b o (neL b o e) hb (neC b o e hx) (I.base.keep b o e n hb hx) (I.base.free b o e n hx)
 ·obtain⟨sl,e1⟩:=I.base.slot b o e n hb hx
  obtain⟨sl',e2⟩:=slot b _ (neL b o e) hb (neC b o e hx) e1 (I.base.free b o e n hx)
  exact⟨sl',e2⟩
 ·obtain⟨o',e1⟩:=I.base.there b o e hx
  exact free b o' (neC b o e hx) e1 (I.base.free b o e n hx)
 ·obtain⟨o',e1⟩:=I.base.there b o e hx
  exact there b o' (neC b o e hx) e1
 ·obtain⟨m1,e1⟩:=I.base.tbls b ps e
  obtain⟨m2,e2⟩:=tbls b _ e1
  exact⟨m1++m2,by rw[e2,Array.append_assoc]⟩
 ·obtain⟨m,hn,hl⟩:=I.loc
  refine⟨m,ns m hn,λi x v e1 e2 e3=>?_⟩
  obtain⟨u,r,l⟩:=hl i x v e1 e2 e3
  refine⟨u,r,?_⟩
  rcases l with l|⟨k,c,e,z⟩
  ·exact .inl l
  ·exact .inr ⟨k,c,e,cellK x c e _ z⟩
 ·obtain⟨v,z⟩:=I.cell x c e
  exact⟨v,cellK x c e v z⟩
 ·obtain⟨m,⟨o,_,_,ho,_⟩,_⟩:=I.loc
  exact free _ o (λz=>(hch _ z).2.1 rfl) ho I.free
 ·obtain⟨v,o,ho,hd⟩:=I.cell x c e
  exact free c o (λz=>(hch c z).2.2.1 x c e rfl) ho (I.freeC x c e)
 ·obtain⟨e,n,ne,nf,d⟩:=I.pin p hp
  have nch:p.1∉ch:=λz=>(hch p.1 z).2.2.2 p hp rfl
  exact⟨keep p.1 p.2 ne nf nch e n,free p.1 p.2 nch e n,ne,nf,d⟩
theorem Inv.un {t':Nat} (I:Inv X pins σ H s) (u:Un X.fs [] H H' s.heap h') (hok:HOk X.prog X.w H' h'):Inv X pins σ H' {s with heap:=h',toks:=t'}:=by
 obtain⟨m,⟨o,es,ep,ho,r⟩,_⟩:=id I.loc
 obtain⟨sl,hL⟩:=u.any ho I.free (by simp)
 exact I.step (g':=s.gens) (d':=s.drawn) (ch:=[]) (λ_ z=>nomatch z) (λb o _ hb _ e n=>u.keep b o e n hb (by simp)) (λb o _ hb _ e n=>u.slot b o e n hb (by simp)) (λb o _ e n=>u.free b o e n (by simp)) (λb o _ e=>u.there b o e (by simp)) u.tups u.frzs u.tbls (λm' hm=>by
  obtain⟨o',es',ep',ho',r'⟩:=hm
  rw[ho]at ho';cases ho'
  exact⟨_,es',ep',hL,r'⟩) hok I.bare
theorem Inv.call {g':Array GenState}{t':Nat}{d':Drawn}{ch:List Addr} (I:Inv X pins σ H s) (u:Un (frs X.stack) ch H H' s.heap h') (hok:HOk X.prog X.w H' h') (hg:AllBare g')
  (hch:∀b∈ch,(b∈X.ex\/X.s₀.heap.objs.size<=b)/\b≠X.env.locals/\(∀x c,X.env.cells.lookup x=some c->c≠b)/\∀p∈X.pn++pins,p.1≠b) :
  Inv X pins σ H' {s with heap:=h',gens:=g',drawn:=d',toks:=t'}:=by
 obtain⟨m,⟨o,es,ep,ho,r⟩,_⟩:=id I.loc
 obtain⟨sl,hL⟩:=u.any ho I.free λz=>(hch _ z).2.1 rfl
 exact I.step (ch:=ch) hch (λb o hL hb hc e n=>u.keep b o e n (λz=>(List.mem_cons.mp (I.Ze0 b z)).elim hL hb) hc) (λb o _ _ hc e n=>u.any e n hc) (λb o hc e n=>u.free b o e n hc) (λb o hc e=>u.there b o e hc) u.tups u.frzs u.tbls (λm' hm=>by
  obtain⟨o',es',ep',ho',r'⟩:=hm
  rw[ho]at ho';cases ho'
  exact⟨_,es',ep',hL,r'⟩) hok hg
theorem Inv.turned {t':Nat}{it:Addr} (I:Inv X pins σ H s) (k:∀b o,b≠it->s.heap.get? b=some o->h'.get? b=some o) (hn:H it=none) (hL:it≠X.env.locals)
  (h1:it∈X.ex\/X.s₀.heap.objs.size<=it) (h2:∀x c,X.env.cells.lookup x=some c->c≠it) (h3:∀p∈X.pn++pins,p.1≠it):Inv X pins σ H {s with heap:=h',toks:=t'}:=by
 have nit:∀b u,H b=some u->b≠it:=λb u e z=>by rw[z,hn]at e;cases e
 refine I.step (g':=s.gens) (d':=s.drawn) (ch:=[it]) (λb hb=>?_) (λb o _ _ hc e _=>k b o (λz=>hc (by simp[z])) e) (λb o _ _ hc e _=>⟨o.slots,k b o (λz=>hc (by simp[z])) e⟩) (λ_ _ _ _ n=>n)
  (λb o hc e=>⟨o,k b o (λz=>hc (by simp[z])) e⟩) (λ_ _ e=>e) (λ_ _ _ e=>e) (λb ps e=>⟨#[],by rw[e];simp⟩) (λm hm=>?_) (λb u e=>?_) I.bare
 ·have e:b=it:=by simpa using hb
  subst e
  exact⟨h1,hL,h2,h3⟩
 ·obtain⟨o,es,ep,ho,r⟩:=hm
  exact⟨o,es,ep,k _ o (Ne.symm hL) ho,r⟩
 ·refine(I.hok b u e).Zih (λc v hc q=>k c v ?_ q) (λ_ q=>q) (λ_ _ q=>q) λ_ _ _ q=>q
  rcases hc with z|z
  ·rw[z];exact nit b u e
  ·exact nit c _ z
theorem Inv.tok (I:Inv X pins σ H s) (t:Nat):Inv X pins σ H {s with toks:=t}:=I.un (h':=s.heap) (t':=t) Un.refl I.hok
theorem Inv.kept {t':Nat} (I:Inv X pins σ H s) (k:∀b u,s.heap.get? b=some u->h'.get? b=some u):Inv X pins σ H {s with heap:=h',toks:=t'}:=I.un (Un.kept k) (I.hok.kept k)
theorem Inv.laid {a:Addr}{o:HO}{t':Nat} (I:Inv X pins σ H s) (k:∀b u,s.heap.get? b=some u->h'.get? b=some u) (hp:s.heap.objs.size<=a) (new:Zau X.prog X.w (upd H a o) h' a o) :
  Inv X pins σ (upd H a o) {s with heap:=h',toks:=t'}:=I.un (Un.laid k hp (I.hok.fresh hp)) (I.hok.laid k hp new)
theorem Inv.write {x e:Addr}{o:HO}{t':Nat} (I:Inv X pins σ H s) (mu:Mut (H x)) (he:e=x\/H e=some (.own x)) (k:∀b u,b≠e->s.heap.get? b=some u->h'.get? b=some u) (heo:∃u,h'.get? e=some u)
  (new:Zau X.prog X.w (upd H x o) h' x o):Inv X pins σ (upd H x o) {s with heap:=h',toks:=t'}:=I.un (Un.write mu he k heo) (I.hok.write mu he k heo new)
theorem Inv.weak {σ':List (Option V)} (I:Inv X pins σ H s) (hl:σ'.length=σ.length) (w:∀(i:Nat) v,σ'[i]?=some (some v)->σ[i]?=some (some v)):Inv X pins σ' H s :=
 ⟨I.ok,I.os,I.bare,I.base,let ⟨m,hn,hl'⟩:=I.loc;⟨m,hn,λi x v e1 e2 e3=>hl' i x v e1 (w i v e2) e3⟩,I.cell,I.free,I.freeC,I.pin,I.hok,hl.trans I.len⟩
theorem Inv.ZX {pins':List (Addr×Obj)} (I:Inv X pins σ H s) (h:∀p∈pins',s.heap.get? p.1=some p.2/\H p.1=none/\p.1≠X.env.locals/\p.1∉X.fs/\∀v,p.2.data≠.cell v):Inv X pins' σ H s :=
 ⟨I.ok,I.os,I.bare,I.base,I.loc,I.cell,I.free,I.freeC,λp hp=>(List.mem_append.mp hp).elim (λz=>I.pin p (List.mem_append_left _ z)) (h p),I.hok,I.len⟩
theorem ZlQ {N:List Str} (hN:N.Nodup) {i j:Nat}{x:Str} (a:N[i]?=some x) (b:N[j]?=some x):i=j:=by
 obtain⟨h1,e1⟩:=List.getElem?_eq_some_iff.mp a
 obtain⟨h2,e2⟩:=List.getElem?_eq_some_iff.mp b
 exact(List.getElem_inj hN).mp (e1.trans e2.symm)
theorem ZoZ {M:Model}{A:Around}{E:Value->Shared->Prop}{i:Nat}{x:Str}{v:V}{u:Value}{Q:Unit->Shared->Prop} (I:Inv X pins σ H s) (hN:X.N.Nodup) (hi:X.N[i]?=some x) (hx:Loc X.env.scope x) (r:RelV v u)
  (h:∀s',Inv X pins (σ.set i (some v)) H s'->(∃a,Heap.SameBut a s.heap s'.heap/\(a=X.env.locals\/X.env.cells.lookup x=some a))->Q () s') (hf:X.fn x=true\/X.env.scope.names.lookup x=some .local:=by first|exact .inl rfl|exact .inr rfl|assumption):wpAny M A (storeName X.env x u) Q E s:=by
 obtain⟨m,hn,hl⟩:=id I.loc
 have hcls:(X.env.scope.kind==.class||(X.env.scope.kind==.module&&X.env.locals != X.env.globals))=false:=by rw[I.ok.kind];rfl
 have hiσ:i < σ.length:=by rw[I.len];exact(List.getElem?_eq_some_iff.mp hi).1
 have cne:=I.cne
 have tracked:∀{a:Addr}{h':Heap},(∃o,s.heap.get? a=some o/\H a=none)->Heap.SameBut a s.heap h'->HOk X.prog X.w H h':=λ{a h'} ha hs b ob e=>by
  obtain⟨_,_,hfree⟩:=ha
  refine(I.hok b ob e).Zih (λc w' hc q=>(hs.2 c ?_).trans q) (λ_ q=>q) (λ_ _ q=>q) λ_ _ _ q=>q
  rintro rfl
  rcases hc with rfl|hc
  ·rw[hfree]at e;cases e
  ·rw[hfree]at hc;cases hc
 rcases hx with hk|hk
 ·refine wpAny_storeName_local hk hn (λh' hn' hs=>?_) hcls
  obtain⟨oL,_,_,hoL,_⟩:=id hn
  refine h _ ⟨I.ok,I.os,I.bare,⟨λb o e n hb hx=>?_,λb o e n hb hx=>?_,I.base.free,λb o e hx=>?_,I.base.tups,I.base.frzs,I.base.tbls⟩,⟨_,hn',λj y v' e1 e2 e3=>?_⟩,λy c e=>?_,I.free,I.freeC,λp hp=>?_,tracked ⟨oL,hoL,I.free⟩ hs,by simpa using I.len⟩ ⟨_,hs,.inl rfl⟩
  ·exact(hs.2 b (Nat.ne_of_lt (Nat.lt_of_lt_of_le (Heap.lt_size e) I.ok.above))).trans (I.base.keep b o e n hb hx)
  ·obtain⟨sl,e1⟩:=I.base.slot b o e n hb hx
   exact⟨sl,(hs.2 b (Nat.ne_of_lt (Nat.lt_of_lt_of_le (Heap.lt_size e) I.ok.above))).trans e1⟩
  ·obtain⟨o',e1⟩:=I.base.there b o e hx
   exact⟨o',(hs.2 b (Nat.ne_of_lt (Nat.lt_of_lt_of_le (Heap.lt_size e) I.ok.above))).trans e1⟩
  ·by_cases hj:j=i
   ·subst hj
    rw[hi]at e1;cases e1
    rw[List.getElem?_set_self hiσ]at e2
    cases e2
    exact⟨u,r,.inl ⟨hk,by simp⟩⟩
   ·rw[List.getElem?_set_ne (Ne.symm hj)]at e2
    obtain⟨u',r',q⟩:=hl j y v' e1 e2 e3
    refine⟨u',r',?_⟩
    rcases q with⟨k,e⟩|⟨k,c,e,z⟩
    ·refine .inl ⟨k,?_⟩
     have:y≠x:=λe=>hj (ZlQ hN e1 (e▸hi))
     simp[this,e]
    ·exact .inr ⟨k,c,e,z.sameBut hs (cne y c e)⟩
  ·obtain⟨w',z⟩:=I.cell y c e
   exact⟨w',z.sameBut hs (cne y c e)⟩
  ·obtain⟨e,n,ne,nf,d⟩:=I.pin p hp
   exact⟨(hs.2 p.1 ne).trans e,n,ne,nf,d⟩
 ·have hfn:X.fn x=true:=by
   rcases hf with z|z
   ·exact z
   ·rw[z]at hk;cases hk
  obtain⟨c,hc⟩:=I.ok.has x (.inl hk)
  obtain⟨w',z⟩:=I.cell x c hc
  refine wpAny_storeName_cell I.ok.kind hk hc z (λh' hc' hs=>?_)
  obtain⟨oc,hoc,hocd⟩:=id z
  refine h {s with heap:=h'} ⟨I.ok,I.os,I.bare,⟨λb o e n hb hx=>?_,λb o e n hb hx=>?_,I.base.free,λb o e hx=>?_,I.base.tups,I.base.frzs,I.base.tbls⟩,⟨m,hn.sameBut hs (Ne.symm (cne x c hc)),λj y v' e1 e2 e3=>?_⟩,λy c' e=>?_,I.free,I.freeC,λp hp=>?_,tracked ⟨oc,hoc,I.freeC x c hc⟩ hs,by simpa using I.len⟩ ⟨c,hs,.inr hc⟩
  ·exact(hs.2 b (Nat.ne_of_lt (Nat.lt_of_lt_of_le (Heap.lt_size e) (I.ok.cab x c hfn hc)))).trans (I.base.keep b o e n hb hx)
  ·obtain⟨sl,e1⟩:=I.base.slot b o e n hb hx
   exact⟨sl,(hs.2 b (Nat.ne_of_lt (Nat.lt_of_lt_of_le (Heap.lt_size e) (I.ok.cab x c hfn hc)))).trans e1⟩
  ·obtain⟨o',e1⟩:=I.base.there b o e hx
   exact⟨o',(hs.2 b (Nat.ne_of_lt (Nat.lt_of_lt_of_le (Heap.lt_size e) (I.ok.cab x c hfn hc)))).trans e1⟩
  ·by_cases hj:j=i
   ·subst hj
    rw[hi]at e1;cases e1
    rw[List.getElem?_set_self hiσ]at e2
    cases e2
    exact⟨u,r,.inr ⟨.inl hk,c,hc,hc'⟩⟩
   ·rw[List.getElem?_set_ne (Ne.symm hj)]at e2
    obtain⟨u',r',q⟩:=hl j y v' e1 e2 e3
    refine⟨u',r',?_⟩
    rcases q with q|⟨k,c',e,z'⟩
    ·exact .inl q
    ·refine .inr ⟨k,c',e,z'.sameBut hs ?_⟩
     rintro rfl
     exact hj (ZlQ hN e1 (I.ok.inj _ _ _ e hc▸hi))
  ·by_cases hcc:c'=c
   ·subst hcc;exact⟨_,hc'⟩
   ·obtain⟨w2,z2⟩:=I.cell y c' e
    exact⟨w2,z2.sameBut hs hcc⟩
  ·obtain⟨e,n,ne,nf,d⟩:=I.pin p hp
   refine⟨(hs.2 p.1 ?_).trans e,n,ne,nf,d⟩
   intro q
   rw[q,hoc]at e
   have q':oc=p.2:=Option.some.inj e
   exact d w' (by rw[<-q'];exact hocd)
theorem Ziz {M:Model}{A:Around}{E:Value->Shared->Prop}{i:Nat}{x:Str}{v:V}{u:Value}{Q:Unit->Shared->Prop} (I:Inv X pins σ H s) (hN:X.N.Nodup) (hi:X.N[i]?=some x) (hx:Loc X.env.scope x) (r:RelV v u)
  (h:∀s',Inv X pins (σ.set i (some v)) H s'->Q () s') (hf:X.fn x=true\/X.env.scope.names.lookup x=some .local:=by first|exact .inl rfl|exact .inr rfl|assumption):wpAny M A (storeName X.env x u) Q E s :=
 ZoZ I hN hi hx r (λs' I' _=>h s' I') hf
theorem Inv.Zq4 {s':Shared}{ch:List Addr} (I:Inv X pins σ H s) (ho:s'.os=s.os) (u:Un (frs X.stack) ch H H' s.heap s'.heap) (hok:HOk X.prog X.w H' s'.heap) (hg:AllBare s'.gens)
  (hch:∀b∈ch,(b∈X.ex\/X.s₀.heap.objs.size<=b)/\b≠X.env.locals/\(∀x c,X.env.cells.lookup x=some c->c≠b)/\∀p∈X.pn++pins,p.1≠b):Inv X pins σ H' s':=by
 obtain⟨h',g',d',t',o'⟩:=s'
 have e:o'=s.os:=ho
 subst e
 exact I.call (g':=g') (t':=t') (d':=d') u hok hg hch
end
noncomputable abbrev XK:=Value->Option Addr->Hp->Prop
noncomputable abbrev St:=List (Option V)
noncomputable abbrev VK:=V->Hp->Prop
noncomputable abbrev TE:=St->Hp->VK->Prop
noncomputable abbrev TT:=St->Hp->(Bool->Hp->Prop)->Prop
noncomputable abbrev TA:=St->Hp->(List V->Hp->Prop)->Prop
structure Ends where
 nx:St->Hp->Prop
 rt:VK
 bk:St->Hp->Prop:=λ_ _=>False
 ct:St->Hp->Prop:=λ_ _=>False
noncomputable abbrev TS:=Ends->St->Hp->Prop
noncomputable def EP (X:Cx) (pins:List (Addr×Obj)) (σ:St) (Q:VK) (u:Value) (s':Shared):Prop:=∃v H',Inv X pins σ H' s'/\RelV v u/\Q v H'
noncomputable def TP (X:Cx) (pins:List (Addr×Obj)) (σ:St) (Q:Bool->Hp->Prop) (b:Bool) (s':Shared):Prop:=∃H',Inv X pins σ H' s'/\Q b H'
noncomputable def AP (X:Cx) (pins:List (Addr×Obj)) (σ:St) (Q:List V->Hp->Prop) (us:List Value) (s':Shared):Prop:=∃vs H',Inv X pins σ H' s'/\Vals vs us/\Q vs H'
noncomputable def SP (X:Cx) (pins:List (Addr×Obj)) (D:Ends) (f:Flow) (s':Shared):Prop :=
 match f with
 |.next=>∃σ' H',Inv X pins σ' H' s'/\D.nx σ' H'
 |.brk=>∃σ' H',Inv X pins σ' H' s'/\D.bk σ' H'
 |.cont=>∃σ' H',Inv X pins σ' H' s'/\D.ct σ' H'
 |.ret u=>∃v σ' H',Inv X pins σ' H' s'/\RelV v u/\D.rt v H'
noncomputable def PE (X:Cx) (e:Expr) (t:TE):Prop :=
 ∀(pins:List (Addr×Obj)) (s:Shared) (σ:St) (H:Hp) (Q:VK),Inv X pins σ H s->t σ H Q->wpAny (model X.prog X.w) X.A (eval e X.env) (EP X pins σ Q) X.xe s
noncomputable def PT (X:Cx) (e:Expr) (t:TT):Prop :=
 ∀(pins:List (Addr×Obj)) (s:Shared) (σ:St) (H:Hp) (Q:Bool->Hp->Prop),Inv X pins σ H s->t σ H Q->wpAny (model X.prog X.w) X.A (isTrue e X.env (eval e X.env)) (TP X pins σ Q) X.xe s
noncomputable def PW (X:Cx) (e:Expr) (t:TT):Prop :=
 ∀(whole:Sem Value) (pins:List (Addr×Obj)) (s:Shared) (σ:St) (H:Hp) (Q:Bool->Hp->Prop),Inv X pins σ H s->t σ H Q->wpAny (model X.prog X.w) X.A (isTrue e X.env whole) (TP X pins σ Q) X.xe s
theorem PW.pt {X:Cx}{e:Expr}{t:TT} (h:PW X e t):PT X e t:=h _
noncomputable def PA (X:Cx) (es:List Expr) (t:TA):Prop :=
 ∀(pos:Pos) (pins:List (Addr×Obj)) (s:Shared) (σ:St) (H:Hp) (Q:List V->Hp->Prop),Inv X pins σ H s->t σ H Q->wpAny (model X.prog X.w) X.A (spliced (backTo pos (starEach es X.env))) (AP X pins σ Q) X.xe s
noncomputable def PS (X:Cx) (st:Stmt) (t:TS):Prop :=
 ∀(pins:List (Addr×Obj)) (s:Shared) (σ:St) (H:Hp) (D:Ends),Inv X pins σ H s->t D σ H->wpAny (model X.prog X.w) X.A (exec st X.env) (SP X pins D) X.xe s
noncomputable def PSs (X:Cx) (st:List Stmt) (t:TS):Prop :=
 ∀(pins:List (Addr×Obj)) (s:Shared) (σ:St) (H:Hp) (D:Ends),Inv X pins σ H s->t D σ H->wpAny (model X.prog X.w) X.A (execs st X.env) (SP X pins D) X.xe s
theorem thn {α:Type}{t:Sem α}{Q Q':α->Shared->Prop}{M:Model}{A:Around}{E:Value->Shared->Prop}{s:Shared} (h:wpAny M A t Q E s) (hQ:∀a s,Q a s->Q' a s):wpAny M A t Q' E s:=wpAny_mono h hQ λ_ _ x=>x
section
variable {X:Cx}
noncomputable def ZlR (i:Nat):TE:=fun σ H Q=>∃v,σ[i]?=some (some v)/\Q v H
noncomputable def tC (v:V):TE:=λ_ H Q=>Q v H
theorem pe_var {i:Nat}{x:Str}{pos:Pos} (hN:X.N[i]?=some x) (hv:Vis X.env.scope x) (hd:(x==("__debug__":Str))=false:=by decide) (hcd:(x==("__classdict__":Str))=false:=by decide):PE X (.Name x pos) (ZlR i):=by
 intro pins s σ H Q I h
 obtain⟨v,e,h⟩:=h
 obtain⟨m,hn,hl⟩:=I.loc
 obtain⟨u,r,l⟩:=hl i x v hN e hv
 have fin:EP X pins σ Q u s:=⟨v,H,I,r,h⟩
 rcases l with⟨hk,hm⟩|⟨hk,c,hc,hcell⟩
 ·exact wpAny_Name (wpAny_loadName_local I.ok.kind hk hn hm fin) hd
 ·rcases hk with hk|hk
  ·exact wpAny_Name (wpAny_loadName_cell I.ok.kind hk hc hcell fin) hd
  ·exact wpAny_Name (wpAny_loadName_free I.ok.kind hk hc hcell fin hcd) hd
theorem Zf {i j pos}:PE X (.Constant (.int i) j pos) (tC (.int i)):=λ_ _ _ H _ I h=>wpAny_Constant_int ⟨.int i,H,I.tok _,⟨_,rfl⟩,h⟩
theorem Zcv {b j pos}:PE X (.Constant (.bool b) j pos) (tC (.bl b)):=λ_ _ _ H _ I h=>Constant_bool ⟨.bl b,H,I,rfl,h⟩
theorem Ze1 {j pos}:PE X (.Constant .none j pos) (tC .non):=λ_ _ _ H _ I h=>Constant_none ⟨.non,H,I,rfl,h⟩
theorem Zgc {x j pos}:PE X (.Constant (.str x) j pos) (tC (.str x)):=λ_ _ _ H _ I h=>Calls.Constant_str ⟨.str x,H,I.tok _,⟨_,rfl⟩,h⟩
noncomputable def Gl (X:Cx) (x:Str):Prop:=X.env.kindOf x=some .globalImplicit
theorem ZkO {E:Value->Shared->Prop}{pins:List (Addr×Obj)}{s:Shared}{σ:St}{H:Hp}{x:Str}{u:Value}{pos:Pos}{Q:Value->Shared->Prop} (I:Inv X pins σ H s) (hg:Gl X x) (hm:X.mg x=some u) (h:Q u s)
  (hd:(x==("__debug__":Str))=false:=by decide):wpAny (model X.prog X.w) X.A (eval (.Name x pos) X.env) Q E s :=
 Calls.Name_function_global I.ok.kind hg (Calls.loadGlobal_global (by rw[I.ok.glob];exact I.mod.glob.keeps I.bk) hm h) hd
theorem ZbK {E:Value->Shared->Prop}{pins:List (Addr×Obj)}{s:Shared}{σ:St}{H:Hp}{x:Str}{u:Value}{pos:Pos}{Q:Value->Shared->Prop} (I:Inv X pins σ H s) (hg:Gl X x) (hm:X.mg x=none) (hv:bootBuiltins x=some u) (h:Q u s)
  (hn:x≠"__name__":=by decide) (hd:(x==("__debug__":Str))=false:=by decide):wpAny (model X.prog X.w) X.A (eval (.Name x pos) X.env) Q E s:=by
 obtain⟨mb,h1,h2⟩:=I.mod.blt
 exact Calls.Name_function_global I.ok.kind hg (Calls.loadGlobal_builtin (by rw[I.ok.glob];exact I.mod.glob.keeps I.bk) hm (by rw[I.ok.blt];exact h1.keeps I.bk) ((h2 x hn).trans hv) h) hd
theorem Ztm {x:Str}{v:V}{u:Value}{pos:Pos} (hg:Gl X x) (hm:X.mg x=some u) (r:RelV v u) (hd:(x==("__debug__":Str))=false:=by decide):PE X (.Name x pos) (tC v) :=
 λ_ _ _ H _ I h=>ZkO I hg hm ⟨v,H,I,r,h⟩ hd
theorem ZkP {x:Str}{v:V}{u:Value}{pos:Pos} (hg:Gl X x) (hm:X.mg x=none) (hv:bootBuiltins x=some u) (r:RelV v u) (hn:x≠"__name__":=by decide) (hd:(x==("__debug__":Str))=false:=by decide):PE X (.Name x pos) (tC v) :=
 λ_ _ _ H _ I h=>ZbK I hg hm hv ⟨v,H,I,r,h⟩ hn hd
variable {a b:Expr}{ta tb:TE}{pos:Pos}
noncomputable def tB (t:TE):TT:=fun σ H Q=>t σ H λx H1=>∃c,x=.bl c/\Q c H1
theorem Ze2 {e:Expr}{t:TE} (h:PE X e t) (he:∀whole,isTrue e X.env whole=(do let v <-whole;standAt e.pos;holding [v] (truthy v)):=by intro _;rfl):PT X e (tB t):=by
 intro pins s σ H Q I hw
 refine isTrue_plain (thn (h pins s σ H _ I hw) λv s1 ⟨x,H1,I1,r1,q1⟩=>?_) (he _)
 obtain⟨d,rfl,q⟩:=q1
 cases r1
 exact wpAny_truthy_bool ⟨H1,I1,q⟩
variable {tA tB':TT}{rest:List Expr}
noncomputable def tAnd (t u:TT):TT:=fun σ H Q=>t σ H λc H1=>if c=true then u σ H1 Q else Q false H1
noncomputable def tOr (t u:TT):TT:=fun σ H Q=>t σ H λc H1=>if c=true then Q true H1 else u σ H1 Q
noncomputable def tNot (t:TT):TT:=fun σ H Q=>t σ H λc H1=>Q (!c) H1
theorem ZgD (ha:PT X a tA):PW X (.BoolOp .And [a] pos) tA:=by
 intro wh pins s σ H Q I h
 refine isTrue_and (thn (ha pins s σ H Q I h) λc s1 e=>?_)
 cases c with
 |true=>exact isTrue_and_nil e
 |false=>exact e
theorem Zd8 (ha:PT X a tA):PW X (.BoolOp .Or [a] pos) tA:=by
 intro wh pins s σ H Q I h
 refine isTrue_or (thn (ha pins s σ H Q I h) λc s1 e=>?_)
 cases c with
 |false=>exact isTrue_or_nil e
 |true=>exact e
theorem ZiA (ha:PT X a tA) (hb:PW X (.BoolOp .And (b::rest) pos) tB'):PW X (.BoolOp .And (a::b::rest) pos) (tAnd tA tB'):=by
 intro wh pins s σ H Q I h
 refine isTrue_and (thn (ha pins s σ H _ I h) λc s1 ⟨H1,I1,q1⟩=>?_)
 cases c with
 |true=>exact hb wh pins s1 σ H1 Q I1 q1
 |false=>exact⟨H1,I1,q1⟩
theorem Zf5 (ha:PT X a tA) (hb:PW X (.BoolOp .Or (b::rest) pos) tB'):PW X (.BoolOp .Or (a::b::rest) pos) (tOr tA tB'):=by
 intro wh pins s σ H Q I h
 refine isTrue_or (thn (ha pins s σ H _ I h) λc s1 ⟨H1,I1,q1⟩=>?_)
 cases c with
 |true=>exact⟨H1,I1,q1⟩
 |false=>exact hb wh pins s1 σ H1 Q I1 q1
theorem Ze3 (ha:PT X a tA):PT X (.UnaryOp .Not a pos) (tNot tA):=by
 intro pins s σ H Q I h
 exact isTrue_not (ha pins s σ H (λc H1=>Q (!c) H1) I h)
noncomputable def Zq5 (ta tb:TE):TE:=fun σ H Q=>ta σ H λx H1=>∃c,x=.bl c/\if c=true then tb σ H1 Q else Q (.bl false) H1
noncomputable def tOrV (ta tb:TE):TE:=fun σ H Q=>ta σ H λx H1=>∃c,x=.bl c/\if c=true then Q (.bl true) H1 else tb σ H1 Q
theorem Zd9 {op}{t:TE} (h:PE X a t):PE X (.BoolOp op [a] pos) t:=λpins s σ H Q I hw=>BoolOp_one (h pins s σ H Q I hw)
theorem Zea (ha:PE X a ta) (hb:PE X (.BoolOp .And (b::rest) pos) tb):PE X (.BoolOp .And (a::b::rest) pos) (Zq5 ta tb):=by
 intro pins s σ H Q I h
 refine BoolOp_and (thn (ha pins s σ H _ I h) λv s1 ⟨x,H1,I1,r1,q1⟩=>?_)
 obtain⟨c,rfl,q1⟩:=q1
 cases r1
 refine wpAny_truthy_bool ?_
 cases c with
 |true=>exact hb pins s1 σ H1 Q I1 q1
 |false=>exact⟨.bl false,H1,I1,rfl,q1⟩
theorem pe_or (ha:PE X a ta) (hb:PE X (.BoolOp .Or (b::rest) pos) tb):PE X (.BoolOp .Or (a::b::rest) pos) (tOrV ta tb):=by
 intro pins s σ H Q I h
 refine BoolOp_or (thn (ha pins s σ H _ I h) λv s1 ⟨x,H1,I1,r1,q1⟩=>?_)
 obtain⟨c,rfl,q1⟩:=q1
 cases r1
 refine wpAny_truthy_bool ?_
 cases c with
 |false=>exact hb pins s1 σ H1 Q I1 q1
 |true=>exact⟨.bl true,H1,I1,rfl,q1⟩
noncomputable def tIf (t:TT) (ta tb:TE):TE:=fun σ H Q=>t σ H λc H1=>if c=true then ta σ H1 Q else tb σ H1 Q
theorem ZlS {c:Expr} (hc:PT X c tA) (ha:PE X a ta) (hb:PE X b tb):PE X (.IfExp c a b pos) (tIf tA ta tb):=by
 intro pins s σ H Q I h
 refine wpAny_IfExp (thn (hc pins s σ H _ I h) λd s1 ⟨H1,I1,q1⟩=>?_)
 cases d with
 |true=>exact ha pins s1 σ H1 Q I1 q1
 |false=>exact hb pins s1 σ H1 Q I1 q1
end
noncomputable def SqL (K:PySem.W.Frag) (H:Hp) (a:Addr) (xs:List V):Prop :=
 Rd H a (.lst xs) \/
  ∃(o:Obj) (its:Array Value) (n:Nat),K.lookup a=some o/\o.cls=.type "list"/\o.dict=none/\o.data=.seq its n/\its.size<=sizeLine/\Vals xs its.toList
noncomputable def SqT (K:PySem.W.Frag) (H:Hp) (a:Addr) (xs:List V):Prop :=
 Rd H a (.tup xs) \/
  ∃(o:Obj) (its:Array Value) (n:Nat),K.lookup a=some o/\o.cls=.type "tuple"/\o.data=.seq its n/\its.size<=sizeLine/\Vals xs its.toList
noncomputable def absV:Value->Option V
 |.none=>some .non
 |.bool b=>some (.bl b)
 |.int i _=>some (.int i)
 |.str x _=>some (.str x)
 |.bytes b _=>some (.byt b)
 |.float b _=>some (.flt b)
 |.ref a=>some (.ref a)
 |.type n=>some (.ty n)
 |_=>none
theorem RelV.abs {x:V}{u:Value} (r:RelV x u):absV u=some x:=by
 cases x with
 |non=>cases r;rfl
 |bl _=>cases r;rfl
 |int _=>obtain⟨t,rfl⟩:=r;rfl
 |str _=>obtain⟨t,rfl⟩:=r;rfl
 |byt _=>obtain⟨t,rfl⟩:=r;rfl
 |flt _=>obtain⟨t,rfl⟩:=r;rfl
 |ref _=>cases r;rfl
 |ty _=>cases r;rfl
theorem RelV.inj {x y:V}{u:Value} (r:RelV x u) (q:RelV y u):x=y:=Option.some.inj (r.abs.symm.trans q.abs)
theorem Vals.inj:∀{xs ys:List V}{us:List Value},Vals xs us->Vals ys us->xs=ys
 |_,_,_,.nil,.nil=>rfl
 |_,_,_,.cons r t,.cons r' t'=>by rw[r.inj r',Vals.inj t t']
section
variable {X:Cx}{pins:List (Addr×Obj)}{σ:St}{H:Hp}{s:Shared}{a:Addr}{xs ys:List V}
theorem SqL.of {K:PySem.W.Frag} (h:H a=some (.lst xs)):SqL K H a xs:=.inl (.inl h)
theorem SqT.of {K:PySem.W.Frag} (h:H a=some (.tup xs)):SqT K H a xs:=.inl (.inl h)
theorem Inv.list (I:Inv X pins σ H s) (h:SqL X.K H a xs):∃its:List Value,Vals xs its/\PlainL s.heap a its.toArray/\xs.length<=sizeLine:=by
 rcases h with h|⟨o,its,n,hk,hc,hd,hs,hz,r⟩
 ·obtain⟨z,its,n,r,e⟩:=h.ok I.hok
  exact⟨its,r,⟨_,n,e,rfl,rfl,rfl⟩,z⟩
 ·refine⟨its.toList,r,⟨o,n,I.kIn a o hk,hc,hd,by simpa using hs⟩,?_⟩
  have e:=r.length
  simp only[Array.length_toList]at e
  omega
theorem Inv.tuple (I:Inv X pins σ H s) (h:SqT X.K H a xs):∃its:List Value,Vals xs its/\IsTup s.heap a its.toArray/\xs.length<=sizeLine:=by
 rcases h with h|⟨o,its,n,hk,hc,hs,hz,r⟩
 ·obtain⟨z,its,r,p⟩:=h.ok I.hok
  exact⟨its,r,p,z⟩
 ·refine⟨its.toList,r,⟨o,I.kIn a o hk,hc,n,by simpa using hs⟩,?_⟩
  have e:=r.length
  simp only[Array.length_toList]at e
  omega
theorem Inv.Zb4 (I:Inv X pins σ H s) (h:SqL X.K H a xs) (h':SqL X.K H a ys):xs=ys:=by
 obtain⟨its,r,⟨o,n,e,_,_,d⟩,_⟩:=I.list h
 obtain⟨its',r',⟨o',n',e',_,_,d'⟩,_⟩:=I.list h'
 rw[e]at e';cases e'
 rw[d]at d'
 injection d' with d1 _
 have:its=its':=by simpa using congrArg Array.toList d1
 subst this
 exact r.inj r'
theorem Inv.Zhc (I:Inv X pins σ H s) (h:SqT X.K H a xs) (h':SqT X.K H a ys):xs=ys:=by
 obtain⟨its,r,⟨o,e,_,n,d⟩,_⟩:=I.tuple h
 obtain⟨its',r',⟨o',e',_,n',d'⟩,_⟩:=I.tuple h'
 rw[e]at e';cases e'
 rw[d]at d'
 injection d' with d1 _
 have:its=its':=by simpa using congrArg Array.toList d1
 subst this
 exact r.inj r'
end
noncomputable abbrev Cx.Zhd (X:Cx) (E:Value->Shared->Prop):Cx:={X with xe:=E}
noncomputable abbrev Cx.nox (X:Cx):Cx:=X.Zhd λ_ _=>False
theorem Cx.Ok.Zhd {X:Cx} (ok:X.Ok) (E:Value->Shared->Prop):(X.Zhd E).Ok :=
 ⟨ok.mod,ok.kind,ok.glob,ok.blt,ok.above,ok.inj,ok.has,ok.cab,ok.hd,ok.frames,ok.stk,ok.exf,ok.bs,ok.bsz,ok.noex,ok.exfs,ok.funs,ok.frf⟩
theorem Cx.Ok.ZcO {X:Cx}{E:Value->Shared->Prop} (ok:(X.Zhd E).Ok):X.Ok :=
 ⟨ok.mod,ok.kind,ok.glob,ok.blt,ok.above,ok.inj,ok.has,ok.cab,ok.hd,ok.frames,ok.stk,ok.exf,ok.bs,ok.bsz,ok.noex,ok.exfs,ok.funs,ok.frf⟩
section
variable {X:Cx}{pins:List (Addr×Obj)}{σ:St}{H:Hp}{s:Shared}{E:Value->Shared->Prop}
theorem Inv.Zhd (I:Inv X pins σ H s) (E:Value->Shared->Prop):Inv (X.Zhd E) pins σ H s:=⟨I.ok.Zhd E,I.os,I.bare,I.base,I.loc,I.cell,I.free,I.freeC,I.pin,I.hok,I.len⟩
theorem Inv.ZcO (I:Inv (X.Zhd E) pins σ H s):Inv X pins σ H s:=⟨I.ok.ZcO,I.os,I.bare,I.base,I.loc,I.cell,I.free,I.freeC,I.pin,I.hok,I.len⟩
theorem SP.ZcO {D:Ends}{f:Flow}{s':Shared} (h:SP (X.Zhd E) pins D f s'):SP X pins D f s':=by
 cases f with
 |next=>obtain⟨σ',H',I,q⟩:=h;exact⟨σ',H',I.ZcO,q⟩
 |brk=>obtain⟨σ',H',I,q⟩:=h;exact⟨σ',H',I.ZcO,q⟩
 |cont=>obtain⟨σ',H',I,q⟩:=h;exact⟨σ',H',I.ZcO,q⟩
 |ret u=>obtain⟨v,σ',H',I,r,q⟩:=h;exact⟨v,σ',H',I.ZcO,r,q⟩
theorem PE.nox {e:Expr}{t:TE} (h:PE X.nox e t):PE X e t:=λpins s σ H Q I hw =>
 wpAny_mono (h pins s σ H Q (I.Zhd _) hw) (λ_ _ ⟨v,H',I',r,q⟩=>⟨v,H',I'.ZcO,r,q⟩) λ_ _ z=>False.elim z
theorem PT.nox {e:Expr}{t:TT} (h:PT X.nox e t):PT X e t:=λpins s σ H Q I hw =>
 wpAny_mono (h pins s σ H Q (I.Zhd _) hw) (λ_ _ ⟨H',I',q⟩=>⟨H',I'.ZcO,q⟩) λ_ _ z=>False.elim z
theorem PSs.nox {st:List Stmt}{t:TS} (h:PSs X.nox st t):PSs X st t:=λpins s σ H D I hw =>
 wpAny_mono (h pins s σ H D (I.Zhd _) hw) (λ_ _ q=>q.ZcO) λ_ _ z=>False.elim z
end
section
variable {X:Cx}{st:Stmt}{rest:List Stmt}{t u:TS}{e:Expr}{te:TE}{pos:Pos}
noncomputable def Zq6:TS:=λD σ H=>D.nx σ H
noncomputable def tSeq (t u:TS):TS:=λD σ H=>t {D with nx:=u D} σ H
theorem ZC:PSs X [] Zq6:=λ_ _ σ H _ I h=>wpAny_execs_nil ⟨σ,H,I,h⟩
theorem Zc (h1:PS X st t) (h2:PSs X rest u):PSs X (st::rest) (tSeq t u):=by
 intro pins s σ H D I h
 refine wpAny_execs_cons (thn (h1 pins s σ H {D with nx:=u D} I h) λf s1 q=>?_)
 cases f with
 |next =>
  obtain⟨σ',H',I',q⟩:=q
  exact h2 pins s1 σ' H' D I' q
 |ret v=>exact q
 |brk=>exact q
 |cont=>exact q
theorem Zi (h1:PS X st t):PSs X [st] t:=by
 intro pins s σ H D I h
 refine wpAny_execs_cons (thn (h1 pins s σ H D I h) λf s1 q=>?_)
 cases f with
 |next=>exact wpAny_execs_nil q
 |ret v=>exact q
 |brk=>exact q
 |cont=>exact q
theorem Inv.quiet {pins:List (Addr×Obj)}{σ:St}{H:Hp}{s:Shared} (I:Inv X pins σ H s):interactive X.env=false:=by simp[interactive,I.ok.kind]
noncomputable def Zq7 (te:TE):TS:=λD σ H=>te σ H λ_ H1=>D.nx σ H1
theorem Za2 (he:PE X e te) (hs:swapsWith e none pos.line X.env=pure false:=by rfl):PS X (.Expr e pos) (Zq7 te):=by
 intro pins s σ H D I h
 exact wpAny_Expr_any (thn (he pins s σ H _ I h) λv s1 ⟨x,H1,I1,r1,q1⟩=>⟨σ,H1,I1,q1⟩) I.quiet hs
noncomputable def tRet (te:TE):TS:=λD σ H=>te σ H D.rt
theorem Zu (he:PE X e te):PS X (.Return (some e) pos) (tRet te):=by
 intro pins s σ H D I h
 exact wpAny_Return_some (thn (he pins s σ H _ I h) λv s1 ⟨x,H1,I1,r1,q1⟩=>⟨x,σ,H1,I1,r1,q1⟩)
noncomputable def tIfS (c:TT) (t u:TS):TS:=λD σ H=>c σ H λb H1=>if b=true then t D σ H1 else u D σ H1
theorem ZQ {c:Expr}{a b:List Stmt}{tc:TT} (hc:PT X c tc) (ha:PSs X a t) (hb:PSs X b u):PS X (.If c a b pos) (tIfS tc t u):=by
 intro pins s σ H D I h
 refine wpAny_If (thn (hc pins s σ H _ I h) λd s1 ⟨H1,I1,q1⟩=>?_)
 cases d with
 |true=>exact ha pins s1 σ H1 D I1 q1
 |false=>exact hb pins s1 σ H1 D I1 q1
end
noncomputable abbrev TG:=V->St->Hp->(St->Hp->Prop)->Prop
noncomputable abbrev TGs:=List V->St->Hp->(St->Hp->Prop)->Prop
noncomputable def PG (X:Cx) (target:Expr) (t:TG):Prop :=
 ∀(pins:List (Addr×Obj)) (s:Shared) (σ:St) (H:Hp) (v:V) (u:Value) (Q:St->Hp->Prop),Inv X pins σ H s->RelV v u->t v σ H Q ->
  wpAny (model X.prog X.w) X.A (assign target X.env u) (λ_ s'=>∃σ' H',Inv X pins σ' H' s'/\Q σ' H') X.xe s
noncomputable def PGs (X:Cx) (ts:List Expr) (t:TGs):Prop :=
 ∀(pins:List (Addr×Obj)) (s:Shared) (σ:St) (H:Hp) (vs:List V) (us:List Value) (Q:St->Hp->Prop),Inv X pins σ H s->Vals vs us->t vs σ H Q ->
  wpAny (model X.prog X.w) X.A (assignInOrder ((assignEach ts X.env).map (·.2)) us) (λ_ s'=>∃σ' H',Inv X pins σ' H' s'/\Q σ' H') X.xe s
noncomputable abbrev TSet:=V->V->V->Hp->(Hp->Prop)->Prop
noncomputable def PSet (X:Cx) (t:TSet):Prop :=
 ∀(pins:List (Addr×Obj)) (s:Shared) (σ:St) (H:Hp) (o i v:V) (ov iv u:Value) (Q:Hp->Prop),Inv X pins σ H s->RelV o ov->RelV i iv->RelV v u->t o i v H Q ->
  wpAny (model X.prog X.w) X.A (setItem ov iv u) (λ_ s'=>∃H',Inv X pins σ H' s'/\Q H') X.xe s
noncomputable abbrev TIp:=V->V->Hp->VK->Prop
noncomputable def PIp (X:Cx) (op:Operator) (t:TIp):Prop :=
 ∀(pins:List (Addr×Obj)) (s:Shared) (σ:St) (H:Hp) (x y:V) (v u:Value) (Q:VK),Inv X pins σ H s->RelV x v->RelV y u->t x y H Q ->
  wpAny (model X.prog X.w) X.A (inplaceOp op v u) (EP X pins σ Q) X.xe s
section
variable {X:Cx}{pos:Pos}
noncomputable def Ze4 (i:Nat):TG:=λv σ H Q=>Q (σ.set i (some v)) H
theorem Zm {i:Nat}{x:Str} (hN:X.N.Nodup) (hi:X.N[i]?=some x) (hx:Loc X.env.scope x) (hf:X.fn x=true\/X.env.scope.names.lookup x=some .local:=by first|exact .inl rfl|exact .inr rfl|assumption):PG X (.Name x pos) (Ze4 i):=by
 intro pins s σ H v u Q I r h
 exact wpAny_assign_Name (Ziz I hN hi hx r (λs' I'=>⟨_,H,I',h⟩) hf)
noncomputable def gNil:TGs:=λvs σ H Q=>vs=[]/\Q σ H
noncomputable def Zoi (t:TG) (u:TGs):TGs:=λvs σ H Q=>∃v r,vs=v::r/\t v σ H fun σ' H'=>u r σ' H' Q
theorem Zbv:PGs X [] gNil:=by
 intro pins s σ H vs us Q I r h
 obtain⟨e,h⟩:=h
 subst e
 cases r
 exact assignInOrder_nil ⟨σ,H,I,h⟩
theorem ZJ {e:Expr}{es:List Expr}{t:TG}{u:TGs} (h1:PG X e t) (h2:PGs X es u)
  (hs:(assignEach (e::es) X.env).map (·.2)=assign e X.env::(assignEach es X.env).map (·.2):=by rfl):PGs X (e::es) (Zoi t u):=by
 intro pins s σ H vs us Q I r h
 obtain⟨v,vr,e1,h⟩:=h
 subst e1
 cases r with
 |cons r rr =>
  rw[hs]
  refine assignInOrder_cons (thn (h1 pins s σ H _ _ _ I r h) λ_ s1 ⟨σ1,H1,I1,q1⟩=>?_)
  exact h2 pins s1 σ1 H1 _ _ Q I1 rr q1
noncomputable def gTup (K:PySem.W.Frag) (n:Nat) (t:TGs):TG:=λv σ H Q=>∃a xs,v=.ref a/\SqT K H a xs/\xs.length=n/\t xs σ H Q
theorem Zhe {es:List Expr}{k:Nat}{t:TGs}{n:Nat} (hc:X.calm=true) (h:PGs X es t)
  (hn:(assignEach es X.env).length=n:=by rfl) (hst:(assignEach es X.env).findIdx? (·.1)=none:=by rfl):PG X (.Tuple es k pos) (gTup X.K n t):=by
 intro pins s σ H v u Q I r hw
 obtain⟨a,xs,e1,hq,hl,hw⟩:=hw
 subst e1
 cases r
 obtain⟨its,rv,ht,hz⟩:=I.tuple hq
 refine assign_Tuple_tuple (I.ok.hd hc) ht (by simp[hn,<-hl,rv.length]) hst λh' hx=>?_
 have I1:Inv X pins σ H {s with heap:=h'}:=I.kept (t':=s.toks) λb o e=>hx b o (Nat.ne_of_lt (Heap.lt_size e)) e
 exact h pins _ σ H xs _ Q I1 (by simpa using rv) hw
noncomputable def gSub (to ti:TE) (t:TSet):TG:=λv σ H Q=>to σ H λo H1=>ti σ H1 λi H2=>t o i v H2 λH3=>Q σ H3
theorem ZiB {o i:Expr}{to ti:TE}{t:TSet} (ho:PE X o to) (hi:PE X i ti) (hs:PSet X t)
  (ha:∀v,assign (.Subscript o i pos) X.env v=(do
   let ov <-holding [v] (eval o X.env)
   let iv <-holding [v,ov] (eval i X.env)
   standAt pos
   holding [v,ov,iv] (setItem ov iv v)
   release [v,ov,iv] []):=by intro _;rfl):PG X (.Subscript o i pos) (gSub to ti t):=by
 intro pins s σ H v u Q I r h
 rw[ha]
 refine wpAny_bind (wpAny_holding (thn (ho pins s σ H _ I h) λov s1 ⟨x,H1,I1,r1,q1⟩=>?_))
 refine wpAny_bind (wpAny_holding (thn (hi pins s1 σ H1 _ I1 q1) λiv s2 ⟨y,H2,I2,r2,q2⟩=>?_))
 refine wpAny_bind (wpAny_standAt (wpAny_bind (wpAny_holding (thn (hs pins s2 σ H2 x y v ov iv u _ I2 r1 r2 r q2) λ_ s3 ⟨H3,I3,q3⟩=>?_))))
 exact wpAny_release ⟨σ,H3,I3,q3⟩
noncomputable def Zo0 (te:TE) (g:TG):TS:=λD σ H=>te σ H λx H1=>g x σ H1 D.nx
theorem Ze5 {tg e:Expr}{te:TE}{g:TG} (he:PE X e te) (hg:PG X tg g) (hs:swapsWithSole [tg] e pos.line X.env=pure false:=by rfl) (hw:swappedStores [tg] e X.env=pure none:=by rfl)
  (h1:(assignEach [tg] X.env).map (·.2)=[assign tg X.env]:=by rfl):PS X (.Assign [tg] e pos) (Zo0 te g):=by
 intro pins s σ H D I h
 refine wpAny_Assign_stores (thn (he pins s σ H _ I h) λv s1 ⟨x,H1,I1,r1,q1⟩=>?_) hs hw
 rw[h1]
 exact thn (hg pins s1 σ H1 x v _ I1 r1 q1) λ_ s2 q=>q
theorem Zq {i:Nat}{x:Str}{e:Expr}{te:TE}{pos':Pos} (hN:X.N.Nodup) (hi:X.N[i]?=some x) (hx:Loc X.env.scope x) (he:PE X e te) (hs:swapsWith e (some (.Name x pos')) pos.line X.env=pure false:=by rfl) (hf:X.fn x=true\/X.env.scope.names.lookup x=some .local:=by first|exact .inl rfl|exact .inr rfl|assumption) :
  PS X (.Assign [.Name x pos'] e pos) (Zo0 te (Ze4 i)):=by
 intro pins s σ H D I h
 refine wpAny_Assign_Name (thn (he pins s σ H _ I h) λv s1 ⟨y,H1,I1,r1,q1⟩=>?_) hs
 exact Ziz I1 hN hi hx r1 (λs2 I2=>⟨_,H1,I2,q1⟩) hf
noncomputable def tAug (i:Nat) (te:TE) (ti:TIp):TS:=λD σ H=>∃x,σ[i]?=some (some x)/\te σ H λy H1=>ti x y H1 λz H2=>D.nx (σ.set i (some z)) H2
theorem ps_aug {i:Nat}{x:Str}{e:Expr}{te:TE}{op:Operator}{ti:TIp}{pos':Pos} (hN:X.N.Nodup) (hi:X.N[i]?=some x) (hx:Loc X.env.scope x) (he:PE X e te) (ho:PIp X op ti) (hf:X.fn x=true\/X.env.scope.names.lookup x=some .local:=by first|exact .inl rfl|exact .inr rfl|assumption) :
  PS X (.AugAssign (.Name x pos') op e pos) (tAug i te ti):=by
 intro pins s σ H D I h
 obtain⟨v,e1,h⟩:=h
 obtain⟨m,hn,hl⟩:=I.loc
 have vis:Vis X.env.scope x:=by rcases hx with k|k;exact .inl k;exact .inr (.inl k)
 obtain⟨u,r,l⟩:=hl i x v hi e1 vis
 refine wpAny_AugAssign_Name ?_
 have go:wpAny (model X.prog X.w) X.A (eval e X.env) (λw s₂=>wpAny (model X.prog X.w) X.A (inplaceOp op u w) (λr s₃=>wpAny (model X.prog X.w) X.A (storeName X.env x r) (λ_=>SP X pins D .next) X.xe s₃) X.xe s₂) X.xe s:=by
  refine thn (he pins s σ H _ I h) λw s1 ⟨y,H1,I1,r1,q1⟩=>?_
  refine thn (ho pins s1 σ H1 v y u w _ I1 r r1 q1) λz s2 ⟨zv,H2,I2,r2,q2⟩=>?_
  exact Ziz I2 hN hi hx r2 (λs3 I3=>⟨_,H2,I3,q2⟩) hf
 rcases l with⟨hk,hm⟩|⟨hk,c,hc,hcell⟩
 ·exact wpAny_loadName_local I.ok.kind hk hn hm go
 ·rcases hk with hk|hk
  ·exact wpAny_loadName_cell I.ok.kind hk hc hcell go
  ·rcases hx with k|k
   ·have:X.env.scope.names.lookup x=some .free:=hk
    rw[k]at this;cases this
   ·have:X.env.scope.names.lookup x=some .free:=hk
    rw[k]at this;cases this
noncomputable def ipI (f:Int->Int->Int):TIp:=λx y H Q=>∃i j,x=.int i/\y=.int j/\Q (.int (f i j)) H
theorem ip_sub:PIp X .Sub (ipI λi j=>i-j):=by
 intro pins s σ H x y v u Q I r1 r2 h
 obtain⟨i,j,e1,e2,q⟩:=h
 subst e1;subst e2
 obtain⟨t,rfl⟩:=r1
 obtain⟨t',rfl⟩:=r2
 exact isub_int ⟨.int _,H,I.tok _,⟨_,rfl⟩,q⟩
end
section
variable {X:Cx}{pos:Pos}
noncomputable def Zne (c:TT) (tb:TS):TS:=λD σ H=>∃W:Nat->St->Hp->Prop,(∃m,W m σ H)/\∀m σ H,W m σ H ->
 c σ H λb H1=>if b=true then ∃N:St->Hp->Prop,(∀σ' H',N σ' H'->∃m',m'<m/\W m' σ' H')/\tb {D with nx:=N,ct:=N,bk:=D.nx} σ H1 else D.nx σ H1
theorem ZiC {c:Expr}{body:List Stmt}{tc:TT}{tb:TS} (hp:PassesOwn (model X.prog X.w) X.A X.env X.xe) (hc:PT X c tc) (hb:PSs X body tb):PS X (.While c body [] pos) (Zne tc tb):=by
 intro pins s σ H D I h
 obtain⟨W,⟨m0,w0⟩,turn⟩:=h
 refine wpAny_While (codeAny_whileLoop (λn s'=>∃σ' H',Inv X pins σ' H' s'/\W n σ' H') ?_ m0 ⟨σ,H,I,w0⟩)
 rintro n s1 ⟨σ1,H1,I1,w1⟩
 refine wpAny_passesOwn hp (thn (hc pins s1 σ1 H1 _ I1 (turn n σ1 H1 w1)) λb s2 ⟨H2,I2,q2⟩=>?_)
 cases b with
 |true =>
  obtain⟨N,hN,q2⟩:=q2
  rw[if_pos rfl]
  refine wpAny_passesOwn hp (thn (hb pins s2 σ1 H2 _ I2 q2) λf s3 q3=>?_)
  cases f with
  |next =>
   obtain⟨σ3,H3,I3,n3⟩:=q3
   obtain⟨m',hm,w3⟩:=hN σ3 H3 n3
   exact⟨m',hm,σ3,H3,I3,w3⟩
  |cont =>
   obtain⟨σ3,H3,I3,n3⟩:=q3
   obtain⟨m',hm,w3⟩:=hN σ3 H3 n3
   exact⟨m',hm,σ3,H3,I3,w3⟩
  |brk=>exact q3
  |ret v=>exact q3
 |false =>
  rw[if_neg Bool.false_ne_true]
  exact wpAny_execs_nil ⟨σ1,H2,I2,q2⟩
end
structure It where
 go:Nat->Hp->Prop
 yld:Nat->Hp->V->Hp->Prop
 stop:Nat->Hp->Prop
noncomputable def FpOk (X:Cx) (pins:List (Addr×Obj)) (H:Hp) (b:Addr):Prop :=
 H b=none/\b≠X.env.locals/\b∉X.fs/\(b∈X.ex\/X.s₀.heap.objs.size<=b)/\(∀x c,X.env.cells.lookup x=some c->c≠b)/\∀p∈X.pn++pins,p.1≠b
theorem Inv.Zo1 {X:Cx}{pins:List (Addr×Obj)}{σ:St}{H H':Hp}{s:Shared}{b:Addr} (I:Inv X pins σ H s) (hb:s.heap.objs.size<=b) (hn:H' b=none):FpOk X pins H' b:=by
 refine⟨hn,Nat.ne_of_gt (Nat.lt_of_lt_of_le I.lt hb),I.Znd hb,.inr (Nat.le_trans I.sz hb),λx c e z=>?_,λp hp z=>?_⟩
 ·obtain⟨v,q⟩:=I.cell x c e
  exact absurd (Nat.lt_of_lt_of_le q.lt (by rw[z];exact hb)) (Nat.lt_irrefl _)
 ·exact absurd (Nat.lt_of_lt_of_le (Heap.lt_size (I.pin p hp).1) (by rw[z];exact hb)) (Nat.lt_irrefl _)
structure Turn (P:Program) (w:World) (K:PySem.W.Frag) (tg:Expr) (J:It) (fp:List Addr) (it:Addr) (tn:Nat->Heap->Prop):Prop where
 mem:it∈fp
 obj:∀i h,tn i h->∀b∈fp,∃o,h.get? b=some o/\∀v,o.data≠.cell v
 keep:∀i h h',tn i h->(∀b∈fp,∀o,h.get? b=some o->h'.get? b=some o)->tn i h'
 item:∀(X:Cx),X.prog=P->X.w=w->X.K=K->X.calm=true->∀(i:Nat) (pins:List (Addr×Obj)) (s:Shared) (σ:St) (H:Hp) (E:Value->Shared->Prop),Inv X pins σ H s->(∀b∈fp,FpOk X pins H b)->tn i s.heap->J.go i H ->
  wpAny (model P w) X.A (pyNext (.ref it)) (λr s1=>∃u,r=some u /\
   wpAny (model P w) X.A (letOwnedTupleGo tg (.ref it) u) (λ_ s2=>∃x H',Inv X pins σ H' s2/\RelV x u/\J.yld i H x H'/\tn (i+1) s2.heap/\∀b∈fp,H' b=none) E s1) E s
 done:∀(X:Cx),X.prog=P->X.w=w->X.K=K->X.calm=true->∀(i:Nat) (pins:List (Addr×Obj)) (s:Shared) (σ:St) (H:Hp) (E:Value->Shared->Prop),Inv X pins σ H s->(∀b∈fp,FpOk X pins H b)->tn i s.heap->J.stop i H ->
  wpAny (model P w) X.A (pyNext (.ref it)) (λr s1=>r=none/\Inv X pins σ H s1) E s
 self:∀(A:Around) (i:Nat) (s:Shared) (Q:Value->Shared->Prop) (E:Value->Shared->Prop),tn i s.heap->Q (.ref it) s->wpAny (model P w) A (pyIter (.ref it)) Q E s
noncomputable abbrev TI:=St->Hp->(It->Hp->Prop)->Prop
noncomputable def PIE (X:Cx) (pins:List (Addr×Obj)) (σ:St) (tg:Expr) (R:It->Hp->Prop) (itv:Value) (s2:Shared):Prop :=
 ∃(it:Addr) (fp:List Addr) (tn:Nat->Heap->Prop) (J:It) (H':Hp),itv=.ref it/\Inv X pins σ H' s2/\Turn X.prog X.w X.K tg J fp it tn/\tn 0 s2.heap/\(∀b∈fp,FpOk X pins H' b)/\R J H'
noncomputable def PI (X:Cx) (tg iter:Expr) (wi:TI):Prop :=
 ∀(pins:List (Addr×Obj)) (s:Shared) (σ:St) (H:Hp) (R:It->Hp->Prop),Inv X pins σ H s->wi σ H R ->
  wpAny (model X.prog X.w) X.A (eval iter X.env) (λv s1=>wpAny (model X.prog X.w) X.A (pyIter v) (PIE X pins σ tg R) X.xe s1) X.xe s
theorem Zq8 {M : Model} {A : Around} {E : Value → Shared → Prop} {s : Shared} {tg : Expr} {it : Addr} {u : Value} {o : Obj} {n : String} {vs : Array Value} {Q : Unit → Shared → Prop} (ho : s.heap.get? it = some o) (hc : o.cls = .type n) (hd : o.data = .fields vs)
    (hn : ["enumerate", "zip", "dict_itemiterator", "dict_reverseitemiterator", "odict_iterator", "itertools.zip_longest", "itertools.pairwise"].contains n = false) (hQ : Q () s) : wpAny M A (letOwnedTupleGo tg (.ref it) u) Q E s := by
  unfold letOwnedTupleGo
  cases tg <;> first
    | exact wpAny_pure hQ
    | (cases u <;> first
        | exact wpAny_pure hQ
        | (refine wpAny_bind (wpAny_load ho ?_)
           rw [hc, hd]
           show wpAny M A (if (["enumerate", "zip", "dict_itemiterator", "dict_reverseitemiterator", "odict_iterator", "itertools.zip_longest", "itertools.pairwise"].contains n && vs[0]? == some (rawInt _)) = true then _ else _) Q E s
           rw [if_neg (by intro h; rw [hn, Bool.false_and] at h; cases h)]
           exact wpAny_pure hQ))
noncomputable def Itl (K:PySem.W.Frag) (a:Addr):It :=
 ⟨λi H=>∃xs x,SqL K H a xs/\xs[i]?=some x,λi H x H'=>H'=H/\∀xs,SqL K H a xs->xs[i]?=some x,λi H=>∃xs,SqL K H a xs/\xs.length<=i⟩
noncomputable def Itt (K:PySem.W.Frag) (a:Addr):It :=
 ⟨λi H=>∃xs x,SqT K H a xs/\xs[i]?=some x,λi H x H'=>H'=H/\∀xs,SqT K H a xs->xs[i]?=some x,λi H=>∃xs,SqT K H a xs/\xs.length<=i⟩
noncomputable def Itr (lo:Int) (n:Nat):It:=⟨λi _=>i<n,λi H x H'=>H'=H/\x=.int (lo+i),λi _=>n<=i⟩
theorem Zo2 {P:Program}{w:World}{K:PySem.W.Frag}{tg:Expr} (a it:Addr):Turn P w K tg (Itl K a) [it] it (λi h=>h.IsListIter it a i) where
 mem:=by simp
 obj:=λi h st b hb=>by
  have e:b=it:=by simpa using hb
  subst e
  obtain⟨o,e,c,d⟩:=st
  exact⟨o,e,λv z=>by rw[d]at z;cases z⟩
 keep:=λi h h' st k=>st.at λo e=>k it (by simp) o e
 item:=by
  intro X hP hw hK hc i pins s σ H E I hf st hg
  subst hP hw hK
  obtain⟨xs,x,hq,hx⟩:=hg
  obtain⟨its,rv,p,hz⟩:=I.list hq
  obtain⟨u,hu,ru⟩:=rv.get hx
  obtain⟨f0,f1,f2,f3,f4,f5⟩:=hf it (by simp)
  refine wpAny_pyNext_list_item st p.isList (x:=u) (by simpa using hu) λh' st' sb=>?_
  have I1:Inv X pins σ H {s with heap:=h'}:=I.turned (t':=s.toks) (λb o hb e=>(sb.2 b hb).trans e) f0 f1 f3 f4 f5
  obtain⟨o,e,c,d⟩:=id st'
  exact⟨u,rfl,Zq8 (s:={s with heap:=h'}) e c d (by decide) ⟨x,H,I1,ru,⟨rfl,λys hy=>by rw[I.Zb4 hy hq];exact hx⟩,st',λb hb=>(hf b hb).1⟩⟩
 done:=by
  intro X hP hw hK hc i pins s σ H E I hf st hg
  subst hP hw hK
  obtain⟨xs,hq,hx⟩:=hg
  obtain⟨its,rv,p,hz⟩:=I.list hq
  obtain⟨f0,f1,f2,f3,f4,f5⟩:=hf it (by simp)
  have hl:=rv.length
  exact wpAny_pyNext_list_end (I.ok.hd hc) st p.isList (by simp;omega) λh' eb=>⟨rfl,I.turned (t':=s.toks) (λb o hb e=>eb b o hb e) f0 f1 f3 f4 f5⟩
 self:=λ_ _ _ _ _ st h=>wpAny_pyIter_listiter st h
theorem Znf {P:Program}{w:World}{K:PySem.W.Frag}{tg:Expr} (a it:Addr):Turn P w K tg (Itt K a) [it] it (λi h=>h.IsTupleIter it a i) where
 mem:=by simp
 obj:=λi h st b hb=>by
  have e:b=it:=by simpa using hb
  subst e
  obtain⟨o,e,c,d⟩:=st
  exact⟨o,e,λv z=>by rw[d]at z;cases z⟩
 keep:=λi h h' st k=>st.at λo e=>k it (by simp) o e
 item:=by
  intro X hP hw hK hc i pins s σ H E I hf st hg
  subst hP hw hK
  obtain⟨xs,x,hq,hx⟩:=hg
  obtain⟨its,rv,p,hz⟩:=I.tuple hq
  obtain⟨u,hu,ru⟩:=rv.get hx
  obtain⟨f0,f1,f2,f3,f4,f5⟩:=hf it (by simp)
  refine wpAny_pyNext_tuple_item st (show s.heap.IsTuple a its.toArray from p) (x:=u) (by simpa using hu) λh' st' sb=>?_
  have I1:Inv X pins σ H {s with heap:=h'}:=I.turned (t':=s.toks) (λb o hb e=>(sb.2 b hb).trans e) f0 f1 f3 f4 f5
  obtain⟨o,e,c,d⟩:=id st'
  exact⟨u,rfl,Zq8 (s:={s with heap:=h'}) e c d (by decide) ⟨x,H,I1,ru,⟨rfl,λys hy=>by rw[I.Zhc hy hq];exact hx⟩,st',λb hb=>(hf b hb).1⟩⟩
 done:=by
  intro X hP hw hK hc i pins s σ H E I hf st hg
  subst hP hw hK
  obtain⟨xs,hq,hx⟩:=hg
  obtain⟨its,rv,p,hz⟩:=I.tuple hq
  obtain⟨f0,f1,f2,f3,f4,f5⟩:=hf it (by simp)
  have hl:=rv.length
  exact wpAny_pyNext_tuple_end (I.ok.hd hc) st (show s.heap.IsTuple a its.toArray from p) (by simp;omega) λh' eb=>⟨rfl,I.turned (t':=s.toks) (λb o hb e=>eb b o hb e) f0 f1 f3 f4 f5⟩
 self:=λ_ _ _ _ _ st h=>wpAny_pyIter_tupleiter st h
theorem Zng {P:Program}{w:World}{K:PySem.W.Frag}{tg:Expr} (it:Addr) (lo:Int) (n:Nat):Turn P w K tg (Itr lo n) [it] it (λi h=>IsRangeIter h it (lo+(i:Nat)*1) ((n:Int)-(i:Nat)) 1) where
 mem:=by simp
 obj:=λi h st b hb=>by
  have e:b=it:=by simpa using hb
  subst e
  exact⟨_,st,λv z=>by
   have z':Data.fields _=Data.cell v:=z
   cases z'⟩
 keep:=λi h h' st k=>k it (by simp) _ st
 item:=by
  intro X hP hw hK hc i pins s σ H E I hf st hg
  subst hP hw hK
  obtain⟨f0,f1,f2,f3,f4,f5⟩:=hf it (by simp)
  have W:=Walks.range (prog:=X.prog) (w:=X.w) (I.ok.hd hc) it lo 1 n
  refine W.item i s _ _ hg st λv h' tk hv st' kk=>?_
  obtain⟨t,rfl⟩:=hv
  have I1:Inv X pins σ H {s with heap:=h',toks:=tk}:=I.turned (λb o hb e=>kk b o (by simpa using hb) e) f0 f1 f3 f4 f5
  refine⟨_,rfl,Zq8 (s:={s with heap:=h',toks:=tk}) (n:="range_iterator") st' rfl rfl (by decide) ⟨.int (lo+i),H,I1,⟨t,?_⟩,⟨rfl,rfl⟩,st',λb hb=>(hf b hb).1⟩⟩
  rw[Int.mul_one]
 done:=by
  intro X hP hw hK hc i pins s σ H E I hf st hg
  subst hP hw hK
  obtain⟨f0,f1,f2,f3,f4,f5⟩:=hf it (by simp)
  exact wpAny_pyNext_range_end (I.ok.hd hc) st (by have:n<=i:=hg;omega) λh' eb=>⟨rfl,I.turned (t':=s.toks) (λb o hb e=>eb b o hb e) f0 f1 f3 f4 f5⟩
 self:=λ_ _ _ _ _ st h=>wpAny_pyIter_rangeiter st h
section
variable {X:Cx}{tg:Expr}
noncomputable def Zoj (K:PySem.W.Frag) (tl:TE):TI:=fun σ H R=>tl σ H λx H1=>∃a,x=.ref a/\(∃xs,SqL K H1 a xs)/\R (Itl K a) H1
noncomputable def iTup (K:PySem.W.Frag) (tl:TE):TI:=fun σ H R=>tl σ H λx H1=>∃a,x=.ref a/\(∃xs,SqT K H1 a xs)/\R (Itt K a) H1
theorem ZaM {l:Expr}{tl:TE} (hl:PE X l tl):PI X tg l (Zoj X.K tl):=by
 intro pins s σ H R I h
 refine thn (hl pins s σ H _ I h) λv s1 ⟨x,H1,I1,r1,q1⟩=>?_
 obtain⟨a,e,⟨xs,hq⟩,q⟩:=q1
 subst e
 cases r1
 obtain⟨its,rv,p,hz⟩:=I1.list hq
 refine wpAny_pyIter_list p.isList ?_
 refine⟨s1.heap.objs.size,[s1.heap.objs.size],_,_,H1,rfl,I1.kept (t':=s1.toks) λb o e=>Heap.get?_push_of_some _ e,Zo2 a _,⟨_,Heap.get?_push_size _ rfl,rfl,rfl⟩,λb hb=>?_,q⟩
 have e:b=s1.heap.objs.size:=by simpa using hb
 subst e
 exact I1.Zo1 (Nat.le_refl _) (I1.hok.fresh (Nat.le_refl _))
theorem pi_tup {l:Expr}{tl:TE} (hl:PE X l tl):PI X tg l (iTup X.K tl):=by
 intro pins s σ H R I h
 refine thn (hl pins s σ H _ I h) λv s1 ⟨x,H1,I1,r1,q1⟩=>?_
 obtain⟨a,e,⟨xs,hq⟩,q⟩:=q1
 subst e
 cases r1
 obtain⟨its,rv,p,hz⟩:=I1.tuple hq
 refine wpAny_pyIter_tuple (show s1.heap.IsTuple a its.toArray from p) ?_
 refine⟨s1.heap.objs.size,[s1.heap.objs.size],_,_,H1,rfl,I1.kept (t':=s1.toks) λb o e=>Heap.get?_push_of_some _ e,Znf a _,⟨_,Heap.get?_push_size _ rfl,rfl,rfl⟩,λb hb=>?_,q⟩
 have e:b=s1.heap.objs.size:=by simpa using hb
 subst e
 exact I1.Zo1 (Nat.le_refl _) (I1.hok.fresh (Nat.le_refl _))
theorem ZlT {pins:List (Addr×Obj)}{σ:St}{H:Hp}{s:Shared}{R:It->Hp->Prop}{E:Value->Shared->Prop}{lo hi:Int}{t u v:Tok}{tk:Nat} (I:Inv X pins σ H s) (h1:-(2 ^ 62)<=lo) (h2:lo<2 ^ 62) (h3:-(2 ^ 62)<=hi) (h4:hi<2 ^ 62)
  (q:R (Itr lo (hi-lo).toNat) H):wpAny (model X.prog X.w) X.A (pyIter (.ref s.heap.objs.size)) (PIE X pins σ tg R) E {s with heap:=s.heap.push {cls:=.type "range",data:=.fields #[.int lo t,.int hi u,.int 1 v]},toks:=tk}:=by
 refine wpAny_pyIter_range (IsRange.new ..) (small_one h1 h2 h3 h4) ?_
 have I1:Inv X pins σ H {s with heap:=s.heap.push {cls:=.type "range",data:=.fields #[.int lo t,.int hi u,.int 1 v]},toks:=tk}:=I.kept λb o e=>Heap.get?_push_of_some _ e
 refine⟨(s.heap.push {cls:=.type "range",data:=.fields #[.int lo t,.int hi u,.int 1 v]}).objs.size,[(s.heap.push {cls:=.type "range",data:=.fields #[.int lo t,.int hi u,.int 1 v]}).objs.size],_,_,H,rfl,
  I1.kept (t':=tk) λb o e=>Heap.get?_push_of_some _ e,Zng _ lo (hi-lo).toNat,?_,λb hb=>?_,q⟩
 ·have e1:lo+((0:Nat):Int)*1=lo:=by simp
  have e2:(((hi-lo).toNat:Nat):Int)-((0:Nat):Int)=Builtin.Range.rangeSize lo hi 1:=by rw[rangeSize_one];split<;>omega
  show IsRangeIter _ _ (lo+((0:Nat):Int)*1) ((((hi-lo).toNat:Nat):Int)-((0:Nat):Int)) 1
  rw[e1,e2]
  exact Heap.get?_push_size _ rfl
 ·have e:b=(s.heap.push {cls:=.type "range",data:=.fields #[.int lo t,.int hi u,.int 1 v]}).objs.size:=by simpa using hb
  subst e
  exact I1.Zo1 (Nat.le_refl _) (I1.hok.fresh (Nat.le_refl _))
noncomputable def Zq9 (ta:TA):TI:=fun σ H R=>ta σ H λvs H1=>∃j:Int,vs=[.int j]/\-(2 ^ 62)<=j/\j<2 ^ 62/\R (Itr 0 j.toNat) H1
noncomputable def Zra (ta:TA):TI:=fun σ H R=>ta σ H λvs H1=>∃i j:Int,vs=[.int i,.int j]/\(-(2 ^ 62)<=i/\i<2 ^ 62/\-(2 ^ 62)<=j/\j<2 ^ 62)/\R (Itr i (j-i).toNat) H1
theorem Z8 {a:Expr}{ta:TA}{p pos:Pos} (hg:Gl X "range") (hm:X.mg "range"=none) (ha:PA X [a] ta) (hs:starEach [a] X.env=[(false,eval a X.env)]:=by rfl):PI X tg (.Call (.Name "range" p) [a] [] pos) (Zq9 ta):=by
 intro pins s σ H R I h
 refine Call_ (ZbK I hg hm boot_range (PyProof.Rows.callWith_type1 (thn (ha pos pins s σ H _ I h) λus s1 ⟨vs,H1,I1,r1,q1⟩=>?_) hs rfl))
 obtain⟨j,e,q1,q2,q⟩:=q1
 subst e
 cases r1 with
 |cons r rr =>
  cases rr
  obtain⟨t,rfl⟩:=r
  exact call_range_1 (ZlT I1 (by omega) (by omega) q1 q2 (by simpa using q))
theorem Zkh {a b:Expr}{ta:TA}{p pos:Pos} (hg:Gl X "range") (hm:X.mg "range"=none) (ha:PA X [a,b] ta) (hs:starEach [a,b] X.env=[(false,eval a X.env),(false,eval b X.env)]:=by rfl) (hs2:starEach [b] X.env=[(false,eval b X.env)]:=by rfl) :
  PI X tg (.Call (.Name "range" p) [a,b] [] pos) (Zra ta):=by
 intro pins s σ H R I h
 refine Call_ (ZbK I hg hm boot_range (PyProof.Rows.callWith_type1 (thn (ha pos pins s σ H _ I h) λus s1 ⟨vs,H1,I1,r1,q1⟩=>?_) (by rw[hs,hs2]) (by rw[hs2];rfl)))
 obtain⟨i,j,e,⟨q1,q2,q3,q4⟩,q⟩:=q1
 subst e
 cases r1 with
 |cons r rr =>
  cases rr with
  |cons r' rr =>
   cases rr
   obtain⟨t,rfl⟩:=r
   obtain⟨t',rfl⟩:=r'
   exact call_range_2 (ZlT I1 q1 q2 q3 q4 q)
noncomputable def tFor (wi:TI) (g:TG) (tb:TS):TS:=λD σ H=>wi σ H λJ H1=>∃W:Nat->Nat->St->Hp->Prop,(∃m,W 0 m σ H1)/\∀i m σ H,W i m σ H ->
 (J.stop i H/\D.nx σ H)\/(J.go i H/\∃N:St->Hp->Prop,(∀σ' H',N σ' H'->∃m',m'<m/\W (i+1) m' σ' H')/\∀x H',J.yld i H x H'->g x σ H' fun σ2 H2=>tb {D with nx:=N,ct:=N,bk:=D.nx} σ2 H2)
noncomputable def Zan (fp:List Addr) (h:Heap):List (Addr×Obj):=fp.filterMap λb=>(h.get? b).map λo=>(b,o)
theorem ZaK {fp:List Addr}{h:Heap}{b:Addr}{o:Obj} (hb:b∈fp) (e:h.get? b=some o):(b,o)∈Zan fp h:=List.mem_filterMap.mpr ⟨b,hb,by rw[e];rfl⟩
theorem ZfM {fp:List Addr}{h:Heap}{p:Addr×Obj} (hp:p∈Zan fp h):p.1∈fp/\h.get? p.1=some p.2:=by
 obtain⟨b,hb,e⟩:=List.mem_filterMap.mp hp
 cases q:h.get? b with
 |none=>rw[q]at e;cases e
 |some o =>
  rw[q]at e
  have e':(b,o)=p:=Option.some.inj e
  subst e'
  exact⟨hb,q⟩
theorem Inv.pinned {pins:List (Addr×Obj)}{σ:St}{H:Hp}{s:Shared}{fp:List Addr} (I:Inv X pins σ H s) (hf:∀b∈fp,FpOk X pins H b) (ho:∀b∈fp,∃o,s.heap.get? b=some o/\∀v,o.data≠.cell v):Inv X (pins++Zan fp s.heap) σ H s :=
 I.ZX λp hp=>(List.mem_append.mp hp).elim (λz=>I.pin p (List.mem_append_right _ z)) λz=>by
  obtain⟨hb,e⟩:=ZfM z
  obtain⟨f0,f1,f2,_⟩:=hf p.1 hb
  obtain⟨o,e',d⟩:=ho p.1 hb
  rw[e]at e';cases e'
  exact⟨e,f0,f1,f2,d⟩
theorem Inv.Zb5 {pins pl:List (Addr×Obj)}{σ:St}{H:Hp}{s:Shared} (I:Inv X (pins++pl) σ H s):Inv X pins σ H s:=I.ZX λp hp=>I.pin p (List.mem_append_right _ (List.mem_append_left _ hp))
theorem ZcP {iter:Expr}{body:List Stmt}{wi:TI}{g:TG}{tb:TS}{pos:Pos} (hp:PassesOwn (model X.prog X.w) X.A X.env X.xe) (hc:X.calm=true) (hi:PI X tg iter wi) (hg:PG X tg g) (hb:PSs X body tb)
  (hs:∀x,foldedSetIterable iter X.env x=pure x:=by intro _;rfl):PS X (.For tg iter body [] pos) (tFor wi g tb):=by
 intro pins s σ H D I h
 refine wpAny_For (thn (hi pins s σ H _ I h) λv s1 h1=>thn h1 λitv s2 h2=>?_) hs
 obtain⟨it,fp,tn,J,H2,e,I2,T,st2,f2,W,⟨m0,w0⟩,turn⟩:=h2
 subst e
 -- what stays true of the iterator's objects through the loop
 have stat:∀{H':Hp},(∀b∈fp,H' b=none)->∀b∈fp,FpOk X pins H' b:=λhn b hb=>⟨hn b hb,(f2 b hb).2⟩
 refine codeAny_forLoop_any (λn s'=>∃i σ' H',Inv X pins σ' H' s'/\tn i s'.heap/\(∀b∈fp,H' b=none)/\W i n σ' H') ?_ m0 ⟨0,σ,H2,I2,st2,λb hb=>(f2 b hb).1,w0⟩
 rintro n s3 ⟨i,σ3,H3,I3,st3,fr3,w3⟩
 rcases turn i n σ3 H3 w3 with⟨stop,qn⟩|⟨go,N,hN,step⟩
 ·refine wpAny_passesOwn hp (thn (T.done X rfl rfl rfl hc i pins s3 σ3 H3 X.xe I3 (stat fr3) st3 stop) λr s4 ⟨hr,I4⟩=>?_)
  subst hr
  exact wpAny_execs_nil ⟨σ3,H3,I4,qn⟩
 ·refine wpAny_passesOwn hp (thn (T.item X rfl rfl rfl hc i pins s3 σ3 H3 X.xe I3 (stat fr3) st3 go) λr s4 ⟨u,hr,h4⟩=>?_)
  subst hr
  refine wpAny_passesOwn hp (thn h4 λ_ s5 ⟨x,H5,I5,r5,y5,st5,fr5⟩=>?_)
  have I5':=I5.pinned (stat fr5) (T.obj _ _ st5)
  refine wpAny_passesOwn hp (thn (hg _ s5 σ3 H5 x u _ I5' r5 (step x H5 y5)) λ_ s6 ⟨σ6,H6,I6,q6⟩=>?_)
  refine wpAny_passesOwn hp (thn (hb _ s6 σ6 H6 _ I6 q6) λf s7 q7=>?_)
  have again:∀{σ7:St}{H7:Hp},Inv X (pins++Zan fp s5.heap) σ7 H7 s7->N σ7 H7->∃m,m<n/\∃i σ' H',Inv X pins σ' H' s7/\tn i s7.heap/\(∀b∈fp,H' b=none)/\W i m σ' H':=λ{σ7 H7} I7 n7=>by
   obtain⟨m',hm,w7⟩:=hN σ7 H7 n7
   refine⟨m',hm,i+1,σ7,H7,I7.Zb5,T.keep _ _ _ st5 λb hb o e=>(I7.pin (b,o) (List.mem_append_right _ (List.mem_append_right _ (ZaK hb e)))).1,λb hb=>?_,w7⟩
   obtain⟨o,e,d⟩:=T.obj _ _ st5 b hb
   exact(I7.pin (b,o) (List.mem_append_right _ (List.mem_append_right _ (ZaK hb e)))).2.1
  cases f with
  |next=>obtain⟨σ7,H7,I7,n7⟩:=q7;exact again I7 n7
  |cont=>obtain⟨σ7,H7,I7,n7⟩:=q7;exact again I7 n7
  |brk=>obtain⟨σ7,H7,I7,q7⟩:=q7;exact⟨σ7,H7,I7.Zb5,q7⟩
  |ret v=>obtain⟨x7,σ7,H7,I7,r7,q7⟩:=q7;exact⟨x7,σ7,H7,I7.Zb5,r7,q7⟩
end
theorem ZbL {lo:Int}{n:Nat}{g:TG}{tb:TS}{D:Ends}{σ:St}{H:Hp} (Pv:Nat->St->Hp->Prop) (h0:Pv 0 σ H)
  (hs:∀i σ H,i<n->Pv i σ H->g (.int (lo+i)) σ H fun σ2 H2=>tb {D with nx:=Pv (i+1),ct:=Pv (i+1),bk:=D.nx} σ2 H2) (hd:∀σ H,Pv n σ H->D.nx σ H) :
  ∃W:Nat->Nat->St->Hp->Prop,(∃m,W 0 m σ H)/\∀i m σ H,W i m σ H ->
   ((Itr lo n).stop i H/\D.nx σ H)\/((Itr lo n).go i H/\∃N:St->Hp->Prop,(∀σ' H',N σ' H'->∃m',m'<m/\W (i+1) m' σ' H')/\∀x H',(Itr lo n).yld i H x H'->g x σ H' fun σ2 H2=>tb {D with nx:=N,ct:=N,bk:=D.nx} σ2 H2):=by
 refine⟨λi m σ H=>m=n-i/\i<=n/\Pv i σ H,⟨n,by simp,Nat.zero_le _,h0⟩,?_⟩
 rintro i m σ H ⟨rfl,hi,p⟩
 by_cases hlt:i<n
 ·refine .inr ⟨hlt,Pv (i+1),fun σ' H' p'=>⟨n-(i+1),by omega,rfl,hlt,p'⟩,λx H' y=>?_⟩
  obtain⟨e,y⟩:=y
  subst e y
  exact hs i σ _ hlt p
 ·have e:i=n:=by omega
  subst e
  exact .inl ⟨Nat.le_refl _,hd σ H p⟩
noncomputable abbrev R2:=V->V->Hp->VK->Prop
noncomputable def OpR (X:Cx) (f:Value->Value->Sem Value) (r:R2):Prop :=
 ∀(pins:List (Addr×Obj)) (s:Shared) (σ:St) (H:Hp) (x y:V) (v u:Value) (Q:VK),Inv X pins σ H s->RelV x v->RelV y u->r x y H Q ->
  wpAny (model X.prog X.w) X.A (f v u) (EP X pins σ Q) X.xe s
noncomputable def UnR (X:Cx) (f:Value->Sem Value) (r:V->Hp->VK->Prop):Prop :=
 ∀(pins:List (Addr×Obj)) (s:Shared) (σ:St) (H:Hp) (x:V) (v:Value) (Q:VK),Inv X pins σ H s->RelV x v->r x H Q ->
  wpAny (model X.prog X.w) X.A (f v) (EP X pins σ Q) X.xe s
noncomputable def Zcw (X:Cx) (f:Value) (r:List V->Hp->VK->Prop):Prop :=
 ∀(pins:List (Addr×Obj)) (s:Shared) (σ:St) (H:Hp) (xs:List V) (us:List Value) (Q:VK),Inv X pins σ H s->Vals xs us->r xs H Q ->
  wpAny (model X.prog X.w) X.A (call f us) (EP X pins σ Q) X.xe s
noncomputable def tOp (r:R2) (ta tb:TE):TE:=fun σ H Q=>ta σ H λx H1=>tb σ H1 λy H2=>r x y H2 Q
noncomputable def tUn (r:V->Hp->VK->Prop) (ta:TE):TE:=fun σ H Q=>ta σ H λx H1=>r x H1 Q
noncomputable def rI (C:Int->Int->Prop) (g:Int->Int->V):R2:=λx y H Q=>∃i j,x=.int i/\y=.int j/\C i j/\Q (g i j) H
noncomputable def rI0 (g:Int->Int->V):R2:=λx y H Q=>∃i j,x=.int i/\y=.int j/\Q (g i j) H
noncomputable def rU (g:Int->V):V->Hp->VK->Prop:=λx H Q=>∃i,x=.int i/\Q (g i) H
section
variable {X:Cx}{a b c:Expr}{ta tb tc:TE}{pos:Pos}
theorem binT (ha:PE X a ta) (hb:PE X b tb) {pins:List (Addr×Obj)}{s:Shared}{σ:St}{H:Hp}{R:V->V->Hp->Prop} (I:Inv X pins σ H s)
  (h:ta σ H λx H1=>tb σ H1 λy H2=>R x y H2) {Q:Value->Shared->Prop}{f:Value->Value->Sem Value}
  (hf:∀v u s2 x y H2,Inv X pins σ H2 s2->RelV x v->RelV y u->R x y H2->wpAny (model X.prog X.w) X.A (f v u) Q X.xe s2) :
  wpAny (model X.prog X.w) X.A (eval a X.env) (λv s₁=>wpAny (model X.prog X.w) X.A (eval b X.env) (λu s₂=>wpAny (model X.prog X.w) X.A (f v u) Q X.xe s₂) X.xe s₁) X.xe s:=by
 refine thn (ha pins s σ H _ I h) λv s1 ⟨x,H1,I1,r1,q1⟩=>?_
 refine thn (hb pins s1 σ H1 _ I1 q1) λu s2 ⟨y,H2,I2,r2,q2⟩=>?_
 exact hf v u s2 x y H2 I2 r1 r2 q2
theorem Zn {op:Operator}{r:R2} (ho:OpR X (binaryOp op) r) (ha:PE X a ta) (hb:PE X b tb):PE X (.BinOp a op b pos) (tOp r ta tb):=by
 intro pins s σ H Q I h
 exact wpAny_BinOp (binT ha hb I h λv u s2 x y H2 I2 rx ry q=>ho pins s2 σ H2 x y v u Q I2 rx ry q)
theorem Zok {op:UnaryOp}{r:V->Hp->VK->Prop} (ho:UnR X (unaryOp op) r) (ha:PE X a ta):PE X (.UnaryOp op a pos) (tUn r ta):=by
 intro pins s σ H Q I h
 exact UnaryOp_ (thn (ha pins s σ H _ I h) λv s1 ⟨x,H1,I1,r1,q1⟩=>ho pins s1 σ H1 x v Q I1 r1 q1)
theorem opI {f:Value->Value->Sem Value}{C:Int->Int->Prop}{g:Int->Int->Int}
  (rule:∀(i j:Int) (t u:Tok) (s:Shared) (Q:Value->Shared->Prop) (E:Value->Shared->Prop),C i j->Q (.int (g i j) s.toks) {s with toks:=s.toks+1}->wpAny (model X.prog X.w) X.A (f (.int i t) (.int j u)) Q E s) :
  OpR X f (rI C λi j=>.int (g i j)):=by
 intro pins s σ H x y v u Q I rx ry h
 obtain⟨i,j,rfl,rfl,hc,q⟩:=h
 obtain⟨t,rfl⟩:=rx
 obtain⟨t',rfl⟩:=ry
 exact rule i j t t' s _ _ hc ⟨.int (g i j),H,I.tok _,⟨_,rfl⟩,q⟩
theorem opI0 {f:Value->Value->Sem Value}{g:Int->Int->Int}
  (rule:∀(i j:Int) (t u:Tok) (s:Shared) (Q:Value->Shared->Prop) (E:Value->Shared->Prop),Q (.int (g i j) s.toks) {s with toks:=s.toks+1}->wpAny (model X.prog X.w) X.A (f (.int i t) (.int j u)) Q E s) :
  OpR X f (rI0 λi j=>.int (g i j)):=by
 intro pins s σ H x y v u Q I rx ry h
 obtain⟨i,j,rfl,rfl,q⟩:=h
 obtain⟨t,rfl⟩:=rx
 obtain⟨t',rfl⟩:=ry
 exact rule i j t t' s _ _ ⟨.int (g i j),H,I.tok _,⟨_,rfl⟩,q⟩
theorem opB0 {f:Value->Value->Sem Value}{g:Int->Int->Bool}
  (rule:∀(i j:Int) (t u:Tok) (s:Shared) (Q:Value->Shared->Prop) (E:Value->Shared->Prop),Q (.bool (g i j)) s->wpAny (model X.prog X.w) X.A (f (.int i t) (.int j u)) Q E s) :
  OpR X f (rI0 λi j=>.bl (g i j)):=by
 intro pins s σ H x y v u Q I rx ry h
 obtain⟨i,j,rfl,rfl,q⟩:=h
 obtain⟨t,rfl⟩:=rx
 obtain⟨t',rfl⟩:=ry
 exact rule i j t t' s _ _ ⟨.bl (g i j),H,I,rfl,q⟩
noncomputable def ZlU (i j:Int):Prop:=0<=j/\j<=1000000/\i.natAbs<2 ^ 64
noncomputable def CMul (i j:Int):Prop:=(-(2 ^ 64)<i/\i<2 ^ 64)\/(-(2 ^ 64)<j/\j<2 ^ 64)
theorem CMul.ok {i j:Int} (h:CMul i j):IntMulOk i j:=by
 rcases h with⟨h1,h2⟩|⟨h1,h2⟩
 ·exact .of_left (intBits_le_64 h1 h2)
 ·exact .of_right (intBits_le_64 h1 h2)
theorem Zaj:OpR X (binaryOp .Add) (rI0 λi j=>.int (i+j)):=opI0 λ_ _ _ _ _ _ _ q=>add_int q
theorem ZS:OpR X (binaryOp .Sub) (rI0 λi j=>.int (i-j)):=opI0 λ_ _ _ _ _ _ _ q=>sub_int q
theorem Ze6:OpR X (binaryOp .Mod) (rI (λ_ j=>0<j) λi j=>.int (i % j)):=opI λi j _ _ _ _ _ hc q=>by
 have h1:(0:Int)<j:=hc
 exact mod_int' (by omega) (by rw[Int.fmod_eq_emod_of_nonneg i (by omega)];exact q)
theorem Zeb:OpR X (binaryOp .Pow) (rI ZlU λi j=>.int (i ^ j.toNat)):=opI λ_ _ _ _ _ _ _ hc q=>pow_int_small hc.1 hc.2.1 hc.2.2 q
theorem unI {f:Value->Sem Value}{g:Int->Int}
  (rule:∀(i:Int) (t:Tok) (s:Shared) (Q:Value->Shared->Prop) (E:Value->Shared->Prop),Q (.int (g i) s.toks) {s with toks:=s.toks+1}->wpAny (model X.prog X.w) X.A (f (.int i t)) Q E s) :
  UnR X f (rU λi=>.int (g i)):=by
 intro pins s σ H x v Q I rx h
 obtain⟨i,rfl,q⟩:=h
 obtain⟨t,rfl⟩:=rx
 exact rule i t s _ _ ⟨.int (g i),H,I.tok _,⟨_,rfl⟩,q⟩
theorem ZkQ:UnR X (unaryOp .USub) (rU λi=>.int (-i)):=unI λ_ _ _ _ _ q=>neg_int q
end
noncomputable def ZlV:V->V->Bool
 |.non,.non=>true|.non,.int _=>true|.int _,.non=>true|.non,.bl _=>true|.bl _,.non=>true|.non,.str _=>true|.str _,.non=>true
 |.int _,.int _=>true|.bl _,.bl _=>true|.str _,.str _=>true|.byt _,.byt _=>true
 |.int _,.str _=>true|.str _,.int _=>true|.bl _,.str _=>true|.str _,.bl _=>true
 |_,_=>false
noncomputable def rEq:R2:=λx y H Q=>ZlV x y=true/\Q (.bl (decide (x=y))) H
noncomputable def rNe:R2:=λx y H Q=>ZlV x y=true/\Q (.bl (!decide (x=y))) H
theorem Zol {i j:Int}:decide (V.int i=V.int j)=(i==j):=by
 rw[Bool.eq_iff_iff]
 simp
theorem Zrb {i j:Bool}:decide (V.bl i=V.bl j)=(i==j):=by
 rw[Bool.eq_iff_iff]
 simp
theorem Zom {i j:Str}:decide (V.str i=V.str j)=(i==j):=by
 rw[Bool.eq_iff_iff]
 simp
theorem Zon {i j:Array UInt8}:decide (V.byt i=V.byt j)=(i.toList==j.toList):=by
 rw[Bool.eq_iff_iff]
 cases i
 cases j
 simp
section
variable {X:Cx}{a b c:Expr}{ta tb tc:TE}{pos:Pos}
theorem ZL {pins:List (Addr×Obj)}{σ:St}{H:Hp}{s:Shared}{Q:VK}{k k':Bool} (I:Inv X pins σ H s) (q:Q (.bl k) H) (e:k=k'):EP X pins σ Q (.bool k') s:=by
 subst e
 exact⟨.bl k,H,I,rfl,q⟩
theorem Zbg:OpR X (compareOp .Eq) rEq:=by
 intro pins s σ H x y v u Q I rx ry h
 obtain⟨hs,q⟩:=h
 cases x with
 |non =>
  cases rx
  cases y with
  |non=>cases ry;exact PySem.EqNone.eq_none_none (ZL I q (by simp))
  |bl j=>cases ry;exact PySem.EqNone.eq_none_bool (ZL I q (by simp))
  |int j=>obtain⟨t',rfl⟩:=ry;exact PySem.EqNone.eq_none_int (ZL I q (by simp))
  |str j=>obtain⟨t',rfl⟩:=ry;exact PySem.EqNone.eq_none_str (ZL I q (by simp))
  |_=>exact absurd (show false=true from hs) Bool.false_ne_true
 |bl i =>
  cases rx
  cases y with
  |non=>cases ry;exact PySem.EqNone.eq_bool_none (ZL I q (by simp))
  |bl j=>cases ry;exact eq_bool (ZL I q Zrb)
  |str j=>obtain⟨t',rfl⟩:=ry;exact PySem.EqMixed.eq_bool_str (ZL I q (by simp))
  |_=>exact absurd (show false=true from hs) Bool.false_ne_true
 |int i =>
  obtain⟨t,rfl⟩:=rx
  cases y with
  |non=>cases ry;exact PySem.EqNone.eq_int_none (ZL I q (by simp))
  |int j=>obtain⟨t',rfl⟩:=ry;exact eq_int (ZL I q Zol)
  |str j=>obtain⟨t',rfl⟩:=ry;exact PySem.EqMixed.eq_int_str (ZL I q (by simp))
  |_=>exact absurd (show false=true from hs) Bool.false_ne_true
 |str i =>
  obtain⟨t,rfl⟩:=rx
  cases y with
  |non=>cases ry;exact PySem.EqNone.eq_str_none (ZL I q (by simp))
  |bl j=>cases ry;exact PySem.EqMixed.eq_str_bool (ZL I q (by simp))
  |int j=>obtain⟨t',rfl⟩:=ry;exact PySem.EqMixed.eq_str_int (ZL I q (by simp))
  |str j=>obtain⟨t',rfl⟩:=ry;exact eq_str (ZL I q Zom)
  |_=>exact absurd (show false=true from hs) Bool.false_ne_true
 |byt i =>
  obtain⟨t,rfl⟩:=rx
  cases y with
  |byt j=>obtain⟨t',rfl⟩:=ry;exact PySem.W.eq_bytes (ZL I q Zon)
  |_=>exact absurd (show false=true from hs) Bool.false_ne_true
 |_=>cases y<;>exact absurd (show false=true from hs) Bool.false_ne_true
theorem ZiD:OpR X (compareOp .NotEq) rNe:=by
 intro pins s σ H x y v u Q I rx ry h
 obtain⟨hs,q⟩:=h
 cases x with
 |non =>
  cases rx
  cases y with
  |non=>cases ry;exact PySem.EqNone.ne_none_none (ZL I q (by simp))
  |bl j=>cases ry;exact PySem.EqNone.ne_none_bool (ZL I q (by simp))
  |int j=>obtain⟨t',rfl⟩:=ry;exact PySem.EqNone.ne_none_int (ZL I q (by simp))
  |str j=>obtain⟨t',rfl⟩:=ry;exact PySem.EqNone.ne_none_str (ZL I q (by simp))
  |_=>exact absurd (show false=true from hs) Bool.false_ne_true
 |bl i =>
  cases rx
  cases y with
  |non=>cases ry;exact PySem.EqNone.ne_bool_none (ZL I q (by simp))
  |bl j=>cases ry;exact ne_bool (ZL I q (congrArg not Zrb))
  |str j=>obtain⟨t',rfl⟩:=ry;exact PySem.EqMixed.ne_bool_str (ZL I q (by simp))
  |_=>exact absurd (show false=true from hs) Bool.false_ne_true
 |int i =>
  obtain⟨t,rfl⟩:=rx
  cases y with
  |non=>cases ry;exact PySem.EqNone.ne_int_none (ZL I q (by simp))
  |int j=>obtain⟨t',rfl⟩:=ry;exact ne_int (ZL I q (congrArg not Zol))
  |str j=>obtain⟨t',rfl⟩:=ry;exact PySem.EqMixed.ne_int_str (ZL I q (by simp))
  |_=>exact absurd (show false=true from hs) Bool.false_ne_true
 |str i =>
  obtain⟨t,rfl⟩:=rx
  cases y with
  |non=>cases ry;exact PySem.EqNone.ne_str_none (ZL I q (by simp))
  |bl j=>cases ry;exact PySem.EqMixed.ne_str_bool (ZL I q (by simp))
  |int j=>obtain⟨t',rfl⟩:=ry;exact PySem.EqMixed.ne_str_int (ZL I q (by simp))
  |str j=>obtain⟨t',rfl⟩:=ry;exact ne_str (ZL I q (congrArg not Zom))
  |_=>exact absurd (show false=true from hs) Bool.false_ne_true
 |byt i =>
  obtain⟨t,rfl⟩:=rx
  cases y with
  |byt j=>obtain⟨t',rfl⟩:=ry;exact PySem.W.ne_bytes (ZL I q (congrArg not Zon))
  |_=>exact absurd (show false=true from hs) Bool.false_ne_true
 |_=>cases y<;>exact absurd (show false=true from hs) Bool.false_ne_true
theorem ZgE:OpR X (compareOp .Lt) (rI0 λi j=>.bl (decide (i<j))):=opB0 λ_ _ _ _ _ _ _ q=>lt_int q
theorem Zoo:OpR X (compareOp .LtE) (rI0 λi j=>.bl (decide (i<=j))):=opB0 λ_ _ _ _ _ _ _ q=>le_int q
theorem ZeQ:OpR X (compareOp .Gt) (rI0 λi j=>.bl (decide (j<i))):=opB0 λ_ _ _ _ _ _ _ q=>gt_int q
theorem Zop:OpR X (compareOp .GtE) (rI0 λi j=>.bl (decide (j<=i))):=opB0 λ_ _ _ _ _ _ _ q=>ge_int q
theorem Zrc:OpR X (compareOp .Is) (λx y H Q=>y=.non/\Q (.bl (decide (x=.non))) H):=by
 intro pins s σ H x y v u Q I rx ry h
 obtain⟨rfl,q⟩:=h
 cases ry
 refine is_none_gen (ZL I q ?_)
 cases x<;>first
  |(cases rx;rfl)
  |(obtain⟨t,rfl⟩:=rx;rfl)
theorem Zoq:OpR X (compareOp .IsNot) (λx y H Q=>y=.non/\Q (.bl (!decide (x=.non))) H):=by
 intro pins s σ H x y v u Q I rx ry h
 obtain⟨rfl,q⟩:=h
 cases ry
 refine isnot_none_gen (ZL I q ?_)
 cases x<;>first
  |(cases rx;rfl)
  |(obtain⟨t,rfl⟩:=rx;rfl)
theorem Zr (b:Expr) {op:CmpOp} (h:op≠.In:=by decide) (h2:op≠.NotIn:=by decide):behindInMarks op b=false:=by
 have e1:(op==CmpOp.In)=false:=by cases op<;>first|rfl|exact absurd rfl h
 have e2:(op==CmpOp.NotIn)=false:=by cases op<;>first|rfl|exact absurd rfl h2
 cases b<;>simp[behindInMarks,e1,e2]
theorem ZaN {op:CmpOp}{r:R2} (ho:OpR X (compareOp op) r) (ha:PE X a ta) (hb:PE X b tb) (hm:behindInMarks op b=false):PE X (.Compare a [op] [b] pos) (tOp r ta tb):=by
 intro pins s σ H Q I h
 exact wpAny_Compare1 (binT ha hb I h λv u s2 x y H2 I2 rx ry q=>ho pins s2 σ H2 x y v u Q I2 rx ry q) hm
noncomputable def ZlW (t:TE):TT:=fun σ H Q=>t σ H λx H'=>∃k,x=.bl k/\Q k H'
theorem Zo {op:CmpOp}{r:R2} (ho:OpR X (compareOp op) r) (ha:PE X a ta) (hb:PE X b tb) (hm:behindInMarks op b=false):PT X (.Compare a [op] [b] pos) (ZlW (tOp r ta tb)):=by
 intro pins s σ H Q I h
 refine wpAny_isTrue_Compare1 (thn (ha pins s σ H _ I h) λv s1 ⟨x,H1,I1,r1,q1⟩=>thn (hb pins s1 σ H1 _ I1 q1) λu s2 ⟨y,H2,I2,r2,q2⟩ =>
  thn (ho pins s2 σ H2 x y v u _ I2 r1 r2 q2) λc s3 ⟨z,H3,I3,r3,k,e,q3⟩=>?_) hm
 subst e
 cases r3
 exact wpAny_truthy_bool ⟨H3,I3,q3⟩
noncomputable def ZkR (r r':R2) (ta tb tc:TE):TE:=fun σ H Q=>ta σ H λx H1=>tb σ H1 λy H2=>r x y H2 λz H3=>∃k,z=.bl k /\
 (if k=true then tc σ H3 λw' H4=>r' y w' H4 Q else Q (.bl false) H3)
theorem ZlX {op op':CmpOp}{r r':R2} (ho:OpR X (compareOp op) r) (ho':OpR X (compareOp op') r') (ha:PE X a ta) (hb:PE X b tb) (hc:PE X c tc)
  (hm:lastMarks [op,op'] [b,c]=false:=by with_unfolding_all rfl):PE X (.Compare a [op,op'] [b,c] pos) (ZkR r r' ta tb tc):=by
 intro pins s σ H Q I h
 refine Compare_chain (thn (ha pins s σ H _ I h) λv s1 ⟨x,H1,I1,r1,q1⟩=>chain_link (thn (hb pins s1 σ H1 _ I1 q1) λu s2 ⟨y,H2,I2,r2,q2⟩ =>
  thn (ho pins s2 σ H2 x y v u _ I2 r1 r2 q2) λd s3 ⟨z,H3,I3,r3,k,e,q3⟩=>?_)) hm
 subst e
 cases r3
 refine wpAny_truthy_bool ?_
 cases k with
 |false=>exact ite_ff ⟨.bl false,H3,I3,rfl,q3⟩
 |true=>exact ite_tt (chain_last (thn (hc pins s3 σ H3 _ I3 q3) λw' s4 ⟨z',H4,I4,r4,q4⟩=>ho' pins s4 σ H4 y z' u w' Q I4 r2 r4 q4))
theorem Zrd {op op':CmpOp}{r r':R2} (ho:OpR X (compareOp op) r) (ho':OpR X (compareOp op') r') (ha:PE X a ta) (hb:PE X b tb) (hc:PE X c tc)
  (hm:lastMarks [op,op'] [b,c]=false:=by with_unfolding_all rfl):PT X (.Compare a [op,op'] [b,c] pos) (ZlW (ZkR r r' ta tb tc)):=by
 intro pins s σ H Q I h
 refine isTrue_chain (thn (ha pins s σ H _ I h) λv s1 ⟨x,H1,I1,r1,q1⟩=>test_link (thn (hb pins s1 σ H1 _ I1 q1) λu s2 ⟨y,H2,I2,r2,q2⟩ =>
  thn (ho pins s2 σ H2 x y v u _ I2 r1 r2 q2) λd s3 ⟨z,H3,I3,r3,k,e,q3⟩=>?_)) hm
 subst e
 cases r3
 refine wpAny_truthy_bool ?_
 cases k with
 |false =>
  obtain⟨k',e',q'⟩:=q3
  cases e'
  exact ite_ff ⟨H3,I3,q'⟩
 |true =>
  refine ite_tt (test_last (thn (hc pins s3 σ H3 _ I3 q3) λw' s4 ⟨z',H4,I4,r4,q4⟩=>thn (ho' pins s4 σ H4 y z' u w' _ I4 r2 r4 q4) λd' s5 ⟨z2,H5,I5,r5,k2,e2,q5⟩=>?_))
  subst e2
  cases r5
  exact wpAny_truthy_bool ⟨H5,I5,q5⟩
theorem ZkS:(sizeLine:Nat)<2 ^ 63:=by rw[sizeLine_eq];decide
theorem vals1 {x:V}{us:List Value} (r:Vals [x] us):∃u,us=[u]/\RelV x u:=by
 cases r with
 |cons r1 r2=>cases r2;exact⟨_,rfl,r1⟩
theorem vals2 {x y:V}{us:List Value} (r:Vals [x,y] us):∃u w',us=[u,w']/\RelV x u/\RelV y w':=by
 cases r with
 |cons r1 r2 =>
  cases r2 with
  |cons r3 r4=>cases r4;exact⟨_,_,rfl,r1,r3⟩
theorem ZiE:Zcw X (.builtin "abs") (λxs H Q=>∃i,xs=[.int i]/\Q (.int (if i<0 then -i else i)) H):=by
 intro pins s σ H xs us Q I r h
 obtain⟨i,rfl,q⟩:=h
 obtain⟨u,rfl,t,rfl⟩:=vals1 r
 exact call_abs_int λu tk=>⟨.int (if i<0 then -i else i),H,I.tok _,⟨_,rfl⟩,q⟩
theorem Zhf (hc:X.calm=true):Zcw X (.builtin "max") (λxs H Q=>∃i j,xs=[.int i,.int j]/\Q (.int (if j>i then j else i)) H):=by
 intro pins s σ H xs us Q I r h
 obtain⟨i,j,rfl,q⟩:=h
 obtain⟨u,w',rfl,⟨t,rfl⟩,⟨t',rfl⟩⟩:=vals2 r
 refine max_two_ints (I.ok.hd hc) λh' tk k=>⟨_,H,I.kept k,?_,q⟩
 by_cases hj:j>i
 ·rw[if_pos hj,if_pos hj];exact⟨_,rfl⟩
 ·rw[if_neg hj,if_neg hj];exact⟨_,rfl⟩
theorem Zo3 (hc:X.calm=true):Zcw X (.builtin "min") (λxs H Q=>∃i j,xs=[.int i,.int j]/\Q (.int (if j<i then j else i)) H):=by
 intro pins s σ H xs us Q I r h
 obtain⟨i,j,rfl,q⟩:=h
 obtain⟨u,w',rfl,⟨t,rfl⟩,⟨t',rfl⟩⟩:=vals2 r
 refine min_two_ints (I.ok.hd hc) λh' tk k=>⟨_,H,I.kept k,?_,q⟩
 by_cases hj:j<i
 ·rw[if_pos hj,if_pos hj];exact⟨_,rfl⟩
 ·rw[if_neg hj,if_neg hj];exact⟨_,rfl⟩
end
structure ObjM (h:Heap) (x dx C:Addr) (mA:Str->Option Value):Prop where
 obj:h.get? x=some (PySem.W.instObj C dx)
 ns:h.Ns1 dx mA
 ne:dx≠x
theorem Zo4 {h:Heap}{dx:Addr}{mA:Str->Option Value} (n:h.Ns1 dx mA):∃od,h.get? dx=some od/\∀name,PySem.W.lookIn name od=some (mA name):=by
 obtain⟨o,es,ep,ho,hd,hk,_,hm⟩:=n
 refine⟨o,ho,λname=>?_⟩
 have e:=hm name
 unfold nsFind findBy at e
 rw[<-Array.find?_toList]at e
 unfold PySem.W.lookIn
 rw[hd]
 dsimp only
 split
 ·rename_i y q
  rw[q]at e
  exact congrArg some e
 ·rename_i q
  rw[q]at e
  have a:es.toList.any (·.refKey)=false:=by
   rw[List.any_eq_false]
   intro y hy
   obtain⟨z,t,hkey⟩:=hk y (Array.mem_toList_iff.mp hy)
   simp[DictEntry.refKey,hkey]
  have a':¬ es.toList.any (·.refKey)=true:=by rw[a];exact Bool.false_ne_true
  rw[if_neg a']
  exact congrArg some e
theorem ObjM.look {h:Heap}{x dx C:Addr}{mA:Str->Option Value} (I:ObjM h x dx C mA):∃od,PySem.W.InstAt h x (PySem.W.instObj C dx) C (some od)/\∀name,PySem.W.lookIn name od=some (mA name) :=
 let ⟨od,ho,hl⟩:=Zo4 I.ns
 ⟨od,⟨I.obj,rfl,rfl,ho⟩,hl⟩
noncomputable def putF (f:Str) (v:V):List (Str×V)->List (Str×V)
 |[]=>[(f,v)]
 |(g,x)::r=>if g=f then (g,v)::r else (g,x)::putF f v r
section
variable {P:Program}{w:World}{H H':Hp}{h h':Heap}{a C dx:Addr}{fs fs':List (Str×V)}
theorem Ztn (hok:HOk P w H h) (e:H a=some (.ins C dx fs)):∃mA,ObjM h a dx C mA/\(∀f,Znc (fs.lookup f) (mA f))/\PySem.Within mA (fs.map (·.1))/\fs.length<=1000/\H dx=some (.own a):=by
 obtain⟨d,z,ne,ob,mA,n,r,q⟩:=(show Zau P w H h a (.ins C dx fs)from hok a _ e)
 exact⟨mA,⟨ob,n,ne⟩,r,q,z,d⟩
end
structure Cls (K:PySem.W.Frag) (C:Addr):Prop where
 pg:PySem.W.plainGet K C Str.empty=true
 hd:PySem.W.hasDictIn K C=true
 po:PySem.W.plainOver K C=true
 sa:PySem.W.findIn K (.ref C) "__setattr__"=some (some (.builtin "object.__setattr__"))
theorem Cls.get {K:PySem.W.Frag}{C:Addr} (c:Cls K C) (f:Str):PySem.W.plainGet K C f=true:=c.pg
section
variable {X:Cx}{pins:List (Addr×Obj)}{σ:St}{H:Hp}{s:Shared}{A:Around}{E:Value->Shared->Prop}{Q:Value->Shared->Prop}{c:Value}{b:Bool}
inductive TyOf (K:PySem.W.Frag) (H:Hp):V->Value->Prop where
 |non:TyOf K H .non (.type "NoneType")
 |bl (x:Bool):TyOf K H (.bl x) (.type "bool")
 |int (i:Int):TyOf K H (.int i) (.type "int")
 |str (x:Str):TyOf K H (.str x) (.type "str")
 |flt (x:UInt64):TyOf K H (.flt x) (.type "float")
 |lst {a:Addr}{xs:List V} (e:H a=some (.lst xs)):TyOf K H (.ref a) (.type "list")
 |frz {a:Addr}{o:Obj}{xs:List V} (e:H a=some (.frz o (.lst xs))):TyOf K H (.ref a) (.type "list")
 |tup {a:Addr}{xs:List V} (e:H a=some (.tup xs)):TyOf K H (.ref a) (.type "tuple")
 |dK {a:Addr}{kvs:List (Key×V)} (e:H a=some (.dK kvs)):TyOf K H (.ref a) (.type "dict")
 |dT {a:Addr}{kvs:List (List Key×V)} (e:H a=some (.dT kvs)):TyOf K H (.ref a) (.type "dict")
 |ins {a C dx:Addr}{fs:List (Str×V)} (e:H a=some (.ins C dx fs)) (cl:Cls K C) (ha:PySem.W.findIn K (.ref C) "__class__"=some (some (.builtin "object.__class__")))
   (hn:PySem.W.specialIn K (.builtin "object.__class__") "__get__"=some (some (.builtin "getset_descriptor.__get__"))) (htk:PySem.W.takesIn K (.builtin "object.__class__")=some true)
   (hm:PySem.W.mroIn K C (.type "object")=some true):TyOf K H (.ref a) (.ref C)
theorem Zo5 {x:V}{u t:Value} (I:Inv X pins σ H s) (rx:RelV x u) (ty:TyOf X.K H x t) (e:PySem.W.kitOne X.K t c=some b) (h:∀tk,Q (.bool b) {s with toks:=tk}) :
  wpAny (model X.prog X.w) A (call (.builtin "isinstance") [u,c]) Q E s:=by
 cases ty with
 |non=>cases(show u=Value.none from rx);exact PySem.W.kia_one PySem.W.kitx_none I.kIn True.intro e (λz=>nomatch z) h
 |bl y=>cases(show u=Value.bool y from rx);exact PySem.W.kia_one PySem.W.kitx_bool I.kIn True.intro e (λz=>nomatch z) h
 |int i=>obtain⟨t,q⟩:=(show ∃t,u=Value.int i t from rx);cases q;exact PySem.W.kia_one PySem.W.kitx_int I.kIn True.intro e (λz=>nomatch z) h
 |str y=>obtain⟨t,q⟩:=(show ∃t,u=Value.str y t from rx);cases q;exact PySem.W.kia_one PySem.W.kitx_str I.kIn True.intro e (λz=>nomatch z) h
 |flt y=>obtain⟨t,q⟩:=(show ∃t,u=Value.float y t from rx);cases q;exact PySem.W.kia_one PySem.W.kitx_float I.kIn True.intro e (λz=>nomatch z) h
 |@lst a xs ea =>
  cases(show u=Value.ref a from rx)
  obtain⟨_,_,n,_,h1⟩:=(show Zau X.prog X.w H s.heap a (.lst xs)from I.hok a _ ea)
  exact PySem.W.kia_one PySem.W.kitx_list I.kIn ⟨_,h1,rfl⟩ e (λz=>nomatch z) h
 |@frz a ob xs ea =>
  cases(show u=Value.ref a from rx)
  obtain⟨_,_,_,n,_,h1⟩:=(show Zau X.prog X.w H s.heap a (.frz ob (.lst xs))from I.hok a _ ea)
  exact PySem.W.kia_one PySem.W.kitx_list I.kIn ⟨_,h1,rfl⟩ e (λz=>nomatch z) h
 |@tup a xs ea =>
  cases(show u=Value.ref a from rx)
  obtain⟨_,_,_,p⟩:=(show Zau X.prog X.w H s.heap a (.tup xs)from I.hok a _ ea)
  obtain⟨o,h1,h2,_⟩:=p
  exact PySem.W.kia_one PySem.W.kitx_tuple I.kIn ⟨o,h1,h2⟩ e (λz=>nomatch z) h
 |@dK a kvs ea =>
  cases(show u=Value.ref a from rx)
  obtain⟨_,_,vs,_,p⟩:=(show Zau X.prog X.w H s.heap a (.dK kvs)from I.hok a _ ea)
  obtain⟨o,es,ep,h1,h2,_⟩:=p
  exact PySem.W.kia_one PySem.W.kitx_dict I.kIn ⟨o,h1,h2.1⟩ e (λz=>nomatch z) h
 |@dT a kvs ea =>
  cases(show u=Value.ref a from rx)
  obtain⟨_,_,xs,_,o,es,ep,h1,h2,_⟩:=(show Zau X.prog X.w H s.heap a (.dT kvs)from I.hok a _ ea)
  exact PySem.W.kia_one PySem.W.kitx_dict I.kIn ⟨o,h1,h2.1⟩ e (λz=>nomatch z) h
 |@ins a C dx fs ea cl ha hn htk hm =>
  cases(show u=Value.ref a from rx)
  obtain⟨mA,O,_⟩:=Ztn I.hok ea
  obtain⟨od,J,_⟩:=O.look
  exact PySem.W.kia_one (PySem.W.kitx_own (cl.get _) cl.hd ha hn htk hm) I.kIn J e (λz=>nomatch z) h
end
structure Room (k:Nat) (A:Around):Prop where
 hd:A.handled=none
 dp:A.depth+3*k+5<recursionLimit
 un:A.units+16*k+200<cLine
theorem Room.mono {j k:Nat}{A:Around} (r:Room k A) (h:j<=k):Room j A:=⟨r.hd,by have:=r.dp;omega,by have:=r.un;omega⟩
theorem Room.deeper {k:Nat}{A:Around} (r:Room (k+1) A) (env:Env):Room k (A.deeper env) :=
 ⟨r.hd,by have:=r.dp;show A.depth+1+3*k+5 < _;omega,by have:=r.un;show A.units+3+16*k+200 < _;omega⟩
theorem Room.in1 {k:Nat}{A:Around} (r:Room (k+1) A):Room k A.in1 :=
 ⟨r.hd,by have:=r.dp;show A.depth+3*k+5 < _;omega,by have:=r.un;show A.units+1+16*k+200 < _;omega⟩
theorem Room.depth {k:Nat}{A:Around} (r:Room k A):A.depth<recursionLimit:=by have:=r.dp;omega
theorem Room.units {k:Nat}{A:Around} (r:Room k A):A.units+64<cLine:=by have:=r.un;omega
noncomputable def tNil:TA:=λ_ H Q=>Q [] H
noncomputable def Zor (ta:TE) (tr:TA):TA:=fun σ H Q=>ta σ H λx H1=>tr σ H1 λxs H2=>Q (x::xs) H2
section
variable {X:Cx}{e:Expr}{es:List Expr}{te:TE}{t:TA}{pos:Pos}
theorem Zb:PA X [] tNil:=λ_ _ _ _ H Q I h=>Calls.spliced_nil ⟨[],H,I,.nil,h⟩
theorem Za (ha:PE X e te) (hr:PA X es t) (hs:starEach (e::es) X.env=(false,eval e X.env)::starEach es X.env:=by rfl):PA X (e::es) (Zor te t):=by
 intro pos pins s σ H Q I h
 rw[hs]
 show wpAny _ _ (spliced ((false,eval e X.env)::backTo pos (starEach es X.env))) _ _ s
 refine Calls.spliced_cons (thn (ha pins s σ H _ I h) λu s1 ⟨x,H1,I1,r1,q1⟩=>?_)
 exact thn (hr pos pins s1 σ H1 _ I1 q1) λus s2 ⟨xs,H2,I2,r2,q2⟩=>⟨x::xs,H2,I2,.cons r1 r2,q2⟩
noncomputable def tTup (t:TA):TE:=fun σ H Q=>t σ H λxs H1=>xs.length<=sizeLine/\∀p,H1 p=none->Q (.ref p) (upd H1 p (.tup xs))
noncomputable def tLst (t:TA):TE:=fun σ H Q=>t σ H λxs H1=>xs.length<=sizeLine/\∀p,H1 p=none->Q (.ref p) (upd H1 p (.lst xs))
theorem Zds {x1} (h:PA X es t):PE X (.Tuple es x1 pos) (tTup t):=by
 intro pins s σ H Q I hq
 refine wpAny_Tuple_spliced (thn (h pos pins s σ H _ I hq) λus s1 ⟨xs,H1,I1,r,z,q⟩=>⟨by rw[<-r.length];exact z,?_⟩)
 have hf:H1 s1.heap.objs.size=none:=I1.hok.fresh (Nat.le_refl _)
 refine⟨.ref s1.heap.objs.size,upd H1 s1.heap.objs.size (.tup xs),I1.laid (t':=s1.toks) (λb u e=>Heap.get?_push_of_some _ e) (Nat.le_refl _) ?_,rfl,q _ hf⟩
 exact⟨z,us,r,⟨_,Heap.get?_push_size _ rfl,rfl,_,rfl⟩⟩
theorem Zdt (h:PA X es t):PE X (.List es pos) (tLst t):=by
 intro pins s σ H Q I hq
 refine wpAny_List_spliced (thn (h pos pins s σ H _ I hq) λus s1 ⟨xs,H1,I1,r,z,q⟩=>⟨by rw[<-r.length];exact z,?_⟩)
 have hf:H1 s1.heap.objs.size=none:=I1.hok.fresh (Nat.le_refl _)
 refine⟨.ref s1.heap.objs.size,upd H1 s1.heap.objs.size (.lst xs),I1.laid (t':=s1.toks) (λb u e=>Heap.get?_push_of_some _ e) (Nat.le_refl _) ?_,rfl,q _ hf⟩
 exact⟨z,us,0,r,Heap.get?_push_size _ rfl⟩
end
noncomputable abbrev Sp:=List V->Hp->VK->XK->Prop
noncomputable abbrev CXT:=List Env->Hp->Shared->XK->Value->Shared->Prop
structure Env0 (P:Program) (w:World) (K:PySem.W.Frag) (mg:Str->Option Value) (base:Heap) (A:Around) (outer:List Env) (s:Shared) (H:Hp):Prop where
 frames:A.frames=some outer
 mod:Mod K mg base
 bs:∀b o,base.get? b=some o->s.heap.get? b=some o/\H b=none
 bsz:base.objs.size<=s.heap.objs.size
 funs:s.heap.FunFrames base outer
 frf:∀b∈frs outer,H b=none
 hok:HOk P w H s.heap
 bare:AllBare s.gens
noncomputable def CE (outer:List Env) (P:Program) (w:World) (H:Hp) (s:Shared) (Q:VK) (u:Value) (s':Shared):Prop :=
 ∃v H',s'.os=s.os/\AllBare s'.gens/\Un (frs outer) [] H H' s.heap s'.heap/\HOk P w H' s'.heap/\RelV v u/\Q v H'
noncomputable def CR (CX:CXT) (outer:List Env) (P:Program) (w:World) (H:Hp) (s:Shared) (Q:VK) (E:XK) (r:Result) (s':Shared):Prop :=
 match r with
 |.ok (.ret u)=>CE outer P w H s Q u s'
 |.ok _=>False
 |.error e=>CX outer H s E e s'
structure FnOk (P:Program) (w:World) (K:PySem.W.Frag) (mg:Str->Option Value) (base:Heap) (CX:CXT) (k:Nat) (f:Addr) (fd:FuncData) (ps:List Str) (sp:Sp):Prop where
 len:∀vs H Q E,sp vs H Q E->vs.length=ps.length
 run:∀(A:Around) (outer:List Env) (s:Shared) (H:Hp) (args:Args) (us:List Value) (vs:List V) (Q:VK) (E:XK),Room k A->Env0 P w K mg base A outer s H->BindsTo s fd args (ps.zip us)->Vals vs us->sp vs H Q E ->
  codeAny (model P w) A (.call (.ref f) args) (CR CX outer P w H s Q E) s
theorem FnOk.mono {P:Program}{w:World}{K:PySem.W.Frag}{mg:Str->Option Value}{base:Heap}{CX:CXT}{j k:Nat}{f:Addr}{fd:FuncData}{ps:List Str}{sp:Sp} (F:FnOk P w K mg base CX j f fd ps sp) (h:j<=k) :
  FnOk P w K mg base CX k f fd ps sp:=⟨F.len,λA outer s H args us vs Q E hr=>F.run A outer s H args us vs Q E (hr.mono h)⟩
section
variable {X:Cx}{pins:List (Addr×Obj)}{σ:St}{H:Hp}{s s':Shared}
theorem Inv.env0 (I:Inv X pins σ H s):Env0 X.prog X.w X.K X.mg X.base X.A X.stack s H :=
 ⟨I.ok.frames,I.ok.mod,I.bs,Nat.le_trans I.ok.bsz I.sz,I.stack,I.ZgC,I.hok,I.bare⟩
theorem Inv.after {Q:VK}{u:Value} (I:Inv X pins σ H s) (h:CE X.stack X.prog X.w H s Q u s'):EP X pins σ Q u s':=by
 obtain⟨v,H',os,bare,un,hok,r,q⟩:=h
 obtain⟨hh,g,d,t,os'⟩:=s'
 obtain rfl:os'=s.os:=os
 exact⟨v,H',I.call (h':=hh) (g':=g) (d':=d) (t':=t) (ch:=[]) un hok bare (λb z=>absurd z (by simp)),r,q⟩
end
noncomputable def Zos (sp:Sp) (dvs:List V) (E:XK) (t:TA):TE:=fun σ H Q=>t σ H λvs H1=>sp (vs++dvs) H1 Q E
noncomputable def Binds (K:PySem.W.Frag) (fd:FuncData) (ps:List Str) (ds:List Value):Prop :=
 ∀(s:Shared) (us:List Value),K.In s.heap->(us++ds).length=ps.length->BindsTo s fd ⟨us,[]⟩ (ps.zip (us++ds))
theorem Binds.all {K:PySem.W.Frag}{fd:FuncData}{ps:List Str} (h:∀us:List Value,us.length=ps.length->bindArgs fd ⟨us,[]⟩=pure (ps.zip us)):Binds K fd ps []:=λs us _ hl=>by
 rw[List.append_nil]at hl⊢
 exact .of_eq (h us hl)
noncomputable def Passes (CX:CXT) (X:Cx) (E:XK):Prop:=∀(pins:List (Addr×Obj)) (σ:St) (H:Hp) (s:Shared) (e:Value) (s':Shared),Inv X pins σ H s->CX X.stack H s E e s'->X.xe e s'
section
variable {X:Cx}{CX:CXT}{k:Nat}{f C:Addr}{fd:FuncData}{ps:List Str}{sp:Sp}{dvs:List V}{ds:List Value}{E:XK}{x m:Str}{p pos apos:Pos}{e o:Expr}{es:List Expr}{ta:TE}{t:TA}
theorem run_fn {pins:List (Addr×Obj)}{σ:St}{H:Hp}{s:Shared}{Q:VK}{us:List Value}{vs:List V} (F:FnOk X.prog X.w X.K X.mg X.base CX k f fd ps sp) (hr:Room k X.A) (hb:Binds X.K fd ps ds) (hd:Vals dvs ds) (hx:Passes CX X E)
  (I:Inv X pins σ H s) (r:Vals vs us) (h:sp (vs++dvs) H Q E):wpAny (model X.prog X.w) X.A (call (.ref f) us) (EP X pins σ Q) X.xe s:=by
 have r2:Vals (vs++dvs) (us++ds):=r.append hd
 have hl:(us++ds).length=ps.length:=by rw[<-r2.length];exact F.len _ _ _ _ h
 refine wpAny_call (codeAny_mono (F.run X.A X.stack s H ⟨us,[]⟩ (us++ds) (vs++dvs) Q E hr I.env0 (hb s us I.kIn hl) r2 h) λr s' hq=>?_)
 cases r with
 |error e=>exact hx pins σ H s e s' I hq
 |ok fl =>
  cases fl with
  |ret u=>exact I.after hq
  |next=>exact False.elim hq
  |brk=>exact False.elim hq
  |cont=>exact False.elim hq
theorem Zto (F:FnOk X.prog X.w X.K X.mg X.base CX k f fd ps sp) (hr:Room k X.A) (hg:Gl X x) (hm:X.mg x=some (.ref f)) (hk:PySem.W.keepIn X.K (.ref f)=true) (hb:Binds X.K fd ps ds) (hd:Vals dvs ds) (hx:Passes CX X E)
  (ha:PA X (e::es) t) (hdb:(x==("__debug__":Str))=false:=by decide) (he:starEach (e::es) X.env=(false,eval e X.env)::starEach es X.env:=by rfl) (hpl:(backTo pos (starEach es X.env)).any (·.1)=false:=by rfl) :
  PE X (.Call (.Name x p) (e::es) [] pos) (Zos sp dvs E t):=by
 intro pins s σ H Q I h
 refine wpAny_Call_Name_kw (ZkO I hg hm ?_ hdb)
 refine PySem.W.callWith_K (h₀:=X.base) I.ok.mod.kin hk (thn (ha pos pins s σ H _ I h) λus s1 ⟨vs,H1,I1,r,q⟩=>⟨I1.kIn,?_⟩) he hpl
 exact run_fn F hr hb hd hx I1 r q
end
noncomputable def PK (X:Cx) (kws:List Keyword) (t:TA):Prop :=
 ∀(pos:Pos) (pins:List (Addr×Obj)) (s:Shared) (σ:St) (H:Hp) (Q:List V->Hp->Prop),Inv X pins σ H s->t σ H Q->wpAny (model X.prog X.w) X.A (evalAll ((backToKw pos (keywordEach kws X.env)).map (·.2))) (AP X pins σ Q) X.xe s
section
variable {X:Cx}{CX:CXT}{k:Nat}{f C:Addr}{fd:FuncData}{ps ks:List Str}{sp:Sp}{E:XK}{x m:Str}{p pos apos kpos:Pos}{e o:Expr}{es:List Expr}{kws:List Keyword}{te ta:TE}{t tk:TA}{nm:Option Str}
theorem ZkT:PK X [] tNil:=λ_ _ _ _ H Q I h=>wpAny_evalAll_nil ⟨[],H,I,.nil,h⟩
theorem ZfN (ha:PE X e te) (hr:PK X kws t):PK X (⟨nm,e,kpos⟩::kws) (Zor te t):=by
 intro pos pins s σ H Q I h
 show wpAny _ _ (evalAll ((do let v <-eval e X.env;standAt pos;pure v)::(backToKw pos (keywordEach kws X.env)).map (·.2))) _ _ s
 refine wpAny_evalAll_cons (wpAny_bind (thn (ha pins s σ H _ I h) λu s1 ⟨x,H1,I1,r1,q1⟩=>wpAny_bind (wpAny_standAt (wpAny_pure ?_))))
 exact thn (hr pos pins s1 σ H1 _ I1 q1) λus s2 ⟨xs,H2,I2,r2,q2⟩=>⟨x::xs,H2,I2,.cons r1 r2,q2⟩
variable {g:List Value->List Value->List Value}{gV:List V->List V->List V}
end
structure FnScope (N P:List Str) (sc:Scope):Prop where
 kind:sc.kind=.function
 co:sc.isCoroutine=false
 gen:sc.isGenerator=false
 nd:N.Nodup
 pre:N.take P.length=P
 par:∀x∈P,sc.names.lookup x=some .local\/sc.names.lookup x=some .cell
 nofree:∀y∈sc.names,y.2≠.free
theorem Zki {kindOf:Str->Option NameKind}{x:Str}:∀{binds:List (Str×Value)}{m:Str->Option Value},(∀v,(x,v)∉binds)->bindL kindOf binds m x=m x
 |[],_,_=>rfl
 |(n,v)::r,m,h=>by
  unfold bindL
  rw[Zki λw hw=>h w (List.mem_cons_of_mem _ hw)]
  split
  ·have:x≠n:=by rintro rfl;exact h v List.mem_cons_self
   simp[this]
  ·rfl
theorem Zkj {kindOf:Str->Option NameKind}{x:Str}:∀{binds:List (Str×Value)}{m:Str->Option Value},(∀v,(x,v)∉binds)->bindC kindOf binds m x=m x
 |[],_,_=>rfl
 |(n,v)::r,m,h=>by
  unfold bindC
  rw[Zkj λw hw=>h w (List.mem_cons_of_mem _ hw)]
  split
  ·rfl
  ·have:x≠n:=by rintro rfl;exact h v List.mem_cons_self
   simp[this]
theorem Zkk {kindOf:Str->Option NameKind}{x:Str}{v:Value}:∀{P:List Str}{vs:List Value}{i:Nat}{m:Str->Option Value},P.Nodup->P[i]?=some x->vs[i]?=some v->kindOf x=some .local ->
  bindL kindOf (P.zip vs) m x=some v
 |[],_,_,_,_,h,_,_=>by simp at h
 |_::_,[],_,_,_,_,h,_=>by simp at h
 |p::P,w::vs,0,m,nd,h1,h2,hk=>by
  simp at h1 h2;subst h1;subst h2
  show bindL kindOf ((p,w)::P.zip vs) m p=_
  unfold bindL
  rw[Zki λv hv=>(List.nodup_cons.mp nd).1 (List.of_mem_zip hv).1,if_pos hk]
  simp
 |p::P,w::vs,i+1,m,nd,h1,h2,hk=>by
  show bindL kindOf ((p,w)::P.zip vs) m x=_
  unfold bindL
  exact Zkk (i:=i) (List.nodup_cons.mp nd).2 (by simpa using h1) (by simpa using h2) hk
theorem Zkl {kindOf:Str->Option NameKind}{x:Str}{v:Value}:∀{P:List Str}{vs:List Value}{i:Nat}{m:Str->Option Value},P.Nodup->P[i]?=some x->vs[i]?=some v->kindOf x≠some .local ->
  bindC kindOf (P.zip vs) m x=some v
 |[],_,_,_,_,h,_,_=>by simp at h
 |_::_,[],_,_,_,_,h,_=>by simp at h
 |p::P,w::vs,0,m,nd,h1,h2,hk=>by
  simp at h1 h2;subst h1;subst h2
  show bindC kindOf ((p,w)::P.zip vs) m p=_
  unfold bindC
  rw[Zkj λv hv=>(List.nodup_cons.mp nd).1 (List.of_mem_zip hv).1,if_neg hk]
  simp
 |p::P,w::vs,i+1,m,nd,h1,h2,hk=>by
  show bindC kindOf ((p,w)::P.zip vs) m x=_
  unfold bindC
  exact Zkl (i:=i) (List.nodup_cons.mp nd).2 (by simpa using h1) (by simpa using h2) hk
noncomputable def start (N:List Str) (vs:List V):St:=vs.map some++List.replicate (N.length-vs.length) none
noncomputable def Zgd (CX:CXT) (P:Program) (w:World) (K:PySem.W.Frag) (mg:Str->Option Value) (base:Heap) (N:List Str) (qual:Str) (scope:Scope) (f:Addr) (cd:Value) (A:Around) (outer:List Env) (s:Shared) (H:Hp) (E:XK):Cx where
 prog:=P
 w:=w
 K:=K
 mg:=mg
 base:=base
 A:=A.deeper (envOfC qual scope s.heap.objs.size f cd)
 N:=N
 s₀:=s
 H₀:=H
 env:=envOfC qual scope s.heap.objs.size f cd
 outer:=outer
 stack:=envOfC qual scope s.heap.objs.size f cd::outer
 ex:=[]
 calm:=true
 fn:=λ_=>true
 pn:=[]
 xe:=λe s'=>wpAny (model P w) (A.deeper (envOfC qual scope s.heap.objs.size f cd)) (leaving (envOfC qual scope s.heap.objs.size f cd) e) (λ_ s''=>CX outer H s E e s'') (λe' s''=>CX outer H s E e' s'') s'
theorem ZlY {sc:Scope}{n:Nat}{x:Str} (h:sc.names.lookup x=some .cell):∃c,(cellsFrom n sc.names []).lookup x=some c:=by
 have q:=PySem.W.cellsFrom_some sc.names n [] (.inl h)
 exact Option.isSome_iff_exists.mp q
theorem Zo6 {CX:CXT}{P:Program}{w:World}{K:PySem.W.Frag}{mg:Str->Option Value}{base:Heap}{N ps:List Str}{qual:Str}{scope:Scope}{f:Addr}{cd:Value}{A:Around}{outer:List Env}{s s1:Shared}{H:Hp}{E:XK}{us:List Value}{vs:List V}
  (S:FnScope N ps scope) (hd:A.handled=none) (e0:Env0 P w K mg base A outer s H) (hl:vs.length=ps.length) (r:Vals vs us)
  (x:InCallC s s.heap.objs.size (bindL (envOfC qual scope s.heap.objs.size f cd).kindOf (ps.zip us) λ_=>none) (cellsFrom (s.heap.objs.size+1) scope.names []) (bindC (envOfC qual scope s.heap.objs.size f cd).kindOf (ps.zip us) λ_=>none) s1) :
  Inv (Zgd CX P w K mg base N qual scope f cd A outer s H E) [] (start N vs) H s1:=by
 have hpl:ps.length<=N.length:=by have:=congrArg List.length S.pre;rw[List.length_take]at this;omega
 obtain⟨h1,tk,rfl,hk⟩:=x.done
 have noA:∀b:Addr,b∉(Zgd CX P w K mg base N qual scope f cd A outer s H E).ex:=λb z=>absurd (show b∈([]:List Addr)from z) (by simp)
 refine⟨⟨e0.mod,S.kind,rfl,rfl,Nat.le_refl _,λy z c h1 h2=>?_,λy hy=>?_,λy c _ h=>?_,λ_=>hd,Around.frames_deeper e0.frames,.inr ⟨rfl,rfl⟩,λb z=>absurd z (noA b),e0.bs,e0.bsz,λb _ _=>noA b,λb z=>absurd z (noA b),e0.funs,e0.frf⟩,
  rfl,e0.bare,Un.kept hk,⟨_,x.toInCall.ns,λi y v h1 h2 h3=>?_⟩,λy c h=>⟨_,x.cell y c h⟩,e0.hok.fresh (Nat.le_refl _),λy c h=>?_,λp hp=>absurd (show p∈([]:List (Addr×Obj))from hp) (by simp),e0.hok.kept hk,?_⟩
 ·exact name_of_addr x.apart (PySem.mem_of_lookup h1) (PySem.mem_of_lookup h2)
 ·have hy:scope.names.lookup y=some .cell\/scope.names.lookup y=some .free:=hy
  rcases hy with hy|hy
  ·exact ZlY hy
  ·exact absurd rfl (S.nofree _ (PySem.mem_of_lookup hy))
 ·exact Nat.le_of_lt (x.above y c (PySem.mem_of_lookup h))
 ·have hi:i<vs.length:=by
   unfold start at h2
   by_cases hi:i<vs.length
   ·exact hi
   ·rw[List.getElem?_append_right (by simpa using hi)]at h2
    rw[List.getElem?_replicate]at h2
    split at h2<;>cases h2
  have ha:vs[i]?=some v:=by
   unfold start at h2
   rw[List.getElem?_append_left (by simpa using hi),List.getElem?_map]at h2
   cases e:vs[i]? with
   |none=>rw[e]at h2;cases h2
   |some a=>rw[e]at h2;cases h2;rfl
  obtain⟨u,hu,rv⟩:=r.get ha
  have hp:ps[i]?=some y:=by
   rw[<-S.pre,List.getElem?_take_of_lt (by omega)];exact h1
  have ndP:ps.Nodup:=by rw[<-S.pre];exact S.nd.sublist (List.take_sublist _ _)
  refine⟨u,rv,?_⟩
  rcases S.par y (List.mem_of_getElem? hp)with k|k
  ·exact .inl ⟨k,Zkk ndP hp hu k⟩
  ·obtain⟨c,e⟩:=ZlY (n:=s.heap.objs.size+1) k
   refine .inr ⟨.inl k,c,e,?_⟩
   have q:=x.cell y c e
   rw[Zkl ndP hp hu (by show scope.names.lookup y≠_;rw[k];decide)]at q
   exact q
 ·exact e0.hok.fresh (Nat.le_of_lt (x.above y c (PySem.mem_of_lookup h)))
 ·unfold start
  show _=N.length
  rw[List.length_append,List.length_map,List.length_replicate]
  omega
theorem Zre {CX:CXT}{P:Program}{w:World}{K:PySem.W.Frag}{mg:Str->Option Value}{base:Heap}{k:Nat}{f:Addr}{name qual:Str}{params:Arguments}{body:List Stmt}{scope:Scope}{dV kV doc pm cdv ct oc:Value}{an od:Option Addr}
  {osl:Array (Option Value)}{N ps:List Str}{sp:Sp} (lk:K.lookup f=some ⟨oc,od,.func (PySem.W.fnOf name qual params body scope dV kV doc pm an cdv ct),osl⟩) (hcd:PySem.W.codeIn K cdv qual=true) (S:FnScope N ps scope)
  (len:∀vs H Q E,sp vs H Q E->vs.length=ps.length)
  (hbody:∀(A:Around) (outer:List Env) (s:Shared) (H:Hp) (vs:List V) (Q:VK) (E:XK),Room k (A.deeper (envOfC qual scope s.heap.objs.size f cdv))->sp vs H Q E ->
   ∃t,PSs (Zgd CX P w K mg base N qual scope f cdv A outer s H E) body t/\t {nx:=λ_ H'=>Q .non H',rt:=Q} (start N vs) H) :
  FnOk P w K mg base CX (k+1) f (PySem.W.fnOf name qual params body scope dV kV doc pm an cdv ct) ps sp:=by
 refine⟨len,λA outer s H args us vs Q E hr e0 hb r hsp=>?_⟩
 have hl:=len _ _ _ _ hsp
 have KX:K.In s.heap:=e0.mod.kin.keeps λb o e=>(e0.bs b o e).1
 have lim:s.heap.NoLimit:=e0.mod.nolimit.keeps λb o e=>(e0.bs b o e).1
 have hkind:∀y∈ps.zip us,scope.names.lookup y.1=some .local\/(scope.names.lookup y.1=some .cell/\((cellsFrom (s.heap.objs.size+1) scope.names []).lookup y.1).isSome=true):=λ⟨n,v⟩ hy=>by
  rcases S.par n (List.of_mem_zip hy).1 with q|q
  ·exact .inl q
  ·exact .inr ⟨q,PySem.W.cellsFrom_some _ _ _ (.inl q)⟩
 refine codeAny_call_function hr.depth (KX _ _ lk) rfl S.co S.gen rfl (PySem.W.codeRec_of KX hcd) (hb _ _ _ _ ?_)
 refine wpAny_newFunctionEnv_cells S.kind hkind λenv he s1 x=>?_
 subst he
 refine⟨lim.keeps x.toInCall.keep,codeAny_func ?_⟩
 obtain⟨t,ht,hq⟩:=hbody A outer s H vs Q E (hr.deeper _) hsp
 have I:Inv (Zgd CX P w K mg base N qual scope f cdv A outer s H E) [] (start N vs) H s1:=Zo6 S hr.hd e0 hl r x
 refine wpAny_mono (ht [] s1 (start N vs) H _ I hq) (λfl s' hs=>?_) λe s' hs=>hs
 have fin:∀{σ':St}{H':Hp}{v:V}{u:Value},Inv (Zgd CX P w K mg base N qual scope f cdv A outer s H E) [] σ' H' s'->RelV v u->Q v H'->CE outer P w H s Q u s' :=
  λ{σ' H' v u} J rv q=>⟨v,H',J.os,J.bare,J.base,J.hok,rv,q⟩
 cases fl with
 |ret u =>
  obtain⟨v,σ',H',J,rv,q⟩:=hs
  exact fin J rv q
 |next =>
  obtain⟨σ',H',J,q⟩:=hs
  exact fin (v:=V.non) (u:=Value.none) J rfl q
 |brk =>
  obtain⟨_,_,_,q⟩:=hs
  exact False.elim q
 |cont =>
  obtain⟨_,_,_,q⟩:=hs
  exact False.elim q
section
variable {X:Cx}{x:Str}{p pos:Pos}{e:Expr}{es:List Expr}{t:TA}{id T:String}{r:List V->Hp->VK->Prop}
noncomputable def tCB (r:List V->Hp->VK->Prop) (t:TA):TE:=fun σ H Q=>t σ H λvs H1=>r vs H1 Q
theorem Zk (hc:Zcw X (.builtin id) r) (hg:Gl X x) (hm:X.mg x=none) (hv:bootBuiltins x=some (.builtin id)) (ha:PA X (e::es) t) (hn:x≠"__name__":=by decide) (hdb:(x==("__debug__":Str))=false:=by decide)
  (he:starEach (e::es) X.env=(false,eval e X.env)::starEach es X.env:=by rfl) (hpl:(backTo pos (starEach es X.env)).any (·.1)=false:=by rfl):PE X (.Call (.Name x p) (e::es) [] pos) (tCB r t):=by
 intro pins s σ H Q I h
 refine wpAny_Call_Name_kw (ZbK I hg hm hv ?_ hn hdb)
 exact PyProof.Rows.callWith_builtin1 (thn (ha pos pins s σ H _ I h) λus s1 ⟨vs,H1,I1,r1,q1⟩=>hc pins s1 σ H1 vs us Q I1 r1 q1) he hpl
theorem ZbM (hc:Zcw X (.type T) r) (hg:Gl X x) (hm:X.mg x=none) (hv:bootBuiltins x=some (.type T)) (ha:PA X (e::es) t) (hn:x≠"__name__":=by decide) (hdb:(x==("__debug__":Str))=false:=by decide)
  (he:starEach (e::es) X.env=(false,eval e X.env)::starEach es X.env:=by rfl) (hpl:(backTo pos (starEach es X.env)).any (·.1)=false:=by rfl):PE X (.Call (.Name x p) (e::es) [] pos) (tCB r t):=by
 intro pins s σ H Q I h
 refine wpAny_Call_Name_kw (ZbK I hg hm hv ?_ hn hdb)
 exact PyProof.Rows.callWith_type1 (thn (ha pos pins s σ H _ I h) λus s1 ⟨vs,H1,I1,r1,q1⟩=>hc pins s1 σ H1 vs us Q I1 r1 q1) he hpl
end
end L2
namespace HT
open PySem PyProof.Rows
section
open PySem.SeqAt
open PySem.AutoSeq1 (wpAny_loadPart')
open PySem.MeetsSeq PySem.MeetsSeq2 PySem.MeetsSeq3
end
section
variable {prog:Program}{w:World}{A:Around}{E:Value->Shared->Prop}{s:Shared}
noncomputable def sIx (n d:Nat):Option Int->Nat
 |none=>d
 |some v=>if v<0 then (v+(n:Int)).toNat else min v.toNat n
theorem sIx_le (n d:Nat) (hd:d<=n) (o:Option Int):sIx n d o<=n:=by
 cases o with
 |none=>exact hd
 |some v =>
  show(if v<0 then (v+(n:Int)).toNat else min v.toNat n)<=n
  by_cases hv:v<0
  ·rw[if_pos hv];omega
  ·rw[if_neg hv];exact Nat.min_le_right _ _
theorem Zot (v:Int) (n d:Nat):(if v<0 then max (v+(n:Int)) 0 else min v (n:Int))=((sIx n d (some v):Nat):Int):=by
 show(if v<0 then max (v+(n:Int)) 0 else min v (n:Int))=(((if v<0 then (v+(n:Int)).toNat else min v.toNat n):Nat):Int)
 by_cases hv:v<0
 ·simp only[if_pos hv];omega
 ·simp only[if_neg hv];omega
theorem Znh (lo hi:Option Int) (n:Nat):Builtin.Slice.sliceAdjust lo hi 1 (n:Int)=(((sIx n 0 lo:Nat):Int),((sIx n n hi:Nat):Int)):=by
 have h1:¬ ((1:Int)<0):=by omega
 unfold Builtin.Slice.sliceAdjust
 simp only[h1,if_false]
 refine Prod.ext ?_ ?_
 ·cases lo with
  |none=>rfl
  |some v=>exact Zot v n 0
 ·cases hi with
  |none=>rfl
  |some v=>exact Zot v n n
theorem Zni (i j:Nat):Builtin.Slice.slicePlaces (i:Int) (j:Int) 1=j-i:=by
 unfold Builtin.Slice.slicePlaces
 have h1:(1:Int)>0:=by omega
 simp only[h1,if_true,Int.ediv_one]
 split<;>omega
theorem ZiF {v:Value}{o:Option Int}{Q:Option Int->Shared->Prop} (p:IsPart v o) (h:Q o s):wpAny (model prog w) A (Builtin.Slice.slicePartIndex v) Q E s:=by
 cases p with
 |none=>exact slicePart_none h
 |int i t=>exact slicePart_int h
theorem ZdO {sl:Addr}{vl vu:Value}{lo hi:Option Int}{n:Nat}{Q:Int×Int×Nat->Shared->Prop} (hs:s.heap.IsSliceOf sl vl vu .none) (pl:IsPart vl lo) (pu:IsPart vu hi)
  (h:Q (((sIx n 0 lo:Nat):Int),1,sIx n n hi-sIx n 0 lo) s):wpAny (model prog w) A (Builtin.Slice.sliceApplied (.ref sl) (pure (n:Int))) Q E s:=by
 obtain⟨os,hos,hcs,hds⟩:=id hs
 unfold Builtin.Slice.sliceApplied Builtin.Slice.sliceFields
 refine wpAny_bind (wpAny_bind (wpAny_field hos hds (x:=vl) rfl (wpAny_bind (wpAny_field hos hds (x:=vu) rfl (wpAny_bind (wpAny_field hos hds (x:=.none) rfl (wpAny_pure ?_)))))))
 refine wpAny_bind (slicePart_none ?_)
 show wpAny _ _ (if ((1:Int)==0)=true then _ else _) _ _ s
 rw[if_neg (by decide)]
 refine wpAny_bind (ZiF pl (wpAny_bind (ZiF pu (wpAny_bind (wpAny_pure ?_)))))
 show wpAny _ _ (match Builtin.Slice.sliceAdjust lo hi 1 (n:Int)with|(lo,hi)=>pure (lo,(1:Int),Builtin.Slice.slicePlaces lo hi 1)) _ _ s
 rw[Znh lo hi n]
 show wpAny _ _ (pure (((sIx n 0 lo:Nat):Int),(1:Int),Builtin.Slice.slicePlaces ((sIx n 0 lo:Nat):Int) ((sIx n n hi:Nat):Int) 1)) _ _ s
 rw[Zni]
 exact wpAny_pure h
theorem Zrf (xs:Array Value) (i k:Nat):((List.range k).filterMap λ(m:Nat)=>xs[((i:Int)+(m:Int)*1).toNat]?).toArray=((xs.toList.drop i).take k).toArray:=by
 have e:(λ(m:Nat)=>xs[((i:Int)+(m:Int)*1).toNat]?)=λm=>xs[i+m]?:=by
  funext m
  have:((i:Int)+(m:Int)*1).toNat=i+m:=by omega
  rw[this]
 rw[e]
 have:=pick_run xs i k
 rw[List.filterMap_map]at this
 have e2:((λx=>xs[x]?) ∘ λx=>i+x)=λm=>xs[i+m]?:=rfl
 rw[e2]at this
 rw[this]
theorem ZgF {t sl:Addr}{items:Array Value}{vl vu:Value}{lo hi:Option Int}{Q:Value->Shared->Prop} (ht:IsTup s.heap t items) (hs:s.heap.IsSliceOf sl vl vu .none) (pl:IsPart vl lo) (pu:IsPart vu hi)
  (hw:¬ (sIx items.size 0 lo=0/\sIx items.size items.size hi=items.size))
  (h:Q (.ref s.heap.objs.size) {s with heap:=s.heap.push {cls:=.type "tuple",data:=.seq ((items.toList.drop (sIx items.size 0 lo)).take (sIx items.size items.size hi-sIx items.size 0 lo)).toArray}})
  (hsz:items.size<=sizeLine):wpAny (model prog w) A (getItem (.ref t) (.ref sl)) Q E s:=by
 have htake:sizeOk (.seq ((items.toList.drop (sIx items.size 0 lo)).take (sIx items.size items.size hi-sIx items.size 0 lo)).toArray):=by
  show((items.toList.drop (sIx items.size 0 lo)).take (sIx items.size items.size hi-sIx items.size 0 lo)).toArray.size<=sizeLine
  rw[List.size_toArray,List.length_take,List.length_drop,Array.length_toList]
  omega
 have hj:sIx items.size items.size hi<=items.size:=sIx_le _ _ (Nat.le_refl _) hi
 obtain⟨os,hos,hcs,hds⟩:=id hs
 have hTs:s.TypeIs (.ref sl) "slice":=⟨os,hos,hcs⟩
 unfold getItem
 try with_reducible refine wpAny_holding ?_
 first|refine wpAny_bind (wpAny_pure ?_)|skip
 refine wpAny_bind (wpAny_sequenceKey ht.typeIs (by decide) ?_)
 refine wpAny_bind (wpAny_callSpecial?_slot (name:=Str.ofString "__getitem__") ht.typeIs PyProof.Rows.slot_tuple_getitem
  (wpAny_call_entry PyProof.Rows.slot_tuple_getitem ht.typeIs entry_tuple_getitem ?_ (args_tuple_getitem _ _)))
 show wpAny _ _ (Builtin.Tuple.tupleItemsOf (.ref t) >>= _) _ _ s
 refine wpAny_bind (tupleItemsOf_ ht ?_)
 refine wpAny_bind (wpAny_typeOf hTs ?_)
 rw[if_pos (by decide)]
 refine wpAny_bind (ZdO hs pl pu ?_)
 have hno:¬ ((((sIx items.size 0 lo:Nat):Int)==0&&(1:Int)==1&&(sIx items.size items.size hi-sIx items.size 0 lo)==items.size)=true):=by
  intro q
  rw[Bool.and_eq_true,Bool.and_eq_true]at q
  have q1:((sIx items.size 0 lo:Nat):Int)=0:=eq_of_beq q.1.1
  have q2:sIx items.size items.size hi-sIx items.size 0 lo=items.size:=eq_of_beq q.2
  exact hw ⟨by omega,by omega⟩
 show wpAny _ _ (if (((sIx items.size 0 lo:Nat):Int)==0&&(1:Int)==1&&(sIx items.size items.size hi-sIx items.size 0 lo)==items.size)=true then _ else _) _ _ s
 rw[if_neg hno,Zrf]
 first
  |exact wpAny_bind (m:=Builtin.Tuple.tupleExact _) (wpAny_newObj_type (wpAny_pure ⟨_,rfl,wpAny_pure h⟩) htake)
  |exact wpAny_bind (m:=Builtin.Tuple.tupleExact _) (wpAny_newObj_type (wpAny_bind (wpAny_pure (wpAny_pure ⟨_,rfl,wpAny_pure h⟩))) htake)
  |exact wpAny_bind (wpAny_bind (m:=Builtin.Tuple.tupleExact _) (wpAny_newObj_type (wpAny_pure (wpAny_pure ⟨_,rfl,wpAny_pure h⟩)) htake))
  |exact wpAny_bind (wpAny_bind (m:=Builtin.Tuple.tupleExact _) (wpAny_newObj_type (wpAny_pure ⟨_,rfl,wpAny_pure h⟩) htake))
end
end HT
namespace L2
open PySem PySem.Spec PyProof.Rows
noncomputable abbrev TO:=St->Hp->(Option Int->Hp->Prop)->Prop
noncomputable def PO (X:Cx) (e:Option Expr) (t:TO):Prop :=
 ∀(pins:List (Addr×Obj)) (s:Shared) (σ:St) (H:Hp) (Q:Option Int->Hp->Prop),Inv X pins σ H s->t σ H Q ->
  wpAny (model X.prog X.w) X.A (evalPart e X.env) (λu s'=>∃o H',Inv X pins σ H' s'/\IsPart u o/\Q o H') X.xe s
noncomputable def ZkU:TO:=λ_ H Q=>Q none H
noncomputable def Zrg (t:TE):TO:=fun σ H Q=>t σ H λx H1=>∃i,x=.int i/\Q (some i) H1
theorem intsAre_of {ns:List Int}:∀{us:List Value},Vals (ns.map V.int) us->IntsAre us ns:=by
 induction ns with
 |nil=>intro us r;rw[List.map_nil]at r;cases r;exact .nil
 |cons n ns ih =>
  intro us r
  rw[List.map_cons]at r
  cases r with
  |cons r1 r2 =>
   obtain⟨t,e⟩:=r1
   subst e
   exact .cons n t (ih r2)
section
variable {X:Cx}{e:Expr}{te:TE}{lo hi:Option Expr}{tl th:TO}{pos p2:Pos}
theorem ZkV:PO X none ZkU:=by
 intro pins s σ H Q I h
 rw[evalPart_none]
 exact wpAny_pure ⟨none,H,I,.none,h⟩
theorem Zec (h:PE X e te):PO X (some e) (Zrg te):=by
 intro pins s σ H Q I hw
 rw[evalPart_some]
 refine thn (h pins s σ H _ I hw) λu s1 ⟨x,H1,I1,r1,q1⟩=>?_
 obtain⟨i,rfl,q⟩:=q1
 obtain⟨t,rfl⟩:=r1
 exact⟨some i,H1,I1,.int i t,q⟩
noncomputable def SlR (X:Cx) (r:V->Option Int->Option Int->Hp->VK->Prop):Prop :=
 ∀(pins:List (Addr×Obj)) (s:Shared) (σ:St) (H:Hp) (x:V) (v vl vu:Value) (lo hi:Option Int) (sl:Addr) (Q:VK),Inv X pins σ H s->RelV x v->s.heap.IsSliceOf sl vl vu .none->IsPart vl lo->IsPart vu hi->r x lo hi H Q ->
  ∃T id,typeLookup (.type T) "__getitem__"=pure (some (.builtin id))/\s.TypeIs v T/\wpAny (model X.prog X.w) X.A (getItem v (.ref sl)) (EP X pins σ Q) X.xe s
noncomputable def tSl (r:V->Option Int->Option Int->Hp->VK->Prop) (te:TE) (tl th:TO):TE:=fun σ H Q=>te σ H λx H1=>tl σ H1 λl H2=>th σ H2 λu H3=>r x l u H3 Q
theorem Ze7 {r:V->Option Int->Option Int->Hp->VK->Prop} (hr:SlR X r) (he:PE X e te) (hl:PO X lo tl) (hu:PO X hi th):PE X (.Subscript e (.Slice lo hi none p2) pos) (tSl r te tl th):=by
 intro pins s σ H Q I h
 refine Subscript_ (thn (he pins s σ H _ I h) λv s1 ⟨x,H1,I1,r1,q1⟩=>?_)
 refine wpAny_Slice (thn (hl pins s1 σ H1 _ I1 q1) λvl s2 ⟨l,H2,I2,pl,q2⟩=>thn (hu pins s2 σ H2 _ I2 q2) λvu s3 ⟨u,H3,I3,pu,q3⟩=>?_)
 rw[evalPart_none]
 refine wpAny_pure ?_
 have I4:Inv X pins σ H3 {s3 with heap:=s3.heap.push {cls:=.type "slice",data:=.fields #[vl,vu,.none]}}:=I3.kept (t':=s3.toks) λb ob q=>Heap.get?_push_of_some _ q
 obtain⟨T,id,hT,ht,hg⟩:=hr pins {s3 with heap:=s3.heap.push {cls:=.type "slice",data:=.fields #[vl,vu,.none]}} σ H3 x v vl vu l u s3.heap.objs.size Q I4 r1 (Heap.IsSliceOf.new ..) pl pu q3
 show wpAny (model X.prog X.w) X.A (subscriptTail e (.Slice lo hi none p2) v (.ref s3.heap.objs.size)) (EP X pins σ Q) X.xe {s3 with heap:=s3.heap.push {cls:=.type "slice",data:=.fields #[vl,vu,.none]}}
 exact tail_any (ops:=[.ref s3.heap.objs.size,v]) ht hT hg (by with_unfolding_all rfl)
noncomputable def Ze8 (xs:List V) (lo hi:Option Int):List V:=(xs.drop (HT.sIx xs.length 0 lo)).take (HT.sIx xs.length xs.length hi-HT.sIx xs.length 0 lo)
theorem ZhX (xs:List V) (lo hi:Option Int):(Ze8 xs lo hi).length<=xs.length:=by
 unfold Ze8
 rw[List.length_take,List.length_drop]
 omega
noncomputable def rSlT (K:PySem.W.Frag):V->Option Int->Option Int->Hp->VK->Prop:=λx lo hi H Q=>∃a xs,x=.ref a/\SqT K H a xs /\
 ¬ (HT.sIx xs.length 0 lo=0/\HT.sIx xs.length xs.length hi=xs.length)/\∀p,H p=none->Q (.ref p) (upd H p (.tup (Ze8 xs lo hi)))
theorem sl_tup:SlR X (rSlT X.K):=by
 intro pins s σ H x v vl vu lo hi sl Q I rx hs pl pu h
 obtain⟨a,xs,rfl,hx,hw,q⟩:=h
 cases rx
 obtain⟨its,r,ht,hz⟩:=I.tuple hx
 have hlen:its.toArray.size=xs.length:=by rw[List.size_toArray];exact r.length.symm
 refine⟨"tuple",_,PyProof.Rows.slot_tuple_getitem.lookup,ht.typeIs,?_⟩
 refine HT.ZgF ht hs pl pu (by rw[hlen];exact hw) ?_ (by rw[hlen];exact hz)
 rw[hlen]
 refine⟨.ref s.heap.objs.size,_,I.laid (t':=s.toks) (o:=.tup (Ze8 xs lo hi)) (λb ob q=>Heap.get?_push_of_some _ q) (Nat.le_refl _) ?_,rfl,q _ (I.hok.fresh (Nat.le_refl _))⟩
 exact⟨Nat.le_trans (ZhX xs lo hi) hz,_,(r.drop (HT.sIx xs.length 0 lo)).take (HT.sIx xs.length xs.length hi-HT.sIx xs.length 0 lo),IsTup.new _ _⟩
end
noncomputable def ixN (n:Nat) (i:Int):Option Nat:=if 0<=i then (if i<n then some i.toNat else none)else if -(n:Int)<=i then some (i+n).toNat else none
noncomputable def atI {α:Type} (xs:List α) (i:Int):Option α:=(ixN xs.length i).bind λj=>xs[j]?
theorem Zou {n:Nat}{i:Int}{j:Nat} (h:ixN n i=some j):seqIndex? i n=some j/\j<n/\-(n:Int)<=i/\i<n:=by
 unfold ixN at h
 by_cases h0:0<=i
 ·rw[if_pos h0]at h
  by_cases h1:i<n
  ·rw[if_pos h1]at h
   have e:i.toNat=j:=Option.some.inj h
   exact⟨by rw[seqIndex_of h0 h1,e],by omega,by omega,h1⟩
  ·rw[if_neg h1]at h;cases h
 ·rw[if_neg h0]at h
  by_cases h1:-(n:Int)<=i
  ·rw[if_pos h1]at h
   have e:(i+n).toNat=j:=Option.some.inj h
   exact⟨by rw[seqIndex_neg (by omega) h1,e],by omega,h1,by omega⟩
  ·rw[if_neg h1]at h;cases h
theorem Zov {α:Type}{xs:List α}{i:Int}{v:α} (h:atI xs i=some v):∃j,seqIndex? i xs.length=some j/\xs[j]?=some v/\j<xs.length/\-(xs.length:Int)<=i/\i<xs.length:=by
 unfold atI at h
 cases e:ixN xs.length i with
 |none=>rw[e]at h;cases h
 |some j =>
  rw[e]at h
  obtain⟨h1,h2,h3,h4⟩:=Zou e
  exact⟨j,h1,h,h2,h3,h4⟩
noncomputable def Ztp (b:Expr):Prop:=∀o i,subscripted b false o i=operate [o,i] (getItem o i)
noncomputable def IxR (X:Cx) (r:R2):Prop :=
 ∀(value slice:Expr) (pins:List (Addr×Obj)) (s:Shared) (σ:St) (H:Hp) (x y:V) (v u:Value) (Q:VK),Inv X pins σ H s->RelV x v->RelV y u->r x y H Q ->
  subscripted slice false v u=operate [v,u] (getItem v u)->wpAny (model X.prog X.w) X.A (subscriptTail value slice v u) (EP X pins σ Q) X.xe s
noncomputable def MtR (X:Cx) (id:String) (r:V->List V->Hp->VK->Prop):Prop :=
 ∀(pins:List (Addr×Obj)) (s:Shared) (σ:St) (H:Hp) (x:V) (xs:List V) (v:Value) (us:List Value) (Q:VK),Inv X pins σ H s->RelV x v->Vals xs us->r x xs H Q ->
  wpAny (model X.prog X.w) X.A (call (.builtin id) (v::us)) (EP X pins σ Q) X.xe s
section
variable {X:Cx}{a b:Expr}{ta tb:TE}{pos:Pos}
theorem IxR.or {r r':R2} (h:IxR X r) (h':IxR X r'):IxR X (λx y H Q=>r x y H Q\/r' x y H Q):=by
 intro value slice pins s σ H x y v u Q I rx ry q hs
 rcases q with q|q
 ·exact h value slice pins s σ H x y v u Q I rx ry q hs
 ·exact h' value slice pins s σ H x y v u Q I rx ry q hs
theorem ZD {r:R2} (hr:IxR X r) (ha:PE X a ta) (hb:PE X b tb) (hs:Ztp b):PE X (.Subscript a b pos) (tOp r ta tb):=by
 intro pins s σ H Q I h
 exact Subscript_ (binT ha hb I h λv u s2 x y H2 I2 rx ry q=>hr a b pins s2 σ H2 x y v u Q I2 rx ry q (hs _ _))
noncomputable def ZkW (K:PySem.W.Frag):R2:=λx y H Q=>∃p xs i v,x=.ref p/\y=.int i/\SqL K H p xs/\atI xs i=some v/\Q v H
noncomputable def rIxT (K:PySem.W.Frag):R2:=λx y H Q=>∃p xs i v,x=.ref p/\y=.int i/\SqT K H p xs/\atI xs i=some v/\Q v H
theorem Zy:IxR X (ZkW X.K):=by
 intro value slice pins s σ H x y v u Q I rx ry h hs
 obtain⟨p,xs,i,z,rfl,rfl,hq,he,q⟩:=h
 cases rx
 obtain⟨t,rfl⟩:=ry
 obtain⟨its,r,pl,hz⟩:=I.list hq
 obtain⟨j,h1,h2,h3,h4,h5⟩:=Zov he
 obtain⟨w,ew,rw'⟩:=r.get h2
 have hl:=r.length
 have hn:=ZkS
 have fin:EP X pins σ Q w s:=⟨z,H,I,rw',q⟩
 by_cases h0:0<=i
 ·have hj:i.toNat=j:=by
   rw[seqIndex_of h0 h5]at h1
   exact Option.some.inj h1
  exact item_listR pl.isList h0 (by omega) (by rw[hj];simpa using ew) fin hs
 ·have hj:(i+(its.toArray.size:Int)).toNat=j:=by
   rw[seqIndex_neg (by omega) h4]at h1
   rw[List.size_toArray,<-hl]
   exact Option.some.inj h1
  exact subscriptTail_builtinR (x:=w) pl.isList.typeIs slot_list_getitem.lookup
   (wpAny_getItem_list_neg (Q:=λr s'=>r=w/\EP X pins σ Q r s') pl.isList (by omega) (by rw[List.size_toArray]<;>omega) (by omega) (by rw[hj];simpa using ew) ⟨rfl,fin⟩) hs
theorem ZaW:IxR X (rIxT X.K):=by
 intro value slice pins s σ H x y v u Q I rx ry h hs
 obtain⟨p,xs,i,z,rfl,rfl,hq,he,q⟩:=h
 cases rx
 obtain⟨t,rfl⟩:=ry
 obtain⟨its,r,pl,hz⟩:=I.tuple hq
 obtain⟨j,h1,h2,h3,h4,h5⟩:=Zov he
 obtain⟨w,ew,rw'⟩:=r.get h2
 have hl:=r.length
 have hn:=ZkS
 have fin:EP X pins σ Q w s:=⟨z,H,I,rw',q⟩
 exact subscriptTail_builtinR (x:=w) pl.typeIs slot_tuple_getitem.lookup
  (getItem_tuple (j:=j) (Q:=λr s'=>r=w/\EP X pins σ Q r s') pl (by omega) (by omega) (by rw[List.size_toArray,<-hl];exact h1) (by simpa using ew) ⟨rfl,fin⟩) hs
theorem Znj (its:List Value) (n j:Nat) (u:Value):Obj.mapSeq (·.setIfInBounds j u) {cls:=.type "list",data:=.seq its.toArray n}={cls:=.type "list",data:=.seq (its.set j u).toArray n}:=by
 simp[Obj.mapSeq]
theorem Inv.lst {pins:List (Addr×Obj)}{σ:St}{H:Hp}{s:Shared}{p:Addr}{xs:List V} (I:Inv X pins σ H s) (h:H p=some (.lst xs)) :
  ∃(its:List Value) (n:Nat),Vals xs its/\s.heap.get? p=some {cls:=.type "list",data:=.seq its.toArray n}/\xs.length<=sizeLine:=by
 obtain⟨z,its,n,r,e⟩:=I.hok p _ h
 exact⟨its,n,r,e,z⟩
theorem Inv.lstUpd {pins:List (Addr×Obj)}{σ:St}{H:Hp}{s:Shared}{p:Addr}{xs ys:List V}{its its':List Value}{n n':Nat}{f:Obj->Obj} (I:Inv X pins σ H s) (h:H p=some (.lst xs))
  (ho:s.heap.get? p=some {cls:=.type "list",data:=.seq its.toArray n}) (hf:f {cls:=.type "list",data:=.seq its.toArray n}={cls:=.type "list",data:=.seq its'.toArray n'}) (r:Vals ys its') (hz:ys.length<=sizeLine) (t:Nat) :
  Inv X pins σ (upd H p (.lst ys)) {s with heap:=s.heap.update p f,toks:=t}:=by
 have e:(s.heap.update p f).get? p=some {cls:=.type "list",data:=.seq its'.toArray n'}:=by
  rw[Heap.get?_update_self f ho (by rw[hf]<;>rfl),hf]
 refine I.write (x:=p) (e:=p) (by rw[h];trivial) (.inl rfl) (λb u hb q=>(Heap.get?_update_other _ _ (Ne.symm hb)).trans q) ⟨_,e⟩ ?_
 exact⟨hz,its',n',r,e⟩
noncomputable def Zrh:V->V->V->Hp->(Hp->Prop)->Prop:=λo i v H Q=>∃p xs k j,o=.ref p/\i=.int k/\H p=some (.lst xs)/\ixN xs.length k=some j/\Q (upd H p (.lst (xs.set j v)))
theorem set_list:PSet X Zrh:=by
 intro pins s σ H o i v ov iv u Q I ro ri rv h
 obtain⟨p,xs,k,j,rfl,rfl,hp,hj,q⟩:=h
 cases ro
 obtain⟨t,rfl⟩:=ri
 obtain⟨its,n,r,ho,hz⟩:=I.lst hp
 obtain⟨h1,h2,h3,h4⟩:=Zou hj
 have hl:=r.length
 have hn:=ZkS
 have I':Inv X pins σ (upd H p (.lst (xs.set j v))) {s with heap:=s.heap.update p (Obj.mapSeq (·.setIfInBounds j u))} :=
  I.lstUpd hp ho (Znj its n j u) (r.set rv j) (by rw[List.length_set];exact hz) s.toks
 by_cases h0:0<=k
 ·have hk:k.toNat=j:=by
   rw[seqIndex_of h0 h4]at h1
   exact Option.some.inj h1
  exact PySem.W.ki_setAt ho h0 (by omega) (by rw[List.size_toArray,<-hl];exact h4) (by rw[hk];exact⟨_,I',q⟩)
 ·have hk:(k+(its.toArray.size:Int)).toNat=j:=by
   rw[seqIndex_neg (by omega) h3]at h1
   rw[List.size_toArray,<-hl]
   exact Option.some.inj h1
  exact PySem.W.ki_setBack ho (by omega) (by rw[List.size_toArray,<-hl];exact h3) (by omega) (by rw[hk];exact⟨_,I',q⟩)
theorem ZkX (lo hi:Option Int) (n:Nat):(sliceBounds lo hi none n).1=((HT.sIx n 0 lo:Nat):Int)/\(sliceBounds lo hi none n).2.1=((HT.sIx n n hi:Nat):Int)/\(sliceBounds lo hi none n).2.2=1:=by
 refine⟨?_,?_,rfl⟩
 ·cases lo with
  |none=>simp[sliceBounds,HT.sIx]
  |some i =>
   simp only[sliceBounds,HT.sIx,Option.getD_none,show(1:Int)>0 by decide,if_true]
   by_cases h:i<0
   ·simp only[h,if_true]<;>omega
   ·simp only[h,if_false]<;>omega
 ·cases hi with
  |none=>simp[sliceBounds,HT.sIx]
  |some i =>
   simp only[sliceBounds,HT.sIx,Option.getD_none,show(1:Int)>0 by decide,if_true]
   by_cases h:i<0
   ·simp only[h,if_true]<;>omega
   ·simp only[h,if_false]<;>omega
theorem ZjY (its:List Value) (lo hi:Option Int):slicePick its.toArray lo hi none=((its.drop (HT.sIx its.length 0 lo)).take (HT.sIx its.length its.length hi-HT.sIx its.length 0 lo)).toArray:=by
 obtain⟨h1,h2,h3⟩:=ZkX lo hi its.toArray.size
 unfold slicePick
 rw[h1,h2,h3]
 simp only[sliceRange_one,pick_run,List.size_toArray]<;>rfl
noncomputable def rSlL (K:PySem.W.Frag):V->Option Int->Option Int->Hp->VK->Prop:=λx lo hi H Q=>∃a xs,x=.ref a/\SqL K H a xs/\∀p,H p=none->Q (.ref p) (upd H p (.lst (Ze8 xs lo hi)))
theorem Ziw:SlR X (rSlL X.K):=by
 intro pins s σ H x v vl vu lo hi sl Q I rx hs pl pu h
 obtain⟨a,xs,rfl,hx,q⟩:=h
 cases rx
 obtain⟨its,r,ht,hz⟩:=I.list hx
 have hlen:=r.length
 refine⟨"list",_,slot_list_getitem.lookup,ht.isList.typeIs,?_⟩
 refine wpAny_getItem_list_slice ht.isList hs pl pu .none (by simp) ?_ (by rw[List.size_toArray]<;>omega)
 rw[ZjY,<-hlen]
 refine⟨.ref s.heap.objs.size,_,I.laid (t':=s.toks) (o:=.lst (Ze8 xs lo hi)) (λb ob q=>Heap.get?_push_of_some _ q) (Nat.le_refl _) ?_,rfl,q _ (I.hok.fresh (Nat.le_refl _))⟩
 exact⟨Nat.le_trans (ZhX xs lo hi) hz,_,0,(r.drop (HT.sIx xs.length 0 lo)).take (HT.sIx xs.length xs.length hi-HT.sIx xs.length 0 lo),Heap.get?_push_size _ rfl⟩
noncomputable def flatV:V->Bool
 |.non=>true
 |.bl _=>true
 |.int _=>true
 |.str _=>true
 |_=>false
noncomputable def eqV:V->V->Bool
 |.non,.non=>true
 |.bl a,.bl b=>a==b
 |.bl a,.int b=>(if a then 1 else 0)==b
 |.int a,.bl b=>a==(if b then 1 else 0)
 |.int a,.int b=>a==b
 |.str a,.str b=>a==b
 |_,_=>false
theorem Zri {A:Around}{s:Shared}{y x:V}{u v:Value} (ry:RelV y u) (rx:RelV x v) (fy:flatV y=true) (fx:flatV x=true):SeqAt.EqAt A s u v (eqV y x):=by
 cases y with
 |non =>
  cases ry
  cases x with
  |non=>cases rx;exact SeqAt.EqAt.same _
  |bl b=>cases rx;exact SeqAt.EqAt.none_bool b
  |int b=>obtain⟨t,rfl⟩:=rx;exact SeqAt.EqAt.none_int b t
  |str b=>obtain⟨t,rfl⟩:=rx;exact SeqAt.EqAt.none_str b t
  |_=>exact absurd (show false=true from fx) Bool.false_ne_true
 |bl a =>
  cases ry
  cases x with
  |non=>cases rx;exact SeqAt.EqAt.bool_none a
  |bl b=>cases rx;exact SeqAt.EqAt.bool_bool a b
  |int b=>obtain⟨t,rfl⟩:=rx;exact SeqAt.EqAt.bool_int a b t
  |str b=>obtain⟨t,rfl⟩:=rx;exact SeqAt.EqAt.bool_str a b t
  |_=>exact absurd (show false=true from fx) Bool.false_ne_true
 |int a =>
  obtain⟨t',rfl⟩:=ry
  cases x with
  |non=>cases rx;exact SeqAt.EqAt.int_none a t'
  |bl b=>cases rx;exact SeqAt.EqAt.int_bool a t' b
  |int b=>obtain⟨t,rfl⟩:=rx;exact SeqAt.EqAt.int_int a t' b t
  |str b=>obtain⟨t,rfl⟩:=rx;exact SeqAt.EqAt.int_str a t' b t
  |_=>exact absurd (show false=true from fx) Bool.false_ne_true
 |str a =>
  obtain⟨t',rfl⟩:=ry
  cases x with
  |non=>cases rx;exact SeqAt.EqAt.str_none a t'
  |bl b=>cases rx;exact SeqAt.EqAt.str_bool a t' b
  |int b=>obtain⟨t,rfl⟩:=rx;exact SeqAt.EqAt.str_int a t' b t
  |str b=>obtain⟨t,rfl⟩:=rx;exact SeqAt.EqAt.str_str a t' b t
  |_=>exact absurd (show false=true from fx) Bool.false_ne_true
 |_=>exact absurd (show false=true from fy) Bool.false_ne_true
noncomputable def eqU (x:V) (u:Value):Bool:=match u with
 |.none=>eqV .non x
 |.bool b=>eqV (.bl b) x
 |.int i _=>eqV (.int i) x
 |.str z _=>eqV (.str z) x
 |_=>false
theorem Znk {x y:V}{u:Value} (r:RelV y u) (f:flatV y=true):eqU x u=eqV y x:=by
 cases y with
 |non=>cases r;rfl
 |bl b=>cases r;rfl
 |int i=>obtain⟨t,rfl⟩:=r;rfl
 |str z=>obtain⟨t,rfl⟩:=r;rfl
 |_=>exact absurd (show false=true from f) Bool.false_ne_true
theorem ZkY {x:V}:∀{xs:List V}{us:List Value},Vals xs us->xs.all flatV=true->us.any (eqU x)=xs.any λy=>eqV y x
 |_,_,.nil,_=>rfl
 |y::xs,u::us,.cons r t,f=>by
  rw[List.all_cons,Bool.and_eq_true]at f
  rw[List.any_cons,List.any_cons,Znk r f.1,ZkY t f.2]
theorem ZgG {A:Around}{s:Shared}{x:V}{v:Value} (rx:RelV x v) (fx:flatV x=true):∀{xs:List V}{us:List Value},Vals xs us->xs.all flatV=true->∀u∈us,SeqAt.EqAt A s u v (eqU x u)
 |_,_,.nil,_=>λu hu=>by cases hu
 |y::xs,u::us,.cons r t,f=>λu' hu=>by
  rw[List.all_cons,Bool.and_eq_true]at f
  rcases List.mem_cons.mp hu with rfl|hu
  ·rw[Znk r f.1];exact Zri r rx f.1 fx
  ·exact ZgG rx fx t f.2 u' hu
noncomputable def inV (x:V) (xs:List V):Bool:=xs.any λy=>eqV y x
noncomputable def rIn (K:PySem.W.Frag) (neg:Bool):R2:=λx y H Q=>∃p xs,y=.ref p/\(SqL K H p xs\/SqT K H p xs)/\flatV x=true/\xs.all flatV=true/\Q (.bl (if neg then !inV x xs else inV x xs)) H
theorem Zo7:OpR X (compareOp .In) (rIn X.K false):=by
 intro pins s σ H x y v u Q I rx ry h
 obtain⟨p,xs,rfl,hq,fx,fs,q⟩:=h
 cases ry
 rcases hq with hq|hq
 ·obtain⟨its,r,pl,hz⟩:=I.list hq
  refine SeqAt.in_listAt (eqU x) pl.isList (λw hw=>ZgG rx fx r fs w (by simpa using hw)) ⟨.bl _,H,I,rfl,?_⟩
  rw[show its.toArray.any (eqU x)=its.any (eqU x) by simp,ZkY r fs]
  exact q
 ·obtain⟨its,r,pl,hz⟩:=I.tuple hq
  refine SeqAt.in_tupleAt (eqU x) pl (λw hw=>ZgG rx fx r fs w (by simpa using hw)) ⟨.bl _,H,I,rfl,?_⟩
  rw[show its.toArray.any (eqU x)=its.any (eqU x) by simp,ZkY r fs]
  exact q
theorem ZkZ:Zcw X (.builtin "len") (λxs H Q=>∃p ys,xs=[.ref p]/\(SqL X.K H p ys\/SqT X.K H p ys)/\Q (.int ys.length) H):=by
 intro pins s σ H xs us Q I r h
 obtain⟨p,ys,rfl,hq,q⟩:=h
 obtain⟨u,rfl,rx⟩:=vals1 r
 cases rx
 have hn:=ZkS
 rcases hq with hq|hq
 ·obtain⟨its,r',pl,hz⟩:=I.list hq
  have hlen:=r'.length
  exact Calls.call_len_list pl.isList (by simp only[List.size_toArray]<;>omega) ⟨.int ys.length,H,I.tok _,⟨s.toks+1,by rw[List.size_toArray,hlen]⟩,q⟩
 ·obtain⟨its,r',pl,hz⟩:=I.tuple hq
  have hlen:=r'.length
  exact len_tuple pl (by simp only[List.size_toArray]<;>omega) ⟨.int ys.length,H,I.tok _,⟨s.toks+1,by rw[List.size_toArray,hlen]⟩,q⟩
theorem Zk0:Zcw X (.type "list") (λxs H Q=>∃p ys,xs=[.ref p]/\(SqL X.K H p ys\/SqT X.K H p ys)/\∀l,H l=none->Q (.ref l) (upd H l (.lst ys))):=by
 intro pins s σ H xs us Q I r h
 obtain⟨p,ys,rfl,hq,q⟩:=h
 obtain⟨u,rfl,rx⟩:=vals1 r
 cases rx
 have fin:∀(its:List Value),Vals ys its->ys.length<=sizeLine->∀(h':Heap) (c':Nat),(∀b o',s.heap.get? b=some o'->h'.get? b=some o') ->
   h'.get? s.heap.objs.size=some {cls:=.type "list",dict:=none,data:=.seq its.toArray c',slots:=#[]}->EP X pins σ Q (.ref s.heap.objs.size) {s with heap:=h'}:=λits r' hz h' c' kp e =>
  ⟨.ref s.heap.objs.size,_,I.laid (t':=s.toks) kp (Nat.le_refl _) (show Zau X.prog X.w _ h' _ (.lst ys)from⟨hz,its,c',r',e⟩),rfl,q _ (I.hok.fresh (Nat.le_refl _))⟩
 rcases hq with hq|hq
 ·obtain⟨its,r',pl,hz⟩:=I.list hq
  have hlen:=r'.length
  obtain⟨o,ho,hc,n,hd⟩:=pl.isList
  exact call_list_seq p (.inl rfl) ho hc hd (λh' c' kp e=>fin its r' hz h' c' kp e) (by simp only[List.size_toArray]<;>omega)
 ·obtain⟨its,r',pl,hz⟩:=I.tuple hq
  have hlen:=r'.length
  obtain⟨o,ho,hc,n,hd⟩:=pl
  exact call_list_seq p (.inr rfl) ho hc hd (λh' c' kp e=>fin its r' hz h' c' kp e) (by simp only[List.size_toArray]<;>omega)
theorem ZjZ:Zcw X (.type "tuple") (λxs H Q=>∃p ys,xs=[.ref p]/\((SqL X.K H p ys/\∀l,H l=none->Q (.ref l) (upd H l (.tup ys)))\/(SqT X.K H p ys/\Q (.ref p) H))):=by
 intro pins s σ H xs us Q I r h
 obtain⟨p,ys,rfl,h⟩:=h
 obtain⟨u,rfl,rx⟩:=vals1 r
 cases rx
 rcases h with⟨hq,q⟩|⟨hq,q⟩
 ·obtain⟨its,r',pl,hz⟩:=I.list hq
  have hlen:=r'.length
  refine call_tuple_list pl.isList (λh' kp=>?_) (by simp only[List.size_toArray]<;>omega)
  have I1:Inv X pins σ H {s with heap:=h'}:=I.kept (t':=s.toks) kp
  have I2:Inv X pins σ (upd H h'.objs.size (.tup ys)) {s with heap:=h'.push {cls:=.type "tuple",data:=.seq its.toArray}} :=
   I1.laid (t':=s.toks) (λb o e=>Heap.get?_push_of_some _ e) (Nat.le_refl _) (show Zau X.prog X.w _ _ _ (.tup ys)from⟨hz,its,r',IsTup.new _ _⟩)
  exact⟨.ref h'.objs.size,_,I2,rfl,q _ (I1.hok.fresh (Nat.le_refl _))⟩
 ·obtain⟨its,r',pl,hz⟩:=I.tuple hq
  exact call_tuple_same pl ⟨.ref p,H,I,rfl,q⟩
noncomputable def tyV (K:PySem.W.Frag) (T:String) (x:V) (H:Hp):Prop:=match x with
 |.str _=>T="str"
 |.int _=>T="int"
 |.ref p=>(T="list"/\∃xs,SqL K H p xs)\/(T="tuple"/\∃o,K.lookup p=some o/\o.cls=.type "tuple"/\o.dict=none) \/
   (T="dict"/\((∃kvs,H p=some (.dK kvs))\/∃kvs,H p=some (.dT kvs)))\/(T="set"/\∃S n,H p=some (.set S n))
 |_=>False
theorem tyV_is {pins:List (Addr×Obj)}{σ:St}{H:Hp}{s:Shared}{T:String}{x:V}{v:Value} (I:Inv X pins σ H s) (r:RelV x v) (ty:tyV X.K T x H) :
  s.TypeIs v T/\∀a,v=.ref a->∃ob,s.heap.get? a=some ob/\ob.dict=none:=by
 cases x with
 |str z =>
  obtain⟨t,rfl⟩:=r
  cases(show T="str" from ty)
  exact⟨typeIs_str s z t,λ_ e=>nomatch e⟩
 |int i =>
  obtain⟨t,rfl⟩:=r
  cases(show T="int" from ty)
  exact⟨typeIs_int s i t,λ_ e=>nomatch e⟩
 |ref p =>
  cases r
  rcases ty with⟨rfl,xs,hq⟩|⟨rfl,o,hk,hc,hd⟩|⟨rfl,hk⟩|⟨rfl,S,n,hk⟩
  ·obtain⟨its,_,pl,_⟩:=I.list hq
   refine⟨pl.isList.typeIs,λa e=>?_⟩
   cases e
   obtain⟨o,n,e,c,hd,_⟩:=pl
   exact⟨o,e,hd⟩
  ·refine⟨⟨o,I.kIn p o hk,hc⟩,λa e=>?_⟩
   cases e
   exact⟨o,I.kIn _ o hk,hd⟩
  ·have z:∃o,s.heap.get? p=some o/\o.ExactDict:=by
    rcases hk with⟨kvs,hk⟩|⟨kvs,hk⟩
    ·obtain⟨_,_,_,_,o,_,_,e,ex,_⟩:=I.hok p _ hk
     exact⟨o,e,ex⟩
    ·obtain⟨_,_,_,_,o,_,_,e,ex,_⟩:=I.hok p _ hk
     exact⟨o,e,ex⟩
   obtain⟨o,e,ex⟩:=z
   refine⟨⟨o,e,ex.1⟩,λa e2=>?_⟩
   cases e2
   exact⟨o,e,ex.2.1⟩
  ·obtain⟨o,_,_,_,e,ex,_⟩:=I.hok p _ hk
   refine⟨⟨o,e,ex.1⟩,λa e2=>?_⟩
   cases e2
   exact⟨o,e,ex.2.1⟩
 |_=>exact False.elim ty
noncomputable def tBM (K:PySem.W.Frag) (T:String) (r:V->List V->Hp->VK->Prop) (to:TE) (t:TA):TE:=fun σ H Q=>to σ H λx H1=>tyV K T x H1/\t σ H1 λxs H2=>r x xs H2 Q
variable {o e:Expr}{es:List Expr}{to:TE}{t:TA}{name:Str}{apos cpos:Pos}{T id:String}{r:V->List V->Hp->VK->Prop}
theorem ZeR (pa:PlainAttrs T) (slot:Slot T name id) (hty:typeOf (.builtin id)=pure (.type "method_descriptor")) (hm:MtR X id r) (ho:PE X o to) (ha:PA X (e::es) t)
  (hbase:attributeBase o name X.env (eval o X.env)=eval o X.env:=by rfl)
  (hfew:((backTo cpos (starEach (e::es) X.env)).all (λx=>!x.1)&&(backToKw cpos (keywordEach [] X.env)).all (λx=>x.1.isSome)
   && decide ((e::es).length+([]:List Keyword).length+(if ([]:List Keyword).isEmpty then 0 else 1)<30))=true:=by rfl)
  (hline:(apos.endLine==cpos.line)=true:=by rfl) (hs:starEach (e::es) X.env=(false,eval e X.env)::starEach es X.env:=by rfl) (hplain:(backTo cpos (starEach es X.env)).any (·.1)=false:=by rfl) :
  PE X (.Call (.Attribute o name apos) (e::es) [] cpos) (tBM X.K T r to t):=by
 intro pins s σ H Q I h
 refine wpAny_Call_method_late hbase hfew hline rfl (thn (ho pins s σ H _ I h) λv s1 ⟨x,H1,I1,r1,ty,q1⟩=>?_)
 obtain⟨h1,h2⟩:=tyV_is I1 r1 ty
 refine⟨T,id,pa,slot,hty,h1,h2,?_⟩
 have hA:=ha cpos pins s1 σ H1 _ I1 q1
 rw[hs]at hA⊢
 refine Calls.callWith_builtin (by show(false||(backTo cpos (starEach es X.env)).any (·.1))=false;rw[hplain]<;>rfl) (Calls.evalArgs_plain ?_)
 exact thn hA λus s2 ⟨vs,H2,I2,r2,q2⟩=>hm pins s2 σ H2 x vs v us Q I2 r1 r2 q2
end
noncomputable def MtM (X:Cx) (id:String) (r:V->List V->Hp->VK->Prop):Prop :=
 ∀(pins:List (Addr×Obj)) (s:Shared) (σ:St) (H:Hp) (x:V) (xs:List V) (v:Value) (us:List Value) (Q:VK),Inv X pins σ H s->RelV x v->Vals xs us->r x xs H Q ->
  wpAny (model X.prog X.w) X.A (call (.builtin id) (v::us)) (EP X pins σ Q) X.xe s
theorem Vals.one:∀{x:V}{us:List Value},Vals [x] us->∃u,us=[u]/\RelV x u
 |_,_,.cons r .nil=>⟨_,rfl,r⟩
theorem Vals.two:∀{x y:V}{us:List Value},Vals [x,y] us->∃u v,us=[u,v]/\RelV x u/\RelV y v
 |_,_,_,.cons r (.cons q .nil)=>⟨_,_,rfl,r,q⟩
theorem Vals.rep {xs:List V}{us:List Value} (h:Vals xs us):∀k:Nat,Vals (List.replicate k xs).flatten (List.replicate k us).flatten
 |0=>.nil
 |k+1=>by
  rw[List.replicate_succ,List.replicate_succ,List.flatten_cons,List.flatten_cons]
  exact Vals.append h (Vals.rep h k)
theorem foldl_rep (its:List Value):∀(k:Nat) (acc:List Value),
  List.foldl (λx1 x2=>x1++x2) acc.toArray (List.replicate k its.toArray)=(acc++(List.replicate k its).flatten).toArray
 |0,acc=>by simp
 |k+1,acc=>by
  have e:acc.toArray++its.toArray=(acc++its).toArray:=by simp
  have e2:(acc++its)++(List.replicate k its).flatten=acc++(List.replicate (k+1) its).flatten:=by
   rw[List.replicate_succ,List.flatten_cons,List.append_assoc]
  rw[<-e2,<-foldl_rep its k (acc++its),<-e,List.replicate_succ,List.foldl_cons]
section
variable {X:Cx}{pins:List (Addr×Obj)}{σ:St}{H:Hp}{s:Shared}{l b:Addr}{xs ys zs:List V}
theorem Inv.lset {its its':List Value}{n:Nat}{f:Array Value->Array Value}{t':Nat} (I:Inv X pins σ H s) (hH:H l=some (.lst xs))
  (e:s.heap.get? l=some {cls:=.type "list",data:=.seq its.toArray n}) (hf:f its.toArray=its'.toArray) (hv:Vals ys its') (hz:ys.length<=sizeLine) :
  Inv X pins σ (upd H l (.lst ys)) {s with heap:=s.heap.update l (Obj.mapSeq f),toks:=t'}:=by
 have q:=PySem.IsL.update e f
 rw[hf]at q
 refine I.write (x:=l) (e:=l) (by rw[hH];exact trivial) (.inl rfl) (λb' u hb hu=>(Heap.get?_update_other s.heap (Obj.mapSeq f) (Ne.symm hb)).trans hu) ⟨_,q⟩ ?_
 exact⟨hz,its',_,hv,q⟩
theorem Inv.lnew {its:List Value}{t':Nat} (I:Inv X pins σ H s) (hv:Vals ys its) (hz:ys.length<=sizeLine) :
  Inv X pins σ (upd H s.heap.objs.size (.lst ys)) {s with heap:=s.heap.push {cls:=.type "list",data:=.seq its.toArray},toks:=t'} :=
 I.laid (λ_ _ q=>Heap.get?_push_of_some _ q) (Nat.le_refl _) ⟨hz,its,0,hv,Heap.get?_push_size _ rfl⟩
theorem Inv.fresh (I:Inv X pins σ H s):H s.heap.objs.size=none:=I.hok.fresh (Nat.le_refl _)
theorem Inv.lstM (I:Inv X pins σ H s) (hH:H l=some (.lst xs)):xs.length<=sizeLine/\∃(its:List Value) (n:Nat),Vals xs its/\xs.length=its.length/\s.heap.get? l=some {cls:=.type "list",data:=.seq its.toArray n}:=by
 obtain⟨z,its,n,r,e⟩:=I.hok l _ hH
 exact⟨z,its,n,r,r.length,e⟩
theorem Zrj {n:Nat} (h:n<=sizeLine):Builtin.List.listTooLong n=false:=by
 unfold Builtin.List.listTooLong
 exact decide_eq_false (by omega)
end
section
variable {X:Cx}
noncomputable def Zk1:V->List V->Hp->VK->Prop:=λx vs H Q=>∃l xs y,x=.ref l/\vs=[y]/\H l=some (.lst xs)/\xs.length<sizeLine/\Q .non (upd H l (.lst (xs++[y])))
theorem ZaO:MtM X "list.append" Zk1:=by
 intro pins s σ H x vs v us Q I rx rv h
 obtain⟨l,xs,y,rfl,rfl,hH,hz,q⟩:=h
 cases rx
 obtain⟨u,rfl,ru⟩:=rv.one
 obtain⟨z,its,n,r,hl,e⟩:=I.lstM hH
 refine call_meets F.slot_list_append ⟨_,e,rfl⟩ F.entry_list_append (F.args_list_append_2 _ _) (PySem.list_append l its.toArray n u (by rw[List.size_toArray];omega)) ⟨e,?_⟩
 refine⟨.non,_,I.lset (its':=its++[u]) hH e (by simp) (r.append (.cons ru .nil)) ?_,rfl,q⟩
 rw[List.length_append,List.length_singleton]
 omega
noncomputable def rRep:R2:=λx y H Q=>∃l k xs,x=.ref l/\y=.int k/\H l=some (.lst xs)/\-(2 ^ 63)<=k/\k<2 ^ 63/\xs.length*k.toNat<=sizeLine /\
 ∀p,H p=none->Q (.ref p) (upd H p (.lst (List.replicate k.toNat xs).flatten))
theorem len_rep {α:Type} (xs:List α) (k:Nat):(List.replicate k xs).flatten.length=k*xs.length:=by
 induction k with
 |zero=>simp
 |succ k ih=>rw[List.replicate_succ,List.flatten_cons,List.length_append,ih,Nat.succ_mul,Nat.add_comm]
theorem op_rep:OpR X (binaryOp .Mult) rRep:=by
 intro pins s σ H x y v u Q I rx ry h
 obtain⟨l,k,xs,rfl,rfl,hH,h1,h2,hz,q⟩:=h
 cases rx
 obtain⟨t,rfl⟩:=ry
 obtain⟨z,its,n,r,hl,e⟩:=I.lstM hH
 have hlen:its.toArray.size*k.toNat<=sizeLine:=by rw[List.size_toArray,<-hl];exact hz
 have hcap:¬ its.toArray.size*k.toNat>(2 ^ 63-1) / 8:=by
  have:(sizeLine:Nat)<=(2 ^ 63-1) / 8:=by decide
  omega
 have hfit:¬ (!Builtin.List.listFitsIndex k)=true:=by
  rw[fitsIndex_both h1 h2]
  exact Bool.false_ne_true
 have hlong:¬ Builtin.List.listTooLong (its.toArray.size*k.toNat)=true:=by
  rw[Zrj hlen]
  exact Bool.false_ne_true
 have hnew:List.foldl (λx1 x2=>x1++x2) #[] (List.replicate (if its.toArray.isEmpty=true then 0 else k.toNat) its.toArray)=(List.replicate k.toNat its).flatten.toArray:=by
  have f0:∀m:Nat,List.foldl (λx1 x2=>x1++x2) #[] (List.replicate m its.toArray)=(List.replicate m its).flatten.toArray:=λm=>by
   have:=foldl_rep its m []
   rw[List.nil_append]at this
   exact this
  rw[f0]
  cases its with
  |nil=>simp
  |cons a r'=>rw[if_neg (by simp)]
 refine wpAny_binaryOp_repeat_ref (T:="list") (U:="int") (by decide) ⟨_,e,rfl⟩ (λs'=>typeIs_int s' k t) noFill_list_mul F.fills_int_mul F.slot_int_rmul repeat_list F.slot_int_index.lookup
  (call_meets F.slot_int_rmul (typeIs_int s k t) F.entry_int_rmul (F.args_int_rmul_2 _ _) (int___rmul___int_list k t l its.toArray n)
   ⟨e,rfl,⟨_,e,rfl⟩,call_meets F.slot_list_mul ⟨_,e,rfl⟩ F.entry_list_mul (F.args_list_mul_2 _ _) (AutoListH.list___mul___list_int_3 l its.toArray n k t hfit hcap hlong) ⟨e,?_⟩⟩)
 rw[hnew]
 exact⟨.ref _,_,I.lnew (t':=s.toks) (r.rep k.toNat) (by rw[len_rep,Nat.mul_comm];exact hz),rfl,q _ I.fresh⟩
end
end L2
namespace Att
open PySem PySem.W PySem.Calls PyProof.Rows
theorem Zii {P:Params}{h:Heap}:∀(ns:List Int) (vs:List Value),WellAll P h vs (ns.map WData.int)->IntsAre vs ns:=by
 intro ns
 induction ns with
 |nil =>
  intro vs w
  rw[List.map_nil]at w
  cases w
  exact .nil
 |cons n ns ih =>
  intro vs w
  rw[List.map_cons]at w
  cases w with
  |cons a b =>
   cases a
   exact .cons _ _ (ih _ b)
theorem Zo8 {l:OpenLaw}{n:Nat} (hn:l.most=some n) {P:Params}{h:Heap}{args:List WData}{vals:List Value}
  (hpre:l.row.toRowW.claim.pre args=true) (hwl:WellAll P h vals args) :
  ∃a vs ns,vals=[Value.ref a]/\args=[WData.list (ns.map WData.int)]/\h.get? a=some {cls:=.type "list",data:=.seq vs.toArray}/\IntsAre vs ns/\ns.length<=n:=by
 have hsh:WShape.hasAll [] args [.list .int]=true:=(pre_splitW hpre).1
 have hc:l.pre.holds [] {args:=args}=true:=(pre_splitW hpre).2
 obtain⟨d,r,rfl,h1,h2⟩:=hasAllW_cons hsh
 obtain rfl:=hasAllW_nil h2
 obtain⟨xs,rfl,h3⟩:=hasW_list h1
 obtain⟨ns,rfl⟩:=items_int h3
 have hlen:ns.length<=n:=by
  unfold OpenLaw.pre at hc
  have h4:(WTm.not (.lt (.lit (.int (n:Int))) (.len (.arg 0)))).holds [] {args:=[.list (ns.map .int)]}=true:=by
   have h4:=(holds_andW hc).1
   rw[hn]at h4
   exact h4
  have h5:=condW_of h4 (w_not (w_lt w_lit (w_len_list (w_arg rfl))))
  rw[List.length_map]at h5
  refine Nat.le_of_not_lt λq=>?_
  have q':(n:Int)<((ns.length:Nat):Int):=by omega
  first
   |(rw[decide_eq_true q']at h5;exact absurd h5 (by decide))
   |(simp at h5;omega)
 cases hwl with
 |cons w1 w2 =>
  cases w2
  cases w1 with
  |list ho hall=>exact⟨_,_,ns,rfl,rfl,ho,Zii ns _ hall,hlen⟩
theorem Zo9 (l:OpenLaw) (args:List WData):l.row.toRowW.claim.post args (.bool true) args=true :=
 postW_of (r:=l.row.toRowW) (X:=(true==true))
  (show WShape.has [] (.bool true) .bool=true by first|rfl|decide|simp[WShape.has,WShape.arms,WShape.armsAll])
  (show(WTm.eq .res (.lit (.bool true))).value [] {args:=args,res:=some (.bool true),after:=args}=some (.bool (true==true))from w_eq_bool (w_res rfl) w_lit) rfl
theorem ZlZ {l:OpenLaw}{n:Nat}{q:Program}{loose:List Str}{XP:(Str->Option Value)->Heap->Prop}{YP:World->Heap->Prop}{d:DefRec}
  (hn:l.most=some n) (hdf:d.params.defaults=[])
  (call:∀(w:World) (s₀ s₁:Shared) (mg mb:Str->Option Value) (fa:Addr) (o:Obj) (pm cd doc:Value) (a:Addr) (vs:List Value) (ns:List Int),
   Ground q loose [] XP w s₀ mg mb s₁.heap->YP w s₁.heap ->
   s₁.heap.get? fa=some o->o.data=.func (docDef d.name d.params d.body d.scope pm cd doc)->s₁.heap.CodeRec cd d.name->mg d.name=some (.ref fa) ->
   s₁.heap.get? a=some {cls:=.type "list",data:=.seq vs.toArray}->IntsAre vs ns->ns.length<=n->s₁.gens=#[] ->
   codeAny (model l.prog w) callerA (.call (.ref fa) ⟨[.ref a],[]⟩) (λr s'=>r=.ok (.ret (.bool true))/\OldK s₁.heap s'.heap/\s'.os=s₁.os/\AllBare s'.gens) s₁) :
  WalkO q loose XP YP l.row.toRowW d [] (λf vs=>PySem.call f vs):=by
 intro w s₀ s₁ mg mb G Y fa o pm cd doc dV kV ho hd hcd hD hmg hg args vals as hpre hlay hrd hwl hlo
 obtain rfl:dV=.none:=Dflts.none hD hdf
 obtain rfl:kV=.none:=Dflts.noKw hD
 obtain⟨a,vs,ns,rfl,rfl,hobj,hints,hlen⟩:=Zo8 hn hpre hwl
 refine enter_call (codeAny_mono (call w s₀ s₁ mg mb fa o pm cd doc a vs ns G Y ho (fd_plain hd) hcd hmg hobj hints hlen hg) λr s' hq=>?_)
 obtain⟨rfl,h2,h3,h4⟩:=hq
 exact⟨.inl ⟨.bool true,.bool true,[],rfl,λ_=>rfl,.bool true,Zo9 l _,λ_=>⟨List.Pairwise.nil,λ_ hm=>(nomatch hm)⟩⟩,h2,h3,h4⟩
end Att
namespace L2
open PySem PySem.Spec PyProof.Rows
theorem Zhg:∀{vs:List Value}{ns:List Int},IntsAre vs ns->Vals (ns.map V.int) vs
 |_,_,.nil=>.nil
 |_,_,.cons n t h=>.cons ⟨t,rfl⟩ (Zhg h)
noncomputable def defArgs (s:Stmt):Arguments:=match s with
 |.FunctionDef _ a _ _ _ _ _ _ _ _=>a
 |_=>{posonlyargs:=[],args:=[],vararg:=none,kwonlyargs:=[],kw_defaults:=[],kwarg:=none,defaults:=[]}
noncomputable def defBody (s:Stmt):List Stmt:=match s with
 |.FunctionDef _ _ b _ _ _ _ _ _ _=>b
 |_=>[]
noncomputable def defScope (s:Stmt):Scope:=match s with
 |.FunctionDef _ _ _ _ _ _ sc _ _ _=>sc
 |_=>{kind:=.function,names:=[],isGenerator:=false,isCoroutine:=false}
noncomputable abbrev CX0:CXT:=λ_ _ _ _ _ _=>False
noncomputable abbrev E0:XK:=λ_ _ _=>False
structure Fun (K:PySem.W.Frag) (x qual:Str) (st:Stmt) (f:Addr) (fd:FuncData):Prop where
 ex:∃(oc:Value) (od:Option Addr) (kV doc pm:Value) (an:Option Addr) (cdv ct:Value) (osl:Array (Option Value)),
  fd=PySem.W.fnOf x qual (defArgs st) (defBody st) (defScope st) .none kV doc pm an cdv ct/\K.lookup f=some ⟨oc,od,.func fd,osl⟩/\PySem.W.codeIn K cdv qual=true
 kp:PySem.W.keepIn K (.ref f)=true
section
variable {P:Program}{w:World}{K:PySem.W.Frag}{mg:Str->Option Value}{base:Heap}
theorem Fun.ok {x qual:Str}{st:Stmt}{f:Addr}{fd:FuncData}{N ps:List Str}{k:Nat}{sp:Sp} (F:Fun K x qual st f fd) (S:FnScope N ps (defScope st)) (len:∀vs H Q E,sp vs H Q E->vs.length=ps.length)
  (hbody:∀(cdv:Value) (A:Around) (outer:List Env) (s:Shared) (H:Hp) (vs:List V) (Q:VK) (E:XK),Room k (A.deeper (envOfC qual (defScope st) s.heap.objs.size f cdv))->sp vs H Q E ->
   ∃t,PSs (Zgd CX0 P w K mg base N qual (defScope st) f cdv A outer s H E).nox (defBody st) t/\t {nx:=λ_ H'=>Q .non H',rt:=Q} (start N vs) H):FnOk P w K mg base CX0 (k+1) f fd ps sp:=by
 obtain⟨oc,od,kV,doc,pm,an,cdv,ct,osl,rfl,lk,hcd⟩:=F.ex
 refine Zre lk hcd S len λA outer s H vs Q E hr hsp=>?_
 obtain⟨t,h,q⟩:=hbody cdv A outer s H vs Q E hr hsp
 exact⟨t,h.nox,q⟩
theorem Fun.binds {x qual:Str}{st:Stmt}{f:Addr}{fd:FuncData}{ps:List Str} (F:Fun K x qual st f fd)
  (h:∀(kV doc pm:Value) (an:Option Addr) (cdv ct:Value) (us:List Value),us.length=ps.length->bindArgs (PySem.W.fnOf x qual (defArgs st) (defBody st) (defScope st) .none kV doc pm an cdv ct) ⟨us,[]⟩=pure (ps.zip us)):Binds K fd ps []:=by
 obtain⟨oc,od,kV,doc,pm,an,cdv,ct,osl,rfl,lk,hcd⟩:=F.ex
 exact .all (h kV doc pm an cdv ct)
theorem ZH {x qual:Str}{st:Stmt}{f:Addr}{oc:Value}{od an:Option Addr}{osl:Array (Option Value)}{kV doc pm cdv ct:Value} (l:K.lookup f=some ⟨oc,od,.func (PySem.W.fnOf x qual (defArgs st) (defBody st) (defScope st) .none kV doc pm an cdv ct),osl⟩)
  (c:PySem.W.codeIn K cdv qual=true) (k:PySem.W.keepIn K (.ref f)=true):Fun K x qual st f (PySem.W.fnOf x qual (defArgs st) (defBody st) (defScope st) .none kV doc pm an cdv ct):=⟨⟨oc,od,kV,doc,pm,an,cdv,ct,osl,rfl,l,c⟩,k⟩
end
section
variable {X:Cx}
theorem pv (i:Nat) {x:Str}{pos:Pos} (hN:X.N[i]?=some x:=by rfl) (hv:Vis X.env.scope x:=by first|exact Or.inl rfl|exact Or.inr (Or.inl rfl)|exact Or.inr (Or.inr rfl)) (hd:(x==("__debug__":Str))=false:=by decide)
  (hcd:(x==("__classdict__":Str))=false:=by decide):PE X (.Name x pos) (ZlR i):=pe_var hN hv hd hcd
end
theorem ZF {c A B:Prop} [Decidable c] (h1:c->A) (h2:¬ c->B):if c then A else B:=by
 by_cases h:c
 ·rw[if_pos h]
  exact h1 h
 ·rw[if_neg h]
  exact h2 h
noncomputable def Zh (H H':Hp):Prop:=∀b o,H b=some o->H' b=some o
theorem Zh.refl (H:Hp):Zh H H:=λ_ _ h=>h
theorem Zh.trans {H H1 H2:Hp} (a:Zh H H1) (b:Zh H1 H2):Zh H H2:=λc o h=>b c o (a c o h)
theorem Zh.free {H H':Hp} (e:Zh H H') {l:Addr} (h:H' l=Option.none):H l=Option.none:=by
 cases q:H l with
 |none=>rfl
 |some o =>
  rw[e l o q]at h
  cases h
theorem Zh.seq {K:PySem.W.Frag}{H H':Hp}{a:Addr}{xs:List V} (e:Zh H H') (h:SqL K H a xs):SqL K H' a xs:=by
 rcases h with(h|⟨o,h⟩)|h
 ·exact .inl (.inl (e _ _ h))
 ·exact .inl (.inr ⟨o,e _ _ h⟩)
 ·exact .inr h
theorem Zed {env:Env}:∀(names:List (Str×NameKind)) (cs0:List (Str×Addr)),(∀y∈names,y.2=.free->∃c,env.cells.lookup y.1=some c) ->
  ∃cl,(forIn names cs0 (λ(x:Str×NameKind) r=>(do
   match x with
   |(name,kind)=>if (kind==NameKind.free)=true then do let a <-cellOf env name;pure (ForInStep.yield ((name,a)::r))else pure (ForInStep.yield r)):_->_->Sem (ForInStep (List (Str×Addr)))))=pure cl /\
   (∀p∈cl,p∈cs0\/env.cells.lookup p.1=some p.2)/\(∀p∈cs0,p∈cl)/\(∀y∈names,y.2=.free->∃c,(y.1,c)∈cl)
 |[],cs0,_=>⟨cs0,rfl,λp h=>.inl h,λp h=>h,λy h=>by cases h⟩
 |(n,k)::r,cs0,h=>by
  by_cases hk:k=.free
  ·subst hk
   obtain⟨c,hc⟩:=h (n,.free) (.head _) rfl
   obtain⟨cl,e,h1,h2,h3⟩:=Zed r ((n,c)::cs0) λy hy=>h y (.tail _ hy)
   refine⟨cl,?_,λp hp=>?_,λp hp=>h2 p (.tail _ hp),λy hy hf=>?_⟩
   ·rw[List.forIn_cons]
    have e1:cellOf env n=pure c:=by unfold cellOf;rw[hc]
    simp only[beq_self_eq_true,if_true,e1,pure_bind]
    exact e
   ·rcases h1 p hp with q|q
    ·rcases List.mem_cons.mp q with q|q
     ·subst q;exact .inr hc
     ·exact .inl q
    ·exact .inr q
   ·rcases List.mem_cons.mp hy with q|q
    ·subst q;exact⟨c,h2 _ (.head _)⟩
    ·exact h3 y q hf
  ·obtain⟨cl,e,h1,h2,h3⟩:=Zed r cs0 λy hy=>h y (.tail _ hy)
   refine⟨cl,?_,h1,h2,λy hy hf=>?_⟩
   ·rw[List.forIn_cons]
    have e1:(k==NameKind.free)=false:=by cases k<;>first|rfl|exact absurd rfl hk
    simp only[e1,Bool.false_eq_true,if_false,pure_bind]
    exact e
   ·rcases List.mem_cons.mp hy with q|q
    ·subst q;exact absurd hf hk
    ·exact h3 y q hf
theorem ZiG {env:Env}{scope:Scope} (h:∀y∈scope.names,y.2=.free->∃c,env.cells.lookup y.1=some c) :
  ∃cl,closureFor scope env=pure cl/\(∀x c,cl.lookup x=some c->env.cells.lookup x=some c)/\(∀y∈scope.names,y.2=.free->∃c,cl.lookup y.1=some c/\env.cells.lookup y.1=some c):=by
 obtain⟨cl,e,h1,h2,h3⟩:=Zed (env:=env) scope.names [] h
 have up:∀x c,cl.lookup x=some c->env.cells.lookup x=some c:=λx c q=>by
  rcases h1 _ (PySem.mem_of_lookup q)with z|z
  ·cases z
  ·exact z
 refine⟨cl,?_,up,λy hy hf=>?_⟩
 ·unfold closureFor
  simp only[bind_pure_comp]at e⊢
  rw[e]
  exact pure_bind _ _
 ·obtain⟨c,hc⟩:=h3 y hy hf
  cases q:cl.lookup y.1 with
  |none=>exact absurd (List.lookup_eq_none_iff.mp q _ hc) (by simp)
  |some c'=>exact⟨c',rfl,up _ _ q⟩
noncomputable def compOk (around scope:Scope):Bool :=
 scope.kind==.function&&around.kind==.function&&scope.names.all λy=>match y.2 with
  |.local=>scope.names.lookup y.1==some .local
  |.cell=>false
  |.free=>(scope.names.lookup y.1==some .free)&&(around.names.lookup y.1==some .cell||around.names.lookup y.1==some .free)
  |_=>true
theorem Zde {a s:Scope} (h:compOk a s=true):s.kind=.function:=by
 simp only[compOk,Bool.and_eq_true,beq_iff_eq]at h;exact h.1.1
theorem Zhh {a s:Scope} (h:compOk a s=true) {y:Str×NameKind} (hy:y∈s.names):(match y.2 with
  |.local=>s.names.lookup y.1==some .local
  |.cell=>false
  |.free=>(s.names.lookup y.1==some .free)&&(a.names.lookup y.1==some .cell||a.names.lookup y.1==some .free)
  |_=>true)=true:=by
 simp only[compOk,Bool.and_eq_true]at h
 exact List.all_eq_true.mp h.2 y hy
theorem Zk2 {a s:Scope} (h:compOk a s=true):∀y∈s.names,y.2=.local->s.names.lookup y.1=some .local:=λy hy e=>by
 have q:=Zhh h hy
 rw[e]at q
 exact beq_iff_eq.mp q
theorem Zdf {a s:Scope} (h:compOk a s=true):∀y∈s.names,y.2≠.cell:=λy hy e=>by
 have q:=Zhh h hy
 rw[e]at q
 cases q
theorem Zdg {a s:Scope} (h:compOk a s=true):∀y∈s.names,y.2=.free->a.names.lookup y.1=some .cell\/a.names.lookup y.1=some .free:=λy hy e=>by
 have q:=Zhh h hy
 rw[e]at q
 simp only[Bool.and_eq_true,Bool.or_eq_true,beq_iff_eq]at q
 exact q.2
theorem Z4 {env:Env}:∀{names:List (Str×NameKind)}{x:Str}{k:NameKind},(names.map λ(n,k)=>if (k==NameKind.free&&env.scope.kind==.function&&env.kindOf n==some .cell)then (n,NameKind.cell)else (n,k)).lookup x=some k ->
  ∃k',names.lookup x=some k'/\(k=k'\/(k'=.free/\k=.cell))
 |[],_,_,h=>by simp at h
 |(n,k0)::r,x,k,h=>by
  by_cases hx:x=n
  ·subst hx
   refine⟨k0,by simp,?_⟩
   simp only[List.map_cons]at h
   split at h
   ·rename_i hc
    simp only[Bool.and_eq_true,beq_iff_eq]at hc
    simp only[List.lookup_cons_self,Option.some.injEq]at h
    exact .inr ⟨hc.1.1,h.symm⟩
   ·simp only[List.lookup_cons_self,Option.some.injEq]at h
    exact .inl h.symm
  ·have hb:(x==n)=false:=by simpa using hx
   simp only[List.map_cons]at h
   have e2:∀k1,((n,k1)::r).lookup x=r.lookup x:=λk1=>by simp[List.lookup_cons,hb]
   split at h<;>(simp only[List.lookup_cons,hb]at h;obtain⟨k',h1,h2⟩:=Z4 h;exact⟨k',by rw[e2];exact h1,h2⟩)
noncomputable def ZaJ (X:Cx) (Nc:List Str) (scope:Scope) (cl:List (Str×Addr)) (C:Addr) (s2:Shared) (H2:Hp) (fp:List Addr):Cx where
 prog:=X.prog
 w:=X.w
 K:=X.K
 mg:=X.mg
 base:=X.base
 A:=X.A
 N:=Nc
 s₀:=s2
 H₀:=H2
 env:=compEnvC scope cl C X.env
 outer:=X.stack
 stack:=X.stack
 ex:=fp
 fn:=λ_=>false
 calm:=X.calm
 pn:=[]
 xe:=λ_ _=>False
noncomputable def ZW (js:List (Option Nat)) (σ:St):St:=js.map λj=>match j with
 |none=>none
 |some i=>(σ[i]?).join
noncomputable def takesC (N Nc:List Str) (scope:Scope):List (Option Nat)->Nat->Bool
 |[],i=>i==Nc.length
 |none::r,i=>takesC N Nc scope r (i+1)
 |some j::r,i=>(match Nc[i]?,N[j]? with
  |some x,some y=>x==y&&scope.names.lookup x==some .free
  |_,_=>false)&&takesC N Nc scope r (i+1)
theorem ZcQ {N Nc:List Str}{scope:Scope}:∀{js:List (Option Nat)}{i:Nat},takesC N Nc scope js i=true->i+js.length=Nc.length
 |[],i,h=>by simpa[takesC]using h
 |none::r,i,h=>by
  have:=ZcQ (js:=r) (i:=i+1) (by simpa[takesC]using h)
  simp only[List.length_cons];omega
 |some j::r,i,h=>by
  simp only[takesC,Bool.and_eq_true]at h
  have:=ZcQ (js:=r) (i:=i+1) h.2
  simp only[List.length_cons];omega
theorem ZdP {N Nc:List Str}{scope:Scope}:∀{js:List (Option Nat)}{i k j:Nat},takesC N Nc scope js i=true->js[k]?=some (some j)->∃x,Nc[i+k]?=some x/\N[j]?=some x/\scope.names.lookup x=some .free
 |[],i,k,j,h,e=>by simp at e
 |none::r,i,0,j,h,e=>by simp at e
 |none::r,i,k+1,j,h,e=>by
  obtain⟨x,h1,h2,h3⟩:=ZdP (js:=r) (i:=i+1) (k:=k) (j:=j) (by simpa[takesC]using h) (by simpa using e)
  exact⟨x,by rw[<-h1];congr 1;omega,h2,h3⟩
 |some j0::r,i,0,j,h,e=>by
  simp only[takesC,Bool.and_eq_true]at h
  simp only[List.getElem?_cons_zero,Option.some.injEq]at e
  subst e
  cases e1:Nc[i]? with
  |none=>rw[e1]at h;simp at h
  |some x =>
   cases e2:N[j0]? with
   |none=>rw[e1,e2]at h;simp at h
   |some y =>
    rw[e1,e2]at h
    simp only[Bool.and_eq_true,beq_iff_eq]at h
    exact⟨x,by simpa using e1,by rw[h.1.1],h.1.2⟩
 |some j0::r,i,k+1,j,h,e=>by
  simp only[takesC,Bool.and_eq_true]at h
  obtain⟨x,h1,h2,h3⟩:=ZdP (js:=r) (i:=i+1) (k:=k) (j:=j) h.2 (by simpa using e)
  exact⟨x,by rw[<-h1];congr 1;omega,h2,h3⟩
section
variable {X:Cx}
theorem lookup_mem {names:List (Str×NameKind)}{x:Str}{k:NameKind} (h:names.lookup x=some k):(x,k)∈names:=PySem.mem_of_lookup h
theorem Znl {pins:List (Addr×Obj)}{σ:St}{H2:Hp}{s2:Shared}{Nc:List Str}{js:List (Option Nat)}{scope:Scope}{cl:List (Str×Addr)}{fp:List Addr}{h1:Heap}{tk:Nat}{D C:Addr}{oD:Obj}{m:Str->Option Value}
  (I:Inv X pins σ H2 s2) (hok:compOk X.env.scope scope=true) (htk:takesC X.N Nc scope js 0=true) (up:∀x c,cl.lookup x=some c->X.env.cells.lookup x=some c) (hfr:∀y∈scope.names,y.2=.free->∃c,cl.lookup y.1=some c/\X.env.cells.lookup y.1=some c)
  (hfp:∀b∈fp,FpOk X pins H2 b) (hfl:∀b∈fp,b<s2.heap.objs.size) (hD:D=s2.heap.objs.size) (hC:C=s2.heap.objs.size+1) (old:∀b o,s2.heap.get? b=some o->h1.get? b=some o) (hns:h1.Ns C m) (hoD:h1.get? D=some oD) (hdD:∀v,oD.data≠.cell v) :
  Inv (ZaJ X Nc scope cl C s2 H2 fp) [(D,oD)] (ZW js σ) H2 {s2 with heap:=h1,toks:=tk}:=by
 have leC:s2.heap.objs.size<=C:=by rw[hC];exact Nat.le_succ _
 have leD:s2.heap.objs.size<=D:=Nat.le_of_eq hD.symm
 have kf:∀x,((compEnvC scope cl C X.env).kindOf x=some .cell\/(compEnvC scope cl C X.env).kindOf x=some .free)->∃c,cl.lookup x=some c/\X.env.cells.lookup x=some c:=λx hx=>by
  have:∃k,(compEnvC scope cl C X.env).kindOf x=some k/\(k=.cell\/k=.free):=hx.elim (λq=>⟨_,q,.inl rfl⟩) λq=>⟨_,q,.inr rfl⟩
  obtain⟨k,e,hk⟩:=this
  obtain⟨k',h1,h2⟩:=Z4 (show(scope.names.map _).lookup x=some k from e)
  have hm:=lookup_mem h1
  have:k'=.free:=by
   rcases h2 with q|q
   ·subst q
    rcases hk with q|q
    ·subst q;exact absurd rfl (Zdf hok _ hm)
    ·exact q
   ·exact q.1
  subst this
  exact hfr _ hm rfl
 have nC:∀c x,X.env.cells.lookup x=some c->c<s2.heap.objs.size:=λc x e=>by
  obtain⟨v,q⟩:=I.cell x c e
  exact q.lt
 have noB:∀b,b∈fp->b∉frs X.stack:=λb hb q=>by
  rcases List.mem_cons.mp (I.Ze0 b q)with z|z
  ·exact(hfp b hb).2.1 z
  ·exact(hfp b hb).2.2.1 z
 have okX:(ZaJ X Nc scope cl C s2 H2 fp).Ok:=by
  refine⟨I.ok.mod,(show scope.kind=.function from Zde hok),I.ok.glob,I.ok.blt,?_,λx y c e1 e2=>I.ok.inj x y c (up _ _ e1) (up _ _ e2),λx hx=>?_,(λx c e=>nomatch e),I.ok.hd,I.ok.frames,.inl rfl,λb hb=>⟨?_,λx c e=>(hfp b hb).2.2.2.2.1 x c (up _ _ e)⟩,I.bs,Nat.le_trans I.ok.bsz I.sz,λb o e hb=>?_,λb hb=>noB b hb,I.stack,I.ZgC⟩
  ·show s2.heap.objs.size<=C;exact leC
  ·obtain⟨c,q,_⟩:=kf x hx;exact⟨c,q⟩
  ·exact Nat.ne_of_lt (Nat.lt_of_lt_of_le (hfl b hb) leC)
  ·rcases(hfp b hb).2.2.2.1 with q|q
   ·exact I.ok.noex b o e q
   ·exact absurd (Nat.lt_of_lt_of_le (Heap.lt_size e) (Nat.le_trans I.ok.bsz q)) (Nat.lt_irrefl _)
 refine⟨okX,rfl,I.bare,Un.kept old,⟨m,hns,λi x v e1 e2 e3=>?_⟩,λx c e=>?_,I.hok.fresh leC,λx c e=>I.freeC x c (up _ _ e),λp hp=>?_,I.hok.kept old,?_⟩
 ·have e2':(ZW js σ)[i]?=some (some v):=e2
  unfold ZW at e2'
  rw[List.getElem?_map]at e2'
  cases q:js[i]? with
  |none=>rw[q]at e2';cases e2'
  |some j0 =>
   cases j0 with
   |none=>rw[q]at e2';cases e2'
   |some j =>
    rw[q]at e2'
    simp only[Option.map_some,Option.some.injEq]at e2'
    have e4:σ[j]?=some (some v):=by
     cases z:σ[j]? with
     |none=>rw[z]at e2';cases e2'
     |some o=>rw[z]at e2';simp only[Option.join_some]at e2';rw[e2']
    obtain⟨y,y1,y2,y3⟩:=ZdP htk q
    rw[Nat.zero_add]at y1
    have:x=y:=Option.some.inj ((show Nc[i]?=some x from e1).symm.trans y1)
    subst this
    have hm:=lookup_mem y3
    obtain⟨c,c1,c2⟩:=hfr _ hm rfl
    have hk:=Zdg hok _ hm rfl
    obtain⟨m0,hn0,hl0⟩:=I.loc
    obtain⟨u,r,l⟩:=hl0 j x v y2 e4 (hk.elim (λz=>.inr (.inl z)) λz=>.inr (.inr z))
    refine⟨u,r,.inr ⟨?_,c,c1,?_⟩⟩
    ·rcases e3 with z|z|z
     ·obtain⟨k',w1,w2⟩:=Z4 (show(scope.names.map _).lookup x=some NameKind.local from z)
      rw[y3]at w1;cases w1
      rcases w2 with w|w
      ·cases w
      ·cases w.2
     ·exact .inl z
     ·exact .inr z
    ·rcases l with⟨lk,_⟩|⟨_,c',c3,c4⟩
     ·rcases hk with z|z
      ·rw[show X.env.kindOf x=some .cell from z]at lk;cases lk
      ·rw[show X.env.kindOf x=some .free from z]at lk;cases lk
     ·rw[c2]at c3;cases c3
      obtain⟨oc,w1,w2⟩:=c4
      exact⟨oc,old _ _ w1,w2⟩
 ·obtain⟨v,oc,w1,w2⟩:=I.cell x c (up _ _ e)
  exact⟨v,oc,old _ _ w1,w2⟩
 ·have:p=(D,oD):=by
   have hp':p∈([]++[(D,oD)]:List (Addr×Obj)):=hp
   simpa using hp'
  subst this
  refine⟨hoD,I.hok.fresh leD,(by show D≠C;rw[hD,hC];exact Nat.ne_of_lt (Nat.lt_succ_self _)),λhb=>?_,hdD⟩
  have hb':D∈frs X.stack:=hb
  obtain⟨_,o,ho,_⟩:=I.stack.mem hb'
  exact absurd (Nat.lt_of_lt_of_le (Heap.lt_size ho) leD) (Nat.lt_irrefl _)
 ·have:=ZcQ htk
  show(ZW js σ).length=Nc.length
  unfold ZW;rw[List.length_map];omega
theorem Ze9 {prog:Program}{w:World}{A:Around}{R:Result->Shared->Prop}{s:Shared}{elt target iter:Expr}{ifs:List Expr}{scope:Scope}{pos:Pos}{it acc:Value}{env:Env} (I:Nat->Shared->Prop)
  (turn:∀n s,I n s->wpAny (model prog w) A (pyNext it) (λr s₁=>match r with
   |none=>R (.ok .next) s₁
   |some v=>wpAny (model prog w) A (letOwnedTupleGo target it v) (λ_ s₁=>wpAny (model prog w) A (assign target env v) (λ_ s₂ =>
     wpAny (model prog w) A (forIn ifs true λc r=>if r=true then do let ok <-isTrue c env (eval c env);pure (ForInStep.yield ok)else pure (ForInStep.yield r)) (λok s₃ =>
      if ok=true then wpAny (model prog w) A (eval elt env) (λx s₄ =>
       wpAny (model prog w) A (call (.builtin "list.append") [acc,x]) (λ_ s₅=>∃m,m<n/\I m s₅) (λ_ _=>False) s₄) (λ_ _=>False) s₃
      else ∃m,m<n/\I m s₃) (λ_ _=>False) s₂) (λ_ _=>False) s₁) (λ_ _=>False) s₁) (λ_ _=>False) s)
  (n:Nat) (h:I n s) :
  codeAny (model prog w) A (.compLoop (.ListComp elt [⟨target,iter,ifs,0⟩] scope pos) 0 it acc env) R s:=by
 refine codeAny_loop rfl I (λn s hI=>?_) n h
 show wpAny _ A ((compTurn (.ListComp elt [⟨target,iter,ifs,0⟩] scope pos) 0 it acc env).onRaise (λx=>do noteFrame x env;theTreesLotGoes x)) _ _ s
 refine wpAny_noted ?_
 rw[compTurn_list]
 refine wpAny_bind (wpAny_standAt (wpAny_bind (wpAny_mono (turn n s hI) (λr s₁ h₁=>?_) λ_ _ h'=>h'.elim)))
 cases r with
 |none=>exact wpAny_pure h₁
 |some v =>
  refine wpAny_bind (wpAny_mono h₁ (λ_ s₁' h₁=>?_) λ_ _ h'=>h'.elim)
  refine wpAny_bind (wpAny_mono h₁ (λ_ s₂ h₂=>wpAny_bind (wpAny_mono h₂ (λok s₃ h₃=>?_) λ_ _ h'=>h'.elim)) λ_ _ h'=>h'.elim)
  cases ok with
  |false=>exact wpAny_pure ⟨rfl,h₃⟩
  |true =>
   exact wpAny_bind (wpAny_bind (wpAny_mono h₃ (λx s₄ h₄=>wpAny_bind (wpAny_mono h₄ (λ_ s₅ h₅=>wpAny_pure (wpAny_pure ⟨rfl,h₅⟩)) λ_ _ h'=>h'.elim)) λ_ _ h'=>h'.elim))
noncomputable def Zij (X:Cx) (ifs:List Expr) (t:TT):Prop :=
 ∀(pins:List (Addr×Obj)) (s:Shared) (σ:St) (H:Hp) (Q:Bool->Hp->Prop),Inv X pins σ H s->t σ H Q ->
  wpAny (model X.prog X.w) X.A (forIn ifs true λc r=>if r=true then do let ok <-isTrue c X.env (eval c X.env);pure (ForInStep.yield ok)else pure (ForInStep.yield r)) (TP X pins σ Q) X.xe s
noncomputable def tYes:TT:=λ_ H Q=>Q true H
theorem ZK:Zij X [] tYes:=λpins s σ H Q I h=>wpAny_tests_nil ⟨H,I,h⟩
theorem ZgH {c:Expr}{t:TT} (h:PT X c t):Zij X [c] t:=λpins s σ H Q I hq=>wpAny_tests_one (h pins s σ H Q I hq)
noncomputable def Zb9 (L:List Nat) (σ σ':St):Prop:=σ'.length=σ.length/\∀k,k∉L->σ'[k]?=σ[k]?
noncomputable def Zf6 (g:TG) (L:List Nat):Prop:=∀v σ H (Q Q':St->Hp->Prop),(∀σ' H',Zb9 L σ σ'->Q σ' H'->Q' σ' H')->g v σ H Q->g v σ H Q'
noncomputable def Zk3 (g:TGs) (L:List Nat):Prop:=∀v σ H (Q Q':St->Hp->Prop),(∀σ' H',Zb9 L σ σ'->Q σ' H'->Q' σ' H')->g v σ H Q->g v σ H Q'
theorem Zb9.refl {L:List Nat}{σ:St}:Zb9 L σ σ:=⟨rfl,λ_ _=>rfl⟩
theorem Zb9.trans {L L':List Nat}{a b c:St} (x:Zb9 L a b) (y:Zb9 L' b c):Zb9 (L++L') a c :=
 ⟨y.1.trans x.1,λk hk=>(y.2 k λz=>hk (List.mem_append_right _ z)).trans (x.2 k λz=>hk (List.mem_append_left _ z))⟩
theorem Zs {i:Nat}:Zf6 (Ze4 i) [i]:=λv σ H Q Q' hq h=>hq _ _ ⟨by simp,λk hk=>by
 rw[List.getElem?_set_ne]
 intro z;subst z;exact hk (by simp)⟩ h
theorem ZdQ:Zk3 gNil []:=λv σ H Q Q' hq h=>⟨h.1,hq _ _ Zb9.refl h.2⟩
theorem Z9 {t:TG}{u:TGs}{L L':List Nat} (h1:Zf6 t L) (h2:Zk3 u L'):Zk3 (Zoi t u) (L++L'):=λv σ H Q Q' hq h=>by
 obtain⟨x,r,e,h⟩:=h
 exact⟨x,r,e,h1 _ _ _ _ _ (fun σ' H' k1 q=>h2 _ _ _ _ _ (fun σ2 H2 k2 q2=>hq _ _ (k1.trans k2) q2) q) h⟩
theorem ZdR {K:PySem.W.Frag}{n:Nat}{t:TGs}{L:List Nat} (h:Zk3 t L):Zf6 (gTup K n t) L:=λv σ H Q Q' hq q=>by
 obtain⟨a,xs,e1,e2,e3,q⟩:=q
 exact⟨a,xs,e1,e2,e3,h _ _ _ _ _ hq q⟩
noncomputable def Zow (wi:TI) (g:TG) (tt:TT) (te:TE) (js:List (Option Nat)):TE:=fun σ H Q=>wi σ H λJ H1=>∃W:Nat->Nat->List V->Hp->Prop,(∃m,W 0 m [] H1)/\∀i m acc H,W i m acc H ->
 (J.stop i H/\acc.length<=sizeLine/\∀p,H p=none->Q (.ref p) (upd H p (.lst acc))) \/
 (J.go i H/\acc.length<sizeLine/\∀x H',J.yld i H x H'->g x (ZW js σ) H' fun σ2 H2=>tt σ2 H2 λb H3=>if b=true then te σ2 H3 λv H4=>∃m',m'<m/\W (i+1) m' (acc++[v]) H4 else ∃m',m'<m/\W (i+1) m' acc H3)
theorem ZgI {C:Addr}{h:Heap}:Heap.SameBut C h h:=by
 first|exact Heap.SameBut.refl|exact⟨rfl,λ_ _=>rfl⟩
end
end L2
namespace L2
open PySem PySem.Spec PyProof.Rows PySem.W PySem.Builtin.ObjectAttr PySem.Builtin.Getset_descriptor
noncomputable def Zl0 (x C:Addr) (h:Heap):Prop:=∃o,h.get? x=some o/\o.cls=.ref C
structure ExK (K:Frag) (C:Addr):Prop where
 dk:hasDictIn K C=true
 ga:findIn K (.ref C) "__getattribute__"=some (some (.builtin "BaseException.__getattribute__"))
 gt:findIn K (.ref C) "__getattr__"=some none
 cl:findIn K (.ref C) "__class__"=some (some (.builtin "object.__class__"))
 gg:specialIn K (.builtin "object.__class__") "__get__"=some (some (.builtin "getset_descriptor.__get__"))
 tk:takesIn K (.builtin "object.__class__")=some true
 mo:mroIn K C (.type "object")=some true
 mb:mroIn K C (.type "BaseException")=some true
section
variable {K:Frag}{x C:Addr}
theorem Zl0.type {M:Model}{h:Heap} (I:Zl0 x C h):Looks M h (typeOf (.ref x)) (.ref C):=by
 obtain⟨o,e,c⟩:=I
 exact c▸(Looks.ld e).andThen .now
theorem Zrk {M:Model}{h:Heap} (X:K.In h) (Z:ExK K C):Looks M h (find (.ref x) (.ref C) "__class__") (.bind (.builtin "getset_descriptor.__get__") (.builtin "object.__class__")):=by
 have L3:=looks_takesIn (M:=M) X Z.tk
 exact(looks_findIn (M:=M) X Z.cl).andThen ((looks_specialIn X Z.gg).andThen
  ((show Looks M h (dataDescriptor? (some (.builtin "object.__class__")) (some (.builtin "getset_descriptor.__get__"))) (some (.builtin "getset_descriptor.__get__",.builtin "object.__class__"))from L3.andThen .now).andThen (Looks.tag .now)))
theorem Ztq {prog:Program}{w:World}{A:Around}{R:Result->Shared->Prop}{s:Shared}{tp:Value} (X:K.In s.heap) (I:Zl0 x C s.heap) (Z:ExK K C) (hR:R (.ok (.ret (.ref C))) s) :
  codeAny (model prog w) A (.call (.builtin "getset_descriptor.__get__") ⟨[.builtin "object.__class__",.ref x,tp],[]⟩) R s:=by
 obtain⟨hp,gn,dw,tk,os⟩:=s
 have L0:=I.type (M:=model prog w)
 have L1:=looks_mroIn (M:=model prog w) X Z.mo
 refine codeAny_call_builtin KF.slot_gs.plain KF.entry_gs (KF.slot_gs.check _ _ _ _ _ _ _ _ KF.type_class (KF.args_gs _ _ _) ?_)
 unfold Builtin.«getset_descriptor.__get__» descrGet;rw[dga_obj];refine wpAny_bind (wpAny_pure ?_)
 unfold descrGetter descrCheckInstance descrNameAndClass isInstance;simp only[KF.owner_class]
 repeat lk
 refine⟨Code.quiet_builtin _ (by decide +kernel),codeAny_builtin KF.entry_class ?_⟩;unfold Builtin.«object.__class__» shownTypeOf
 repeat lk
 exact hR
theorem Zpa {prog:Program}{w:World}{A:Around}{E:Value->Shared->Prop}{s:Shared}{tk:Tok}{Q:Fin->Shared->Prop} (X:K.In s.heap) (I:Zl0 x C s.heap) (Z:ExK K C) (hQ:Q (.done (.ret (.ref C))) s) :
  wpAny (model prog w) A (Builtin.«object.__getattribute__» ⟨[.ref x,.str "__class__" tk],[]⟩) Q E s:=by
 obtain⟨hp,gn,dw,t,os⟩:=s
 have L0:=I.type (M:=model prog w)
 have L2:=Zrk (M:=model prog w) (x:=x) X Z
 unfold Builtin.«object.__getattribute__»
 refine wpAny_bind (wpAny_pure (wpAny_bind (wpAny_pure (wpAny_bind (L0.at (wpAny_bind (L2.at ?_)))))))
 show wpAny _ _ (holding _ (call _ _) >>= ret) _ _ _
 exact wpAny_bind (wpAny_holding (wpAny_call (Ztq (s:=⟨hp,gn,dw,t,os⟩) X I Z (wpAny_pure hQ))))
theorem Zpb {M:Model}{A:Around}{E:Value->Shared->Prop}{s:Shared}{nameV:Value}{Q:Unit->Shared->Prop} (X:K.In s.heap) (I:Zl0 x C s.heap) (Z:ExK K C) (hq:Q () s) :
  wpAny M A (checkBuiltinCall "BaseException.__getattribute__" ⟨[.ref x,nameV],[]⟩) Q E s:=by
 obtain⟨hp,gn,dw,t,os⟩:=s
 have hk:builtinKind "BaseException.__getattribute__"=some .slot:=by decide +kernel
 have hsplit:splitId "BaseException.__getattribute__"=some ("BaseException","__getattribute__"):=by decide +kernel
 have L0:=I.type (M:=M)
 have L1:=looks_mroIn (M:=M) X Z.mb
 have ha:=F.args_bexc_ga (.ref x) nameV
 simp only[checkBuiltinCall,hk,hsplit]
 refine wpAny_bind ?_
 unfold isInstance
 refine wpAny_bind (L0.at (L1.at ?_))
 repeat (first|assumption|wp_step)
theorem Zpc {prog:Program}{w:World}{A:Around}{E:Value->Shared->Prop}{s:Shared}{Q:Option Value->Shared->Prop} (X:K.In s.heap) (I:Zl0 x C s.heap) (Z:ExK K C) (hQ:Q (some (.ref C)) {s with toks:=s.toks+1}) :
  wpAny (model prog w) A (getAttr? (.ref x) "__class__") Q E s:=by
 obtain⟨hp,gn,dw,tk,os⟩:=s
 have L0:=I.type (M:=model prog w)
 have L1:=looks_findIn (M:=model prog w) X Z.ga
 have L3:=looks_findIn (M:=model prog w) X Z.gt
 have hb:=(F.attrBase_ValueError.ga).bind (.ref x)
 unfold getAttr? getAttrBy? getAttrBy;refine wpAny_bind (wpAny_mkText (wpAny_bind (wpAny_attempt (wpAny_holding (wpAny_bind (L0.at (wpAny_bind (L1.at ?_))))))))
 show wpAny _ _ (getAttrByItsOwn _ _ _ _ _ _) _ _ _
 unfold getAttrByItsOwn hookBefore
 refine wpAny_bind (L3.at ?_)
 refine wpAny_bind (wpAny_attempt (wpAny_holding ?_))
 unfold callGetattribute
 show wpAny _ _ (boundAndCalled _ _ _) _ _ _
 unfold boundAndCalled
 rw[hb]
 refine wpAny_bind (wpAny_pure ?_)
 refine wpAny_call ?_
 refine codeAny_call_builtin F.attrBase_ValueError.ga.plain F.entry_bexc_ga (Zpb (s:=⟨hp,gn,dw,tk+1,os⟩) X I Z (Zpa (s:=⟨hp,gn,dw,tk+1,os⟩) X I Z ?_))
 exact handed_on rfl (wpAny_pure hQ)
theorem Ztr (Z:ExK K C):KitX K (.ref x) (.ref C) (Zl0 x C) where
 ty:=λ_ _ _ I=>I.type
 it:=λ_ _ X _=>by
  obtain⟨cdD,hcD,_⟩:=any_some Z.dk
  unfold clsIn at hcD
  split at hcD
  ·rename_i c' d' cd' sl' ho
   intro A' Q' E' s' k q
   unfold isType loadHead;exact wpAny_bind (wpAny_loadPart (k _ _ (X _ _ ho)) (wpAny_pure q))
  ·cases hcD
 ne:=λh tp dd its n sl X htp=>by
  obtain⟨cdD,hcD,_⟩:=any_some Z.dk
  refine Bool.eq_false_iff.mpr λq=>?_
  have e:C=tp:=Value.ref.inj (beq_iff_eq.mp q);subst e
  unfold clsIn at hcD
  split at hcD
  ·rename_i c' d' cd' sl' ho
   have z:=(X _ _ ho).symm.trans htp;cases z
  ·cases hcD
 ca:=λX I k=>Zpc X I Z k
end
noncomputable def ExcO (e C:Addr):HO:=.ext (Zl0 e C)
noncomputable def tyIs (K:Frag) (H:Hp) (x:V) (c:Value) (b:Bool):Prop :=
 (∃t,TyOf K H x t/\kitOne K t c=some b)\/∃e C,x=.ref e/\H e=some (ExcO e C)/\ExK K C/\kitOne K (.ref C) c=some b
noncomputable def cOf:V->Option Value
 |.ref a=>some (.ref a)
 |.ty n=>some (.type n)
 |_=>none
section
variable {X:Cx}
noncomputable def rIsi (K:Frag):List V->Hp->VK->Prop:=λxs H Q=>∃x v c b,xs=[x,v]/\cOf v=some c/\tyIs K H x c b/\Q (.bl b) H
theorem Zrl:Zcw X (.builtin "isinstance") (rIsi X.K):=by
 intro pins s σ H xs us Q I r h
 obtain⟨x,v,c,b,rfl,hc,ht,q⟩:=h
 obtain⟨u,u2,rfl,ru,ru2⟩:=r.two
 have e2:u2=c:=by
  cases v with
  |ref a=>have:=(show u2=Value.ref a from ru2);cases hc;exact this
  |ty n=>have:=(show u2=Value.type n from ru2);cases hc;exact this
  |_=>cases hc
 subst e2
 have fin:∀tk,EP X pins σ Q (.bool b) {s with toks:=tk}:=λtk=>⟨.bl b,H,I.tok tk,rfl,q⟩
 rcases ht with⟨t,ty,e⟩|⟨e,C,rfl,hH,Z,e1⟩
 ·exact Zo5 I ru ty e fin
 ·cases(show u=Value.ref e from ru)
  obtain⟨p,_,_⟩:=(show Zau X.prog X.w H s.heap e (ExcO e C)from I.hok e _ hH)
  exact kia_one (Ztr Z) I.kIn p e1 (λz=>nomatch z) fin
end
end L2
namespace L2
open PySem PySem.Spec PyProof.Rows
theorem Zau.has {P:Program}{w:World}{H:Hp}{h:Heap}{a:Addr}{o:HO} (x:Zau P w H h a o):∃u,h.get? a=some u:=by
 induction o with
 |lst xs=>obtain⟨_,_,_,_,e⟩:=x;exact⟨_,e⟩
 |tup xs=>obtain⟨_,_,_,o,e,_⟩:=x;exact⟨_,e⟩
 |dK kvs=>obtain⟨_,_,_,_,o,_,_,e,_⟩:=x;exact⟨_,e⟩
 |dT kvs=>obtain⟨_,_,_,_,o,_,_,e,_⟩:=x;exact⟨_,e⟩
 |set S n=>obtain⟨o,_,_,_,e,_⟩:=x;exact⟨_,e⟩
 |ins C dx fs=>obtain⟨_,_,_,e,_⟩:=x;exact⟨_,e⟩
 |own y=>exact x
 |xd fs=>obtain⟨_,⟨_,_,_,e,_⟩,_⟩:=x;exact⟨_,e⟩
 |rng lo hi=>obtain⟨_,_,_,e⟩:=x;exact⟨_,e⟩
 |frz ob u _=>obtain⟨e,_⟩:=x;exact⟨_,e⟩
 |tbl ps=>obtain⟨_,e,_⟩:=x;exact⟨_,e⟩
 |met f y=>exact⟨_,x⟩
 |ext φ=>obtain⟨_,e,_⟩:=x;exact e
structure Fly (P:Program) (w:World) (outer:List Env) (H:Hp) (s:Shared) (H':Hp) (B:Heap) (e:Addr) (C a0:Value) (s':Shared):Prop where
 os:s'.os=s.os
 bare:AllBare s'.gens
 fly:Heap.FlyingW B outer e C a0 s'.heap
 hok:HOk P w H' B
 keep:∀b o,s.heap.get? b=some o->H b=none->b∉frs outer->B.get? b=some o
 slot:∀b o,s.heap.get? b=some o->b∈frs outer->(∀vs,o.data≠.fields vs)->∃sl,s'.heap.get? b=some {o with slots:=sl}
 free:∀b o,s.heap.get? b=some o->H b=none->H' b=none
 there:∀b o,s.heap.get? b=some o->b∉frs outer->∃o',B.get? b=some o'
 tups:∀b xs,H b=some (.tup xs)->H' b=some (.tup xs)
 frzs:∀b o u,H b=some (.frz o u)->H' b=some (.frz o u)
 tbls:∀b ps,H b=some (.tbl ps)->∃more,H' b=some (.tbl (ps++more))
noncomputable def CXE (P:Program) (w:World):CXT:=λouter H s E ev s'=>∃e C a0 H' B,ev=.ref e/\Fly P w outer H s H' B e C a0 s'/\E C none H'
theorem Zv {P:Program}{w:World}{X:Cx}:Passes (CXE P w) X E0:=λ_ _ _ _ _ _ _ ⟨_,_,_,_,_,_,_,z⟩=>z.elim
section
variable {P:Program}{w:World}{K:PySem.W.Frag}{mg:Str->Option Value}{base:Heap}{N:List Str}{qual:Str}{scope:Scope}{f:Addr}{cd:Value}{A:Around}{outer:List Env}{s:Shared}{H:Hp}{E:XK}
theorem Zk4 {pins:List (Addr×Obj)}{σ:St}{H1:Hp}{s1:Shared}{h':Heap}{e:Addr}{C:Value}{vs:List Value} (I:Inv (Zgd (CXE P w) P w K mg base N qual scope f cd A outer s H E) pins σ H1 s1)
  (hx:Heap.MadeExcOf s1.heap h' e C vs) (hE:E C none H1):(Zgd (CXE P w) P w K mg base N qual scope f cd A outer s H E).xe (.ref e) {s1 with heap:=h'}:=by
 let env:=envOfC qual scope s.heap.objs.size f cd
 let B:=PySem.W.hideAll s1.heap (frs (env::outer))
 have hin:∀en∈(env::outer),∀b,en.frame=some b->b∈frs (env::outer):=λen he b hb=>List.mem_filterMap.mpr ⟨en,he,hb⟩
 have st:s1.heap.FunFrames base (env::outer):=I.stack
 have loc:∀b,b∈frs (env::outer)->b=s.heap.objs.size\/b∈frs outer:=λb hb=>List.mem_cons.mp (I.Ze0 b hb)
 have old:∀b o,s.heap.get? b=some o->b∉frs outer->b∉frs (env::outer):=λb o q nb hb=>by
  rcases loc b hb with z|z
  ·exact absurd (Heap.lt_size q) (by rw[z];exact Nat.lt_irrefl _)
  ·exact nb z
 have un:Un (frs outer) [] H H1 s.heap s1.heap:=I.base
 have hokB:HOk P w H1 B:=λa o q=>by
  have nf:∀b o,H1 b=some o->b∉frs (env::outer):=λb o z hb=>by
   have:=I.ZgC b hb
   rw[this]at z;cases z
  refine(I.hok a o q).Zih (λb u hb z=>?_) (λ_ z=>z) (λ_ _ z=>z) λ_ _ _ z=>z
  rcases hb with hb|hb
  ·rw[hb]at z⊢;exact PySem.W.hideAll_get _ z (nf a o q)
  ·exact PySem.W.hideAll_get _ z (nf b _ hb)
 refine wpAny_leaves_madeW (base:=B) (h:=s1.heap) (env:=env) (outer:=outer) (L:=s.heap.objs.size) I.ok.frames rfl (λb o q=>PySem.W.of_hideAll _ q) (PySem.W.funFrames_hide st hin) hx λh2 t x1 x2 x3 x4=>?_
 refine⟨e,C,.ref t,H1,B,rfl,⟨I.os,I.bare,x1,hokB,λb o q n nb=>?_,λb o q hb hd=>?_,λb o q n=>un.free b o q n (by simp),λb o q nb=>?_,un.tups,un.frzs,un.tbls⟩,hE⟩
 ·exact PySem.W.hideAll_get _ (un.keep b o q n nb (by simp)) (old b o q nb)
 ·obtain⟨sl,z⟩:=un.slot b o q (I.ok.frf b hb) hb (by simp)
  obtain⟨sl2,z2⟩:=x4 b _ (hx.keeps _ _ z) hd
  exact⟨sl2,z2⟩
 ·obtain⟨o',z⟩:=un.there b o q (by simp)
  exact⟨o',PySem.W.hideAll_get _ z (old b o q nb)⟩
theorem Zaw:Passes (CXE P w) (Zgd (CXE P w) P w K mg base N qual scope f cd A outer s H E) E:=by
 intro pins σ H1 s1 ev s2 I h
 obtain⟨e,C,a0,H',B,rfl,F,hE⟩:=h
 let env:=envOfC qual scope s.heap.objs.size f cd
 have un:Un (frs outer) [] H H1 s.heap s1.heap:=I.base
 have loc:∀b,b∈frs (env::outer)->b=s.heap.objs.size\/b∈frs outer:=λb hb=>List.mem_cons.mp (I.Ze0 b hb)
 have old:∀b o,s.heap.get? b=some o->b∉frs outer->b∉frs (env::outer):=λb o q nb hb=>by
  rcases loc b hb with z|z
  ·exact absurd (Heap.lt_size q) (by rw[z];exact Nat.lt_irrefl _)
  ·exact nb z
 refine wpAny_leaves_onW (env:=env) (outer:=outer) (L:=s.heap.objs.size) I.ok.frames rfl F.fly λh2 x1 x2=>?_
 refine⟨e,C,a0,H',B,rfl,⟨F.os.trans I.os,F.bare,x1,F.hok,λb o q n nb=>F.keep b o (un.keep b o q n nb (by simp)) (un.free b o q n (by simp)) (old b o q nb),λb o q hb hd=>?_,λb o q n=>?_,λb o q nb=>?_,λb xs z=>F.tups b xs (un.tups b xs z),λb o u z=>F.frzs b o u (un.frzs b o u z),λb ps z=>?_⟩,hE⟩
 ·obtain⟨sl,z⟩:=un.slot b o q (I.ok.frf b hb) hb (by simp)
  obtain⟨en,he,hf⟩:=List.mem_filterMap.mp hb
  obtain⟨sl2,z2⟩:=F.slot b _ z (List.mem_filterMap.mpr ⟨en,.tail _ he,hf⟩) hd
  obtain⟨sl3,z3⟩:=x2 b _ z2 hd
  exact⟨sl3,z3⟩
 ·by_cases hb:b∈frs outer
  ·have h1:H1 b=none:=un.free b o q n (by simp)
   obtain⟨sl,z⟩:=un.slot b o q n hb (by simp)
   exact F.free b _ z h1
  ·exact F.free b o (un.keep b o q n hb (by simp)) (un.free b o q n (by simp))
 ·obtain⟨o',z⟩:=un.there b o q (by simp)
  exact F.there b o' z (old b o q nb)
 ·obtain⟨m1,z1⟩:=un.tbls b ps z
  obtain⟨m2,z2⟩:=F.tbls b _ z1
  exact⟨m1++m2,by rw[<-Array.append_assoc];exact z2⟩
end
abbrev bmV:List Value:=[.type "ValueError",.type "Exception",.type "BaseException",.type "object"]
abbrev newV:String:="ValueError.__new__"
theorem own_mk {K:PySem.W.Frag}{h:Heap}{mg:Str->Option Value}{x:Str}{C:Addr} (X:K.In h) (hm:mg x=some (.ref C)) (q:PySem.W.excIn K C bmV newV=true):OwnCls x C bmV newV mg h:=by
 refine⟨hm,?_⟩
 unfold PySem.W.excIn at q;split at q
 ·rename_i dd cd sl ho
  split at q
  ·rename_i C' bm k0 k1 k2 k3 n k5 hmm hs
   simp only[Bool.and_eq_true,beq_iff_eq,Bool.not_eq_true']at q;obtain⟨⟨⟨⟨⟨rfl,rfl⟩,hdel⟩,ht⟩,hok⟩,hni⟩:=q
   obtain⟨nm,bs,mro,ns,qn,hd,sn,sub,ab,col,del⟩:=cd;dsimp only at hmm hdel hok hni;subst hmm hdel
   have hsl:sl=#[k0,k1,k2,k3,some (.builtin newV),k5]:=by obtain⟨l⟩:=sl;simp only at hs;rw[hs]
   subst hsl;exact⟨bm,ns,nm,qn,bs,hd,sn,sub,ab,col,dd,k0,k1,k2,k3,k5,_,X _ _ ho,.of_isNs (PySem.W.isNs_of_in X hok),PySem.W.nsMap_none_of_in X hok hni,PySem.W.tail_of_in X ht⟩
  ·cases q
 ·cases q
section
variable {X:Cx}
noncomputable def Znm (C:Addr) (E:XK) (t:TA):TS:=λ_ σ H=>t σ H λvs H1=>vs.length<=sizeLine/\E (.ref C) none H1
theorem ZiH {x:Str}{C:Addr}{np cpos pos:Pos}{e0:Expr}{es:List Expr}{t:TA}{E:XK} (hc:X.calm=true) (hg:Gl X x) (hm:X.mg x=some (.ref C)) (q:PySem.W.excIn X.K C bmV newV=true) (ha:PA X (e0::es) t)
  (hx:∀pins σ H s h' e vs,Inv X pins σ H s->Heap.MadeExcOf s.heap h' e (.ref C) vs->E (.ref C) none H->X.xe (.ref e) {s with heap:=h'})
  (he:starEach (e0::es) X.env=(false,eval e0 X.env)::starEach es X.env:=by rfl) (hpl:(backTo cpos (starEach es X.env)).any (·.1)=false:=by rfl) (hd:(x==("__debug__":Str))=false:=by decide) :
  PS X (.Raise (some (.Call (.Name x np) (e0::es) [] cpos)) none pos) (Znm C E t):=by
 intro pins s σ H D I h
 obtain⟨tl,Nn,nm,qn,bs,hdct,sn,sub,ab,col,dd,k0,k1,k2,k3,k5,mN,hC,hN,hni,T⟩:=(own_mk (x:=x) I.mod.kin hm q).obj
 refine wpAny_Raise_call_subT (C:=C) (nm:=nm) (q:=qn) (N:=Nn) (bs:=bs) (bm:=tl) (hdct:=hdct) (sn:=sn) (sub:=sub) (ab:=ab) (col:=col) (dd:=dd) (k0:=k0) (k1:=k1) (k2:=k2) (k3:=k3) (k5:=k5)
  PySem.F.excBase_ValueError (mN:=mN) (T.hasType PySem.F.excBase_ValueError.hasBase) (I.ok.hd hc) (by rw[he];show(false||(backTo cpos (starEach es X.env)).any (·.1))=false;rw[hpl];rfl) hni (ZkO I hg hm ⟨rfl,?_⟩ hd)
 have h2:=ha cpos pins s σ H _ I h
 rw[he]at h2⊢
 exact Calls.evalArgs_plain (thn h2 λus s2 ⟨vs,H2,I2,r,z,q2⟩=>⟨rfl,by rw[<-r.length];exact z,I2.bk _ _ hC,hN.keeps I2.bk,T.keeps I2.bk,λh' e hm'=>hx pins σ H2 s2 h' e us I2 hm' q2⟩)
end
section
variable {P:Program}{w:World}{K:PySem.W.Frag}{mg:Str->Option Value}{base:Heap}
theorem Fun.okX {x qual:Str}{st:Stmt}{f:Addr}{fd:FuncData}{N ps:List Str}{k:Nat}{sp:Sp} (F:Fun K x qual st f fd) (S:FnScope N ps (defScope st)) (len:∀vs H Q E,sp vs H Q E->vs.length=ps.length)
  (hbody:∀(cdv:Value) (A:Around) (outer:List Env) (s:Shared) (H:Hp) (vs:List V) (Q:VK) (E:XK),Room k (A.deeper (envOfC qual (defScope st) s.heap.objs.size f cdv))->sp vs H Q E ->
   ∃t,PSs (Zgd (CXE P w) P w K mg base N qual (defScope st) f cdv A outer s H E) (defBody st) t/\t {nx:=λ_ H'=>Q .non H',rt:=Q} (start N vs) H):FnOk P w K mg base (CXE P w) (k+1) f fd ps sp:=by
 obtain⟨oc,od,kV,doc,pm,an,cdv,ct,osl,rfl,lk,hcd⟩:=F.ex
 exact Zre lk hcd S len λA outer s H vs Q E hr hsp=>hbody cdv A outer s H vs Q E hr hsp
end
end L2
namespace L2
open PySem PySem.Spec PyProof.Rows PySem.W
theorem Zox:∀{ns:List Int}{us:List Value},Vals (ns.map V.int) us->∃xs:Array (Int×Tok),us.toArray=intItems xs/\xs.toList.map (·.1)=ns
 |[],_,.nil=>⟨#[],by simp[intItems],rfl⟩
 |n::ns,_,.cons (b:=u) r t=>by
  obtain⟨tk,rfl⟩:=(show ∃t,u=Value.int n t from r)
  obtain⟨xs,e1,e2⟩:=Zox t
  refine⟨#[(n,tk)]++xs,?_,by simp[e2]⟩
  have:∀(l:List Value),(Value.int n tk::l).toArray=#[Value.int n tk]++l.toArray:=λl=>by simp
  rw[this,e1]
  simp[intItems]
section
variable {X:Cx}
theorem Zax:OpR X (binaryOp .Mult) (rI IntMulOk λi j=>.int (i*j)):=opI λ_ _ _ _ _ _ _ hc q=>mul_int q hc
noncomputable def PJ (X:Cx) (es:List (Sem Value)) (t:St->Hp->(Hp->Prop)->Prop):Prop :=
 ∀(out:Str) (pins:List (Addr×Obj)) (s:Shared) (σ:St) (H:Hp) (Q:Hp->Prop),out.length+2000*es.length<=100000->Inv X pins σ H s->t σ H Q ->
  wpAny (model X.prog X.w) X.A (joinParts out es) (λu s'=>∃y tk H',u=.str y tk/\Inv X pins σ H' s'/\Q H') X.xe s
theorem Znn:PJ X [] (λ_ H Q=>Q H):=λout pins s σ H Q hl I h =>
 joinParts_nil ⟨out,_,H,rfl,I.tok _,h⟩ (by simp at hl;exact Nat.le_trans hl (by decide))
theorem Zee {x:Str}{j:Nat}{pos:Pos}{es:List (Sem Value)}{t:St->Hp->(Hp->Prop)->Prop} (hx:x.length<=2000) (h:PJ X es t):PJ X (eval (.Constant (.str x) j pos) X.env::es) t:=by
 intro out pins s σ H Q hl I hq
 have hl':(out++x).length+2000*es.length<=100000:=by rw[PySem.strLen_append];simp at hl;omega
 refine joinParts_cons (Calls.Constant_str ⟨Nat.le_trans (Nat.le_trans (Nat.le_add_right _ _) hl') (by decide),?_⟩)
 exact h _ pins _ σ H Q hl' (I.tok _) hq
theorem Zpd {i:Int} (h0:0<=i) (h1:i<10 ^ 18):i.natAbs.log2<1920:=by
 by_cases hz:i.natAbs=0
 ·rw[hz];decide
 ·have h3:i.natAbs<2 ^ 60:=by
   have:(2:Nat) ^ 60=1152921504606846976:=by decide
   have h2:(10:Int) ^ 18=1000000000000000000:=by decide
   omega
  exact Nat.lt_of_lt_of_le ((Nat.log2_lt hz).mpr h3) (by decide)
theorem ZiI {e:Expr}{pos:Pos}{es:List (Sem Value)}{te:TE}{t:St->Hp->(Hp->Prop)->Prop} (he:PE X e te) (h:PJ X es t):PJ X (eval (.FormattedValue e (-1) none pos) X.env::es) (fun σ H Q=>te σ H λx H1=>∃i:Int,x=.int i/\(0<=i/\i<10 ^ 18)/\t σ H1 Q):=by
 intro out pins s σ H Q hl I hq
 refine joinParts_cons (FormattedValue_plain (thn (he pins s σ H _ I hq) λu s1 ⟨x,H1,I1,r1,i,ex,⟨h0,h1⟩,q⟩=>?_))
 subst ex
 obtain⟨tk,rfl⟩:=(show ∃t,u=Value.int i t from r1)
 refine wpAny_formatField_int (Zpd h0 h1) ?_
 have hx:(Str.ofString (toString i)).length<=18:=toString_length_le h0 (by decide) h1
 have hl':(out++Str.ofString (toString i)).length+2000*es.length<=100000:=by rw[PySem.strLen_append];simp at hl;omega
 refine⟨Nat.le_trans (Nat.le_trans (Nat.le_add_right _ _) hl') (by decide),?_⟩
 exact h _ pins _ σ H1 Q hl' (I1.tok _) q
theorem Zl1 (env:Env):∀l:List Expr,(evalEach l env).length=l.length
 |[]=>rfl
 |e::r=>by
  have:evalEach (e::r) env=eval e env::evalEach r env:=rfl
  rw[this,List.length_cons,List.length_cons,Zl1 env r]
theorem Zhi {e1 e2:Expr}{rest:List Expr}{pos:Pos}{t:St->Hp->(Hp->Prop)->Prop} (h:PJ X (eval e1 X.env::eval e2 X.env::evalEach rest X.env) t) (hn:rest.length<=20:=by decide) :
  PE X (.JoinedStr (e1::e2::rest) pos) (fun σ H Q=>t σ H λH1=>∀y,Q (.str y) H1):=by
 intro pins s σ H Q I hq
 have hle:=Zl1 X.env rest
 refine JoinedStr_many (thn (h Str.empty pins s σ H _ (by simp only[List.length_cons,hle];show 0+_<=_;omega) I hq) λu s' ⟨y,tk,H',e,I',q⟩=>?_)
 subst e
 exact⟨.str y,H',I',⟨tk,rfl⟩,q y⟩
end
noncomputable def clsAt (mg:Str->Option Value) (x:Str):Addr:=match mg x with
 |some (.ref C)=>C
 |_=>0
noncomputable def tokAt (mg:Str->Option Value) (x:Str):Tok:=match mg x with
 |some (.int _ t)=>t
 |_=>default
noncomputable def Callee (P:Program) (w:World) (K:Frag) (mg:Str->Option Value) (base:Heap) (x:Str) (k:Nat) (ps:List Str) (sp:Sp):Prop :=
 ∃f fd,mg x=some (.ref f)/\keepIn K (.ref f)=true/\Binds K fd ps []/\FnOk P w K mg base (CXE P w) k f fd ps sp
section
variable {X:Cx}
theorem Zbw {st:Stmt}{t:TS} (h:PS X.nox st t):PS X st t:=λpins s σ H D I hw =>
 wpAny_mono (h pins s σ H D (I.Zhd _) hw) (λ_ _ q=>q.ZcO) λ_ _ z=>False.elim z
theorem Zg {x:Str}{k:Nat}{ps:List Str}{sp:Sp}{E:XK}{e:Expr}{es:List Expr}{t:TA}{p pos:Pos} (C:Callee X.prog X.w X.K X.mg X.base x k ps sp) (hr:Room k X.A) (hg:Gl X x) (hx:Passes (CXE X.prog X.w) X E)
  (ha:PA X (e::es) t) (hdb:(x==("__debug__":Str))=false:=by decide) (he:starEach (e::es) X.env=(false,eval e X.env)::starEach es X.env:=by rfl) (hpl:(backTo pos (starEach es X.env)).any (·.1)=false:=by rfl) :
  PE X (.Call (.Name x p) (e::es) [] pos) (Zos sp [] E t):=by
 obtain⟨f,fd,hm,hk,hb,F⟩:=C
 exact Zto F hr hg hm hk hb .nil hx ha hdb he hpl
theorem Zk5 {P:Program}{w:World}{K:Frag}{mg:Str->Option Value}{base:Heap}{N:List Str}{qual:Str}{scope:Scope}{f:Addr}{cd:Value}{A:Around}{outer:List Env}{s0:Shared}{H0:Hp}{E:XK}{C:Addr} :
  ∀pins σ H s h' e vs,Inv (Zgd (CXE P w) P w K mg base N qual scope f cd A outer s0 H0 E) pins σ H s->Heap.MadeExcOf s.heap h' e (.ref C) vs->E (.ref C) none H->(Zgd (CXE P w) P w K mg base N qual scope f cd A outer s0 H0 E).xe (.ref e) {s with heap:=h'} :=
 λ_ _ _ _ _ _ _ I hx hE=>Zk4 I hx hE
end
theorem ZiJ:bootBuiltins "max"=some (.builtin "max"):=by decide +kernel
theorem bt_min:bootBuiltins "min"=some (.builtin "min"):=by decide +kernel
theorem Zdu:bootBuiltins "isinstance"=some (.builtin "isinstance"):=by decide +kernel
theorem Zoy:bootBuiltins "list"=some (.type "list"):=by decide +kernel
theorem Zb6:bootBuiltins "tuple"=some (.type "tuple"):=by decide +kernel
section
variable {X:Cx}{pins:List (Addr×Obj)}{σ:St}{H:Hp}{s:Shared}{h':Heap}
theorem Inv.ZgJ {t':Nat}{fp:List Addr} (I:Inv X pins σ H s) (k:∀b o,b∉fp->s.heap.get? b=some o->h'.get? b=some o) (hf:∀b∈fp,FpOk X pins H b):Inv X pins σ H {s with heap:=h',toks:=t'}:=by
 have nit:∀b u,H b=some u->b∉fp:=λb u e z=>by rw[(hf b z).1]at e;cases e
 refine I.step (g':=s.gens) (d':=s.drawn) (ch:=fp) (λb hb=>?_) (λb o _ _ hc e _=>k b o hc e) (λb o _ _ hc e _=>⟨o.slots,k b o hc e⟩) (λ_ _ _ _ n=>n)
  (λb o hc e=>⟨o,k b o hc e⟩) (λ_ _ e=>e) (λ_ _ _ e=>e) (λb ps e=>⟨#[],by rw[e];simp⟩) (λm hm=>?_) (λb u e=>?_) I.bare
 ·obtain⟨_,f1,_,f3,f4,f5⟩:=hf b hb
  exact⟨f3,f1,f4,f5⟩
 ·obtain⟨o,es,ep,ho,r⟩:=hm
  exact⟨o,es,ep,k _ o (λz=>(hf _ z).2.1 rfl) ho,r⟩
 ·refine(I.hok b u e).Zih (λc v hc q=>k c v ?_ q) (λ_ q=>q) (λ_ _ q=>q) λ_ _ _ q=>q
  rcases hc with z|z
  ·rw[z];exact nit b u e
  ·exact nit c _ z
noncomputable def Itz (K : Frag) (a b : Addr) : It :=
  ⟨fun i H => ∃ xs ys x y, SqL K H a xs ∧ SqL K H b ys ∧ xs[i]? = some x ∧ ys[i]? = some y,
   fun i H v H' => ∃ p x y, H p = none ∧ v = .ref p ∧ H' = upd H p (.tup [x, y]) ∧ (∀ xs, SqL K H a xs → xs[i]? = some x) ∧ ∀ ys, SqL K H b ys → ys[i]? = some y,
   fun i H => ∃ xs ys, SqL K H a xs ∧ SqL K H b ys ∧ (xs.length ≤ i ∨ ys.length ≤ i)⟩
theorem Zrm {P:Program}{w:World}{K:Frag}{elts:List Expr} {x1}{pos:Pos}{a b z TI TO i1 i2:Addr} (D:ZipApart z TI TO i1 i2 a b) :
  Turn P w K (.Tuple elts x1 pos) (Itz K a b) [z,TI,TO,i1,i2] z (λi h=>IsZip h z TI TO .none/\IsPair h TI (.ref i1) (.ref i2)/\(∃u v,IsPair h TO u v)/\h.IsListIter i1 a i/\h.IsListIter i2 b i) where
 mem:=by simp
 obj:=λi h st c hc=>by
  obtain⟨q1,q2,⟨u,v,q3⟩,⟨o4,q4,_,d4⟩,⟨o5,q5,_,d5⟩⟩:=st
  simp at hc
  rcases hc with rfl|rfl|rfl|rfl|rfl
  ·exact⟨_,q1,λv z=>by cases z⟩
  ·exact⟨_,q2,λv z=>by cases z⟩
  ·exact⟨_,q3,λv z=>by cases z⟩
  ·exact⟨_,q4,λv z=>by rw[d4]at z;cases z⟩
  ·exact⟨_,q5,λv z=>by rw[d5]at z;cases z⟩
 keep:=λi h h' st k=>by
  obtain⟨q1,q2,⟨u,v,q3⟩,q4,q5⟩:=st
  exact⟨k z (by simp) _ q1,k TI (by simp) _ q2,⟨u,v,k TO (by simp) _ q3⟩,q4.at λo e=>k i1 (by simp) o e,q5.at λo e=>k i2 (by simp) o e⟩
 item:=by
  intro X hP hw hK hc i pins s σ H E I hf st hg
  subst hP hw hK
  obtain⟨xs,ys,x,y,qa,qb,hx,hy⟩:=hg
  obtain⟨q1,q2,⟨u0,v0,q3⟩,q4,q5⟩:=st
  obtain⟨is1,r1,p1,_⟩:=I.list qa
  obtain⟨is2,r2,p2,_⟩:=I.list qb
  obtain⟨u,hu,ru⟩:=r1.get hx
  obtain⟨v,hv,rv⟩:=r2.get hy
  refine wpAny_pyNext_zip_item D q1 q2 q3 q4 q5 p1.isList p2.isList (x:=u) (y:=v) (by simpa using hu) (by simpa using hv) λh' a1 a2 a3 a4 a5 a6 a7=>?_
  refine⟨_,rfl,?_⟩
  refine wpAny_letOwnedTupleGo_zip (s:={s with heap:=h'}) a1 λh2 b1 b2=>?_
  have hfr:H s.heap.objs.size=none:=I.hok.fresh (Nat.le_refl _)
  have I1:Inv X pins σ (upd H s.heap.objs.size (.tup [x,y])) {s with heap:=s.heap.push {cls:=.type "tuple",data:=.seq #[u,v]}}:=by
   refine I.laid (t':=s.toks) (λb u e=>Heap.get?_push_of_some _ e) (Nat.le_refl _) ?_
   exact⟨by show 2<=sizeLine;decide,[u,v],.cons ru (.cons rv .nil),⟨_,Heap.get?_push_size _ rfl,rfl,_,rfl⟩⟩
  have nz:∀c∈[z,TI,TO,i1,i2],c≠s.heap.objs.size:=λc hc e=>by
   have:∃o,s.heap.get? c=some o:=by
    simp at hc
    rcases hc with rfl|rfl|rfl|rfl|rfl
    ·exact⟨_,q1⟩
    ·exact⟨_,q2⟩
    ·exact⟨_,q3⟩
    ·obtain⟨o,q,_⟩:=q4;exact⟨o,q⟩
    ·obtain⟨o,q,_⟩:=q5;exact⟨o,q⟩
   obtain⟨o,q⟩:=this
   exact absurd (Heap.lt_size q) (by rw[e];exact Nat.lt_irrefl _)
  have hf1:∀c∈[z,TI,TO,i1,i2],FpOk X pins (upd H s.heap.objs.size (.tup [x,y])) c:=λc hc=>by
   obtain⟨f0,f1,f2,f3,f4,f5⟩:=hf c hc
   exact⟨by rw[Zj (nz c hc)];exact f0,f1,f2,f3,f4,f5⟩
  have I2:Inv X pins σ (upd H s.heap.objs.size (.tup [x,y])) {s with heap:=h2}:=by
   refine Inv.ZgJ (s:={s with heap:=s.heap.push {cls:=.type "tuple",data:=.seq #[u,v]}}) (t':=s.toks) (fp:=[z,TI,TO,i1,i2]) I1 (λc o hc e=>?_) hf1
   simp only[List.mem_cons,List.not_mem_nil,or_false,not_or]at hc
   obtain⟨c1,c2,c3,c4,c5⟩:=hc
   refine b2.extBut _ _ c1 ?_
   by_cases hs:c=s.heap.objs.size
   ·subst hs
    have e':(s.heap.push {cls:=.type "tuple",data:=.seq #[u,v]}).get? s.heap.objs.size=some _:=Heap.get?_push_size _ rfl
    have ee:o={cls:=.type "tuple",data:=.seq #[u,v]}:=by
     have:=e.symm.trans e'
     exact Option.some.inj this
    rw[ee];exact a5
   ·have:s.heap.get? c=some o:=by
     rcases Heap.get?_push_cases e with⟨q,_⟩|q
     ·exact absurd q hs
     ·exact q
    exact a7 c o c1 c3 c4 c5 this
  refine⟨.ref s.heap.objs.size,_,I2,rfl,⟨_,x,y,hfr,rfl,rfl,λxs' q'=>?_,λys' q'=>?_⟩,⟨b1,?_,⟨u,v,?_⟩,?_,?_⟩,λc hc=>(hf1 c hc).1⟩
  ·rw[I.Zb4 q' qa];exact hx
  ·rw[I.Zb4 q' qb];exact hy
  ·exact b2.extBut _ _ D.TIz (a7 _ _ D.TIz D.TITO D.TIi1 D.TIi2 q2)
  ·exact b2.extBut _ _ D.TOz a2
  ·exact a3.extBut b2.extBut D.i1z
  ·exact a4.extBut b2.extBut D.i2z
 done:=by
  intro X hP hw hK hc i pins s σ H E I hf st hg
  subst hP hw hK
  obtain⟨xs,ys,qa,qb,hx⟩:=hg
  obtain⟨q1,q2,⟨u0,v0,q3⟩,q4,q5⟩:=st
  obtain⟨is1,r1,p1,_⟩:=I.list qa
  obtain⟨is2,r2,p2,_⟩:=I.list qb
  refine wpAny_pyNext_zip_end (I.ok.hd hc) D q1 q2 q3 q4 q5 p1.isList p2.isList ?_ λh' k=>⟨rfl,I.ZgJ (t':=s.toks) (fp:=[z,TI,TO,i1,i2]) (λc o hc e=>?_) hf⟩
  ·rcases hx with hx|hx
   ·left;simp;rw[<-r1.length];exact hx
   ·right;simp;rw[<-r2.length];exact hx
  ·simp only[List.mem_cons,List.not_mem_nil,or_false,not_or]at hc
   obtain⟨c1,c2,c3,c4,c5⟩:=hc
   exact k c o c1 c3 c4 c5 e
 self:=λ_ _ _ _ _ st h=>wpAny_pyIter_zip st.1 h
theorem Zrn (n a b:Nat) (h1:a<n) (h2:b<n):ZipApart (n+4) (n+2) (n+3) n (n+1) a b:=by
 constructor<;>(show ¬ ((_:Nat)=_);omega)
noncomputable def iZip (K:Frag) (ta:TA):TI:=fun σ H R=>ta σ H λvs H1=>∃a b xs ys,vs=[.ref a,.ref b]/\SqL K H1 a xs/\SqL K H1 b ys/\R (Itz K a b) H1
theorem Zkm:bootBuiltins "zip"=some (.type "zip"):=by decide +kernel
theorem Zro {elts:List Expr} {x1}{tp:Pos}{e1 e2:Expr}{ta:TA}{p pos:Pos} (hg:Gl X "zip") (hm:X.mg "zip"=none) (ha:PA X [e1,e2] ta) (he:starEach [e1,e2] X.env=(false,eval e1 X.env)::starEach [e2] X.env:=by rfl) (hpl:(backTo pos (starEach [e2] X.env)).any (·.1)=false:=by rfl) :
  PI X (.Tuple elts x1 tp) (.Call (.Name "zip" p) [e1,e2] [] pos) (iZip X.K ta):=by
 intro pins s σ H R I h
 refine wpAny_Call_Name_kw (ZbK I hg hm Zkm ?_)
 refine PyProof.Rows.callWith_type1 (thn (ha pos pins s σ H _ I h) λus s1 ⟨vs,H1,I1,r1,a,b,xs,ys,e1,qa,qb,q⟩=>?_) he hpl
 subst e1
 obtain⟨u,v,rfl,ru,rv⟩:=r1.two
 cases(show u=Value.ref a from ru)
 cases(show v=Value.ref b from rv)
 obtain⟨is1,rr1,p1,_⟩:=I1.list qa
 obtain⟨is2,rr2,p2,_⟩:=I1.list qb
 refine call_zip_2 p1.isList p2.isList λh' c1 c2 c3 c4 c5 c6 c7=>?_
 refine wpAny_pyIter_zip c1 ?_
 have l1:a<s1.heap.objs.size:=by obtain⟨o,e,_⟩:=p1.isList;exact Heap.lt_size e
 have l2:b<s1.heap.objs.size:=by obtain⟨o,e,_⟩:=p2.isList;exact Heap.lt_size e
 have sm:∀b,s1.heap.objs.size<=b->FpOk X pins H1 b:=λb hb=>I1.Zo1 hb (I1.hok.fresh hb)
 refine⟨_,[s1.heap.objs.size+4,s1.heap.objs.size+2,s1.heap.objs.size+3,s1.heap.objs.size,s1.heap.objs.size+1],_,_,H1,rfl,I1.kept (t':=s1.toks) c7,Zrm (a:=a) (b:=b) ?_,⟨c1,c2,⟨_,_,c3⟩,c4,c5⟩,λc hc=>?_,q⟩
 ·exact Zrn _ _ _ l1 l2
 ·simp at hc
  rcases hc with rfl|rfl|rfl|rfl|rfl<;>exact sm _ (by omega)
end
theorem cxK {CX:CXT}{P:Program}{w:World}{K:Frag}{mg:Str->Option Value}{base:Heap}{N:List Str}{qual:Str}{scope:Scope}{f:Addr}{cd:Value}{A:Around}{outer:List Env}{s:Shared}{H:Hp}{E:XK} :
  (Zgd CX P w K mg base N qual scope f cd A outer s H E).K=K:=rfl
theorem Zh.upd {H H1:Hp}{p:Addr}{o:HO} (h:H p=none) (e:Zh H H1):Zh H (upd H1 p o):=λb u z=>by
 rw[Zj (Zx z h)];exact e b u z
theorem Zh.ZM {H H1:Hp}{p:Addr}{o:HO} (e:Zh H H1) (h:H1 p=none):Zh H (L2.upd H1 p o):=e.upd (e.free h)
theorem ZfO {X:Cx}{K:Frag}{es:List Expr}{pos:Pos}{k:Nat}{t:TGs}{n:Nat} (hK:X.K=K) (hc:X.calm=true) (h:PGs X es t)
  (hn:(assignEach es X.env).length=n:=by rfl) (hst:(assignEach es X.env).findIdx? (·.1)=none:=by rfl):PG X (.Tuple es k pos) (gTup K n t):=hK▸Zhe hc h hn hst
noncomputable def LoopR (J:It) (g:TG) (tb:TS) (D:Ends) (σ:St) (H1:Hp):Prop:=∃W:Nat->Nat->St->Hp->Prop,(∃m,W 0 m σ H1)/\∀i m σ H,W i m σ H ->
 (J.stop i H/\D.nx σ H)\/(J.go i H/\∃N:St->Hp->Prop,(∀σ' H',N σ' H'->∃m',m'<m/\W (i+1) m' σ' H')/\∀x H',J.yld i H x H'->g x σ H' fun σ2 H2=>tb {D with nx:=N,ct:=N,bk:=D.nx} σ2 H2)
theorem Zoz {wi:TI}{g:TG}{tb:TS}{D:Ends}{σ:St}{H:Hp}:tFor wi g tb D σ H=wi σ H λJ H1=>LoopR J g tb D σ H1:=rfl
noncomputable def Zno (c:TT) (tb:TS) (D:Ends) (σ:St) (H:Hp):Prop:=Zne c tb D σ H
theorem Zkn {c:TT}{tb:TS}{D:Ends}{σ:St}{H:Hp}:Zne c tb D σ H=Zno c tb D σ H:=rfl
noncomputable def Zko (J:It) (g:TG) (tt:TT) (te:TE) (σ0:St) (Q:VK) (H1:Hp):Prop:=∃W:Nat->Nat->List V->Hp->Prop,(∃m,W 0 m [] H1)/\∀i m acc H,W i m acc H ->
 (J.stop i H/\acc.length<=sizeLine/\∀p,H p=none->Q (.ref p) (upd H p (.lst acc))) \/
 (J.go i H/\acc.length<sizeLine/\∀x H',J.yld i H x H'->g x σ0 H' fun σ2 H2=>tt σ2 H2 λb H3=>if b=true then te σ2 H3 λv H4=>∃m',m'<m/\W (i+1) m' (acc++[v]) H4 else ∃m',m'<m/\W (i+1) m' acc H3)
theorem Zl2 {wi:TI}{g:TG}{tt:TT}{te:TE}{js:List (Option Nat)}{σ:St}{H:Hp}{Q:VK}:Zow wi g tt te js σ H Q=wi σ H λJ H1=>Zko J g tt te (ZW js σ) Q H1:=rfl
noncomputable def CW (n:Nat) (vals:Nat->V) (H1:Hp) (i m:Nat) (acc:List V) (H:Hp):Prop:=m=n-i/\i<=n/\acc=(List.range i).map vals/\Zh H1 H
theorem CW.next {n:Nat}{vals:Nat->V}{H1 H:Hp}{i:Nat}{v:V} (hi:i<n) (hv:v=vals i) (s:Zh H1 H):∃m',m'<n-i/\CW n vals H1 (i+1) m' ((List.range i).map vals++[v]) H :=
 ⟨n-(i+1),by omega,rfl,hi,by rw[List.range_succ,List.map_append,hv];rfl,s⟩
theorem comp_map {J:It}{n:Nat}{H1:Hp}{g:TG}{tt:TT}{te:TE}{σ0:St}{Q:VK} (vals:Nat->V) (hn:n<sizeLine) (hgo:∀i H,Zh H1 H->i<n->J.go i H) (hstop:∀H,Zh H1 H->J.stop n H)
  (hb:∀i x H H',i<n->Zh H1 H->J.yld i H x H'->g x σ0 H' fun σ2 H2=>tt σ2 H2 λb H3=>if b=true then te σ2 H3 λv H4=>∃m',m'<n-i/\CW n vals H1 (i+1) m' ((List.range i).map vals++[v]) H4 else ∃m',m'<n-i/\CW n vals H1 (i+1) m' ((List.range i).map vals) H3)
  (hk:∀l H',Zh H1 H'->H' l=none->Q (.ref l) (upd H' l (.lst ((List.range n).map vals)))) :
  Zko J g tt te σ0 Q H1:=by
 refine⟨CW n vals H1,⟨n,rfl,Nat.zero_le _,rfl,Zh.refl _⟩,?_⟩
 rintro i m acc H ⟨rfl,hi,rfl,s⟩
 by_cases h:i<n
 ·refine .inr ⟨hgo i H s h,by simpa using Nat.lt_trans h hn,λx H' y=>hb i x H H' h s y⟩
 ·have e:i=n:=by omega
  subst e
  exact .inl ⟨hstop H s,by simpa using Nat.le_of_lt hn,λp hp=>hk p H s hp⟩
theorem Zef {α:Type}{xs:List α}{i:Int}{j:Nat} (h:i=(j:Int)) (hj:j<xs.length):atI xs i=some xs[j]:=by
 subst h
 unfold atI ixN
 rw[if_pos (by omega),if_pos (by omega)]
 simp
theorem Zts {α:Type}{xs:List α}{i:Int} (C:α->Prop) (h0:0<=i) (h1:i<xs.length) (h:∀x∈xs,C x):∃v,atI xs i=some v/\C v:=by
 obtain⟨j,rfl⟩:=Int.eq_ofNat_of_zero_le h0
 have hj:j<xs.length:=by omega
 exact⟨xs[j],Zef rfl hj,h _ (List.getElem_mem hj)⟩
theorem mul_r {a b:Int} (h1:-(2 ^ 64)<b) (h2:b<2 ^ 64):IntMulOk a b:=IntMulOk.of_right (intBits_le_64 h1 h2)
theorem Zfa {a b:Int} (h1:-(2 ^ 64)<a) (h2:a<2 ^ 64):IntMulOk a b:=IntMulOk.of_left (intBits_le_64 h1 h2)
theorem Zk6 {a b:Int} (ha:Builtin.Int.intBits a<=2 ^ 20) (hb:Builtin.Int.intBits b<=2 ^ 20):IntMulOk a b:=IntMulOk.of_bits ha hb
theorem cp18:ZlU 10 18:=by unfold ZlU;decide
theorem cp59:ZlU 10 59:=by unfold ZlU;decide
noncomputable def Zdv (H:Hp) (p:Addr):Prop:=∃x y:Int,H p=some (.lst [.int x,.int y])/\0<=x/\0<=y/\y<2147483647
noncomputable def Exc (p:Addr) (H H':Hp):Prop:=∀b o,b≠p->H b=some o->H' b=some o
theorem Zh.exc {H H1 H2:Hp}{p:Addr} (s:Zh H H1) (h:H p=none) (e:Exc p H1 H2):Zh H H2:=λb o z=>e b o (Zx z h) (s b o z)
theorem Zh.ZhY {H H':Hp}{p:Addr} (s:Zh H H'):Exc p H H':=λb o _ z=>s b o z
theorem Exc.upd {H:Hp}{p:Addr}{o:HO}:Exc p H (L2.upd H p o):=λb u n z=>by rw[Zj n];exact z
theorem Zdv.ne {H:Hp}{p q:Addr} (P:Zdv H p) (h:H q=none):q≠p:=by
 obtain⟨x,y,e,_⟩:=P
 exact(Zx e h).symm
theorem Zdv.same {H H':Hp}{p:Addr} (P:Zdv H p) (s:Zh H H'):Zdv H' p:=by
 obtain⟨x,y,e,r⟩:=P
 exact⟨x,y,s _ _ e,r⟩
theorem Zdv.upd {H:Hp}{p q:Addr}{o:HO} (P:Zdv H p) (h:H q=none):Zdv (L2.upd H q o) p:=P.same ((Zh.refl H).upd h)
theorem range_getD {α β:Type} (xs:List α) (d:α) (f:α->β) (n:Nat) (h:n=xs.length):(List.range n).map (λj=>f (xs.getD j d))=xs.map f:=by
 subst h
 refine List.ext_getElem (by simp) λj h1 h2=>?_
 have hj:j<xs.length:=by simpa using h1
 simp[List.getD_eq_getElem?_getD,hj]
theorem ZaC {K:Frag}{H:Hp}{p:Addr}{xs:List V} (h:H p=some (.lst xs)):tyV K "list" (.ref p) H:=.inl ⟨rfl,_,SqL.of h⟩
theorem ZoA {i j:Int}:ZlV (.int i) (.int j)=true:=rfl
theorem ZoB {i j:Bool}:ZlV (.bl i) (.bl j)=true:=rfl
theorem ZoC {i j:Str}:ZlV (.str i) (.str j)=true:=rfl
theorem ZoD:ZlV .non .non=true:=rfl
theorem ZoE {i:Int}:ZlV .non (.int i)=true:=rfl
theorem ZoF {i:Int}:ZlV (.int i) .non=true:=rfl
section
variable {X:Cx}
noncomputable def rLen (K:Frag):List V->Hp->VK->Prop:=λxs H Q=>∃p ys,xs=[.ref p]/\(SqL K H p ys\/SqT K H p ys)/\Q (.int ys.length) H
theorem Zl {K:Frag} (hK:X.K=K):Zcw X (.builtin "len") (rLen K):=by subst hK;exact ZkZ
noncomputable def rLof (K:Frag):List V->Hp->VK->Prop:=λxs H Q=>∃p ys,xs=[.ref p]/\(SqL K H p ys\/SqT K H p ys)/\∀l,H l=none->Q (.ref l) (upd H l (.lst ys))
theorem Znp {K:Frag} (hK:X.K=K):Zcw X (.type "list") (rLof K):=by subst hK;exact Zk0
noncomputable def rTof (K:Frag):List V->Hp->VK->Prop:=λxs H Q=>∃p ys,xs=[.ref p]/\((SqL K H p ys/\∀l,H l=none->Q (.ref l) (upd H l (.tup ys)))\/(SqT K H p ys/\Q (.ref p) H))
theorem ZdS {K:Frag} (hK:X.K=K):Zcw X (.type "tuple") (rTof K):=by subst hK;exact ZjZ
theorem Zhj {K:Frag} (hK:X.K=K):Zcw X (.builtin "isinstance") (rIsi K):=by subst hK;exact Zrl
end
theorem ZoG {a:Addr}{x:Value}:(cOf (.ref a)=some x)=(.ref a=x):=by simp[cOf]
theorem Zrp {n:String}{x:Value}:(cOf (.ty n)=some x)=(.type n=x):=by simp[cOf]
theorem Zrq {α:Type}{f:Nat->Option α}{g:Nat->α}:∀{l:List Nat},(∀k∈l,f k=some (g k))->l.filterMap f=l.map g
 |[],_=>rfl
 |k::r,h=>by
  rw[List.filterMap_cons,h k (List.mem_cons_self ..),List.map_cons,Zrq λj hj=>h j (List.mem_cons_of_mem _ hj)]
theorem Zrr (its:List Value):slicePick its.toArray none none (some (-1))=its.reverse.toArray:=by
 have e:=PyProof.Rows.picked_rev its.length
 unfold Builtin.Str.strSliceIndices at e
 have e2:sliceRange ((its.length:Int)-1) (-1) (-1)=(List.range its.length).map λk=>its.length-1-k:=by
  rw[<-e];rfl
 unfold slicePick
 congr 1
 show((sliceRange ((its.toArray.size:Int)-1) (-1) (-1)).filterMap (its.toArray[·]?))=_
 rw[List.size_toArray,e2,List.filterMap_map,Zrq (g:=λk=>(its.reverse[k]?).getD .none)]
 ·refine List.ext_getElem (by simp) λj h1 h2=>?_
  have hj:j<its.length:=by simpa using h1
  simp[hj]
 ·intro k hk
  have hk':k<its.length:=List.mem_range.mp hk
  have h3:its.length-1-k<its.length:=by omega
  simp[hk',h3]
section
variable {X:Cx}{e st:Expr}{te ts:TE}{pos p2:Pos}
noncomputable def tRev (K:Frag) (te ts:TE):TE:=fun σ H Q=>te σ H λx H1=>ts σ H1 λz H2=>∃a xs,x=.ref a/\z=.int (-1)/\SqL K H2 a xs/\∀p,H2 p=none->Q (.ref p) (upd H2 p (.lst xs.reverse))
theorem Vals.rev:∀{xs:List V}{us:List Value},Vals xs us->Vals xs.reverse us.reverse:=by
 intro xs us h
 induction h with
 |nil=>exact .nil
 |cons r _ ih=>rw[List.reverse_cons,List.reverse_cons];exact ih.append (.cons r .nil)
theorem Zpe {K:Frag} (hK:X.K=K) (he:PE X e te) (hs:PE X st ts):PE X (.Subscript e (.Slice none none (some st) p2) pos) (tRev K te ts):=by
 subst hK
 intro pins s σ H Q I h
 refine Subscript_ (thn (he pins s σ H _ I h) λv s1 ⟨x,H1,I1,r1,q1⟩=>?_)
 refine wpAny_Slice ?_
 rw[evalPart_none]
 refine wpAny_pure ?_
 refine wpAny_pure ?_
 rw[evalPart_some]
 refine thn (hs pins s1 σ H1 _ I1 q1) λvs s2 ⟨z,H2,I2,r2,a,xs,e1,e2,hx,q⟩=>?_
 subst e1 e2
 obtain⟨tk,rfl⟩:=r2
 cases r1
 have I4:Inv X pins σ H2 {s2 with heap:=s2.heap.push {cls:=.type "slice",data:=.fields #[.none,.none,.int (-1) tk]}}:=I2.kept (t':=s2.toks) λb ob q=>Heap.get?_push_of_some _ q
 show wpAny (model X.prog X.w) X.A (subscriptTail e (.Slice none none (some st) p2) (.ref a) (.ref s2.heap.objs.size)) (EP X pins σ Q) X.xe {s2 with heap:=s2.heap.push {cls:=.type "slice",data:=.fields #[.none,.none,.int (-1) tk]}}
 obtain⟨its,r,ht,hz⟩:=I4.list hx
 have hlen:=r.length
 refine tail_any (ops:=[.ref a,.ref s2.heap.objs.size]) ht.isList.typeIs slot_list_getitem.lookup ?_ (by with_unfolding_all rfl)
 refine wpAny_getItem_list_slice (s:={s2 with heap:=s2.heap.push {cls:=.type "slice",data:=.fields #[.none,.none,.int (-1) tk]}}) ht.isList (Heap.IsSliceOf.new ..) .none .none (.int (-1) tk) (by simp) ?_ (by rw[List.size_toArray]<;>omega)
 rw[Zrr]
 refine⟨.ref _,_,I4.laid (t':=s2.toks) (o:=.lst xs.reverse) (λb ob q=>Heap.get?_push_of_some _ q) (Nat.le_refl _) ?_,rfl,q _ (I4.hok.fresh (Nat.le_refl _))⟩
 exact⟨by rw[List.length_reverse];exact hz,_,0,r.rev,Heap.get?_push_size _ rfl⟩
end
noncomputable def Rows (H:Hp) (l:Addr) (rs:List (List Int)):Prop:=∃as:List Addr,H l=some (.lst (as.map V.ref))/\l∉as/\as.length=rs.length/\∀i (h1:i<as.length) (h2:i<rs.length),H as[i]=some (.lst (rs[i].map V.int))
theorem Rows.same {H H':Hp}{l:Addr}{rs:List (List Int)} (R:Rows H l rs) (s:Zh H H'):Rows H' l rs:=by
 obtain⟨as,e,n,hl,h⟩:=R
 exact⟨as,s _ _ e,n,hl,λi h1 h2=>s _ _ (h i h1 h2)⟩
theorem Rows.at {K:Frag}{H:Hp}{l:Addr}{rs:List (List Int)} (R:Rows H l rs) {i:Nat} (h:i<rs.length):∃xs a,SqL K H l xs/\atI xs (i:Int)=some (.ref a)/\H a=some (.lst (rs[i].map V.int)):=by
 obtain⟨as,e,n,hl,hh⟩:=R
 have hi:i<as.length:=by omega
 refine⟨_,as[i],SqL.of e,?_,hh i hi h⟩
 rw[Zef rfl (by simpa using hi)];simp
theorem Rows.push {H:Hp}{l p:Addr}{rs:List (List Int)}{r:List Int}{as:List Addr} (e:H l=some (.lst (as.map V.ref))) (n:l∉as) (hl:as.length=rs.length) (h:∀i (h1:i<as.length) (h2:i<rs.length),H as[i]=some (.lst (rs[i].map V.int)))
  (hp:H p=some (.lst (r.map V.int))) (np:p≠l):Rows (upd H l (.lst (as.map V.ref++[.ref p]))) l (rs++[r]):=by
 refine⟨as++[p],by rw[Zd];simp,?_,by simp[hl],λi h1 h2=>?_⟩
 ·simp only[List.mem_append,List.mem_singleton,not_or]
  exact⟨n,λz=>np z.symm⟩
 ·by_cases hi:i<as.length
  ·have e1:(as++[p])[i]=as[i]:=List.getElem_append_left hi
   have e2:(rs++[r])[i]=rs[i]'(by omega):=List.getElem_append_left (by omega)
   rw[e1,e2,Zj]
   ·exact h i hi (by omega)
   ·intro z;exact n (z▸List.getElem_mem hi)
  ·have e1:(as++[p])[i]=p:=by rw[List.getElem_append_right (by omega)];simp
   have e2:(rs++[r])[i]=r:=by rw[List.getElem_append_right (by omega)];simp
   rw[e1,e2,Zj np];exact hp
inductive EqD (K:Frag) (H:Hp):Nat->V->V->Bool->Prop
 |flat {n:Nat}{x y:V} (fx:flatV x=true) (fy:flatV y=true):EqD K H n x y (eqV x y)
 |lst {n:Nat}{a b:Addr}{xs ys:List V} (e:Nat->Bool) (hx:SqL K H a xs) (hy:SqL K H b ys) (hl:xs.length=ys.length) (h:∀j x y,xs[j]?=some x->ys[j]?=some y->EqD K H n x y (e j)):EqD K H (n+1) (.ref a) (.ref b) ((List.range xs.length).all e)
 |len {n:Nat}{a b:Addr}{xs ys:List V} (hx:SqL K H a xs) (hy:SqL K H b ys) (hl:xs.length≠ys.length):EqD K H (n+1) (.ref a) (.ref b) false
 |tup {n:Nat}{a b:Addr}{xs ys:List V} (e:Nat->Bool) (hx:SqT K H a xs) (hy:SqT K H b ys) (h:∀j x y,xs[j]?=some x->ys[j]?=some y->EqD K H n x y (e j)):EqD K H (n+1) (.ref a) (.ref b) ((List.range (min xs.length ys.length)).all e&&xs.length==ys.length)
theorem ZiK {x:V} (h:flatV x=true):eqV x x=true:=by
 cases x<;>first
  |rfl
  |(simp[eqV];done)
  |cases h
section
variable {X:Cx}{pins:List (Addr×Obj)}{σ:St}{H:Hp}{s:Shared}
theorem Zl3 (I:Inv X pins σ H s) {n:Nat}{x y:V}{b:Bool} (h:EqD X.K H n x y b):x=y->b=true:=by
 induction h with
 |flat fx fy=>rintro rfl;exact ZiK fx
 |lst e hx hy hl h ih =>
  intro z
  cases z
  have:=I.Zb4 hx hy
  subst this
  refine List.all_eq_true.mpr λj hj=>?_
  have hj':=List.mem_range.mp hj
  exact ih j _ _ (List.getElem?_eq_getElem hj') (List.getElem?_eq_getElem hj') rfl
 |len hx hy hl =>
  intro z
  cases z
  have:=I.Zb4 hx hy
  subst this
  exact absurd rfl hl
 |tup e hx hy h ih =>
  intro z
  cases z
  have:=I.Zhc hx hy
  subst this
  rw[Nat.min_self]
  have:(List.range _).all e=true:=List.all_eq_true.mpr λj hj=>by
   have hj':=List.mem_range.mp hj
   exact ih j _ _ (List.getElem?_eq_getElem hj') (List.getElem?_eq_getElem hj') rfl
  rw[this];simp
theorem Zk7 (I:Inv X pins σ H s) {n:Nat}{x y:V}{b:Bool} (h:EqD X.K H n x y b):∀(A:Around) (u v:Value),A.units+n<cLine->RelV x u->RelV y v->SeqAt.EqAt A s u v b:=by
 induction h with
 |flat fx fy=>intro A u v _ ru rv;exact Zri ru rv fx fy
 |@lst n a b xs ys e hx hy hl h ih =>
  intro A u v hu ru rv
  have hb:=Zl3 I (.lst e hx hy hl h)
  cases ru
  cases rv
  by_cases hab:a=b
  ·subst hab
   rw[hb rfl];exact SeqAt.EqAt.same _
  ·obtain⟨is1,r1,p1,_⟩:=I.list hx
   obtain⟨is2,r2,p2,_⟩:=I.list hy
   have e1:=r1.length
   have e2:=r2.length
   have key:=SeqAt.RcAt.lists (A:=A) (s:=s) (e:=e) p1.isList p2.isList (by simp;omega) (by omega) λj h1 h2=>by
    have h1':j<xs.length:=by simpa[e1]using h1
    have h2':j<ys.length:=by simpa[e2]using h2
    obtain⟨u,hu1,ru⟩:=r1.get (List.getElem?_eq_getElem h1')
    obtain⟨v,hv1,rv⟩:=r2.get (List.getElem?_eq_getElem h2')
    have eu:is1.toArray[j]=u:=by simpa using(List.getElem?_eq_some_iff.mp hu1).2
    have ev:is2.toArray[j]=v:=by simpa using(List.getElem?_eq_some_iff.mp hv1).2
    rw[eu,ev]
    exact ih j _ _ (List.getElem?_eq_getElem h1') (List.getElem?_eq_getElem h2') A.in1 u v (by show A.units+1+n<cLine;omega) ru rv
   have e3:is1.toArray.size=xs.length:=by simp[e1]
   rw[e3]at key
   exact SeqAt.EqAt.of_refs hab key
 |@len n a b xs ys hx hy hl =>
  intro A u v hu ru rv
  cases ru
  cases rv
  have hab:a≠b:=λz=>by subst z;exact hl (congrArg List.length (I.Zb4 hx hy))
  obtain⟨is1,r1,p1,_⟩:=I.list hx
  obtain⟨is2,r2,p2,_⟩:=I.list hy
  have e1:=r1.length
  have e2:=r2.length
  exact SeqAt.EqAt.of_refs hab (SeqAt.RcAt.lists_lengths p1.isList p2.isList (by simp;omega) (by omega))
 |@tup n a b xs ys e hx hy h ih =>
  intro A u v hu ru rv
  have hb:=Zl3 I (.tup e hx hy h)
  cases ru
  cases rv
  by_cases hab:a=b
  ·subst hab
   rw[hb rfl];exact SeqAt.EqAt.same _
  ·obtain⟨is1,r1,p1,_⟩:=I.tuple hx
   obtain⟨is2,r2,p2,_⟩:=I.tuple hy
   have e1:=r1.length
   have e2:=r2.length
   have key:=SeqAt.RcAt.tuples (A:=A) (s:=s) (e:=e) p1 p2 (by omega) λj h1 h2=>by
    have h1':j<xs.length:=by simpa[e1]using h1
    have h2':j<ys.length:=by simpa[e2]using h2
    obtain⟨u,hu1,ru⟩:=r1.get (List.getElem?_eq_getElem h1')
    obtain⟨v,hv1,rv⟩:=r2.get (List.getElem?_eq_getElem h2')
    have eu:is1.toArray[j]=u:=by simpa using(List.getElem?_eq_some_iff.mp hu1).2
    have ev:is2.toArray[j]=v:=by simpa using(List.getElem?_eq_some_iff.mp hv1).2
    rw[eu,ev]
    exact ih j _ _ (List.getElem?_eq_getElem h1') (List.getElem?_eq_getElem h2') A.in1 u v (by show A.units+1+n<cLine;omega) ru rv
   have e3:is1.toArray.size=xs.length:=by simp[e1]
   have e4:is2.toArray.size=ys.length:=by simp[e2]
   rw[e3,e4]at key
   exact SeqAt.EqAt.of_refs hab key
end
noncomputable def rEqD (K:Frag) (neg:Bool):R2:=λx y H Q=>∃a b k,x=.ref a/\y=.ref b/\EqD K H 3 x y k/\Q (.bl (if neg then !k else k)) H
section
variable {X:Cx}
theorem Znq {K:Frag} (hK:X.K=K) {k:Nat} (hr:Room k X.A):OpR X (compareOp .Eq) (rEqD K false):=by
 subst hK
 have hu0:=hr.un
 intro pins s σ H x y v u Q I rx ry h
 obtain⟨a,b,k,rfl,rfl,h,q⟩:=h
 cases rx
 cases ry
 cases h with
 |flat fx fy=>cases fx
 |@lst n _ _ xs ys e hx hy hl h =>
  obtain⟨is1,r1,p1,_⟩:=I.list hx
  obtain⟨is2,r2,p2,_⟩:=I.list hy
  have e1:=r1.length
  have e2:=r2.length
  have e3:is1.toArray.size=xs.length:=by simp[e1]
  refine SeqAt.eq_listAt (e:=e) p1.isList p2.isList (by simp;omega) (by omega) (λj h1 h2=>?_) ⟨.bl _,H,I,rfl,by rw[e3];exact q⟩
  have h1':j<xs.length:=by simpa[e1]using h1
  have h2':j<ys.length:=by simpa[e2]using h2
  obtain⟨u,hu1,ru⟩:=r1.get (List.getElem?_eq_getElem h1')
  obtain⟨v,hv1,rv⟩:=r2.get (List.getElem?_eq_getElem h2')
  have eu:is1.toArray[j]=u:=by simpa using(List.getElem?_eq_some_iff.mp hu1).2
  have ev:is2.toArray[j]=v:=by simpa using(List.getElem?_eq_some_iff.mp hv1).2
  rw[eu,ev]
  exact Zk7 I (h j _ _ (List.getElem?_eq_getElem h1') (List.getElem?_eq_getElem h2')) X.A.in1 u v (by show X.A.units+1+2<cLine;omega) ru rv
 |@len n _ _ xs ys hx hy hl =>
  obtain⟨is1,r1,p1,_⟩:=I.list hx
  obtain⟨is2,r2,p2,_⟩:=I.list hy
  have e1:=r1.length
  have e2:=r2.length
  exact SeqAt.eq_list_lengthsAt p1.isList p2.isList (by simp;omega) (by omega) ⟨.bl _,H,I,rfl,q⟩
 |@tup n _ _ xs ys e hx hy h =>
  obtain⟨is1,r1,p1,_⟩:=I.tuple hx
  obtain⟨is2,r2,p2,_⟩:=I.tuple hy
  have e1:=r1.length
  have e2:=r2.length
  have e3:is1.toArray.size=xs.length:=by simp[e1]
  have e4:is2.toArray.size=ys.length:=by simp[e2]
  refine SeqAt.eq_tupleAt (e:=e) p1 p2 (by omega) (λj h1 h2=>?_) ⟨.bl _,H,I,rfl,by rw[e3,e4];exact q⟩
  have h1':j<xs.length:=by simpa[e1]using h1
  have h2':j<ys.length:=by simpa[e2]using h2
  obtain⟨u,hu1,ru⟩:=r1.get (List.getElem?_eq_getElem h1')
  obtain⟨v,hv1,rv⟩:=r2.get (List.getElem?_eq_getElem h2')
  have eu:is1.toArray[j]=u:=by simpa using(List.getElem?_eq_some_iff.mp hu1).2
  have ev:is2.toArray[j]=v:=by simpa using(List.getElem?_eq_some_iff.mp hv1).2
  rw[eu,ev]
  exact Zk7 I (h j _ _ (List.getElem?_eq_getElem h1') (List.getElem?_eq_getElem h2')) X.A.in1 u v (by show X.A.units+1+2<cLine;omega) ru rv
theorem Zge {K:Frag} (hK:X.K=K) {k:Nat} (hr:Room k X.A):OpR X (compareOp .NotEq) (rEqD K true):=by
 subst hK
 have hu0:=hr.un
 intro pins s σ H x y v u Q I rx ry h
 obtain⟨a,b,k,rfl,rfl,h,q⟩:=h
 cases rx
 cases ry
 cases h with
 |flat fx fy=>cases fx
 |@lst n _ _ xs ys e hx hy hl h =>
  obtain⟨is1,r1,p1,_⟩:=I.list hx
  obtain⟨is2,r2,p2,_⟩:=I.list hy
  have e1:=r1.length
  have e2:=r2.length
  have e3:is1.toArray.size=xs.length:=by simp[e1]
  refine SeqAt.RcNeAt.lists (e:=e) p1.isList p2.isList (by simp;omega) (by omega) (λj h1 h2=>?_) _ _ _ _ ⟨.bl _,H,I,rfl,by rw[e3];exact q⟩
  have h1':j<xs.length:=by simpa[e1]using h1
  have h2':j<ys.length:=by simpa[e2]using h2
  obtain⟨u,hu1,ru⟩:=r1.get (List.getElem?_eq_getElem h1')
  obtain⟨v,hv1,rv⟩:=r2.get (List.getElem?_eq_getElem h2')
  have eu:is1.toArray[j]=u:=by simpa using(List.getElem?_eq_some_iff.mp hu1).2
  have ev:is2.toArray[j]=v:=by simpa using(List.getElem?_eq_some_iff.mp hv1).2
  rw[eu,ev]
  exact Zk7 I (h j _ _ (List.getElem?_eq_getElem h1') (List.getElem?_eq_getElem h2')) X.A.in1 u v (by show X.A.units+1+2<cLine;omega) ru rv
 |@len n _ _ xs ys hx hy hl =>
  obtain⟨is1,r1,p1,_⟩:=I.list hx
  obtain⟨is2,r2,p2,_⟩:=I.list hy
  have e1:=r1.length
  have e2:=r2.length
  exact SeqAt.RcNeAt.lists_lengths p1.isList p2.isList (by simp;omega) (by omega) _ _ _ _ ⟨.bl _,H,I,rfl,q⟩
 |@tup n _ _ xs ys e hx hy h =>
  obtain⟨is1,r1,p1,_⟩:=I.tuple hx
  obtain⟨is2,r2,p2,_⟩:=I.tuple hy
  have e1:=r1.length
  have e2:=r2.length
  have e3:is1.toArray.size=xs.length:=by simp[e1]
  have e4:is2.toArray.size=ys.length:=by simp[e2]
  refine SeqAt.RcNeAt.tuples (e:=e) p1 p2 (by omega) (λj h1 h2=>?_) _ _ _ _ ⟨.bl _,H,I,rfl,by rw[e3,e4];exact q⟩
  have h1':j<xs.length:=by simpa[e1]using h1
  have h2':j<ys.length:=by simpa[e2]using h2
  obtain⟨u,hu1,ru⟩:=r1.get (List.getElem?_eq_getElem h1')
  obtain⟨v,hv1,rv⟩:=r2.get (List.getElem?_eq_getElem h2')
  have eu:is1.toArray[j]=u:=by simpa using(List.getElem?_eq_some_iff.mp hu1).2
  have ev:is2.toArray[j]=v:=by simpa using(List.getElem?_eq_some_iff.mp hv1).2
  rw[eu,ev]
  exact Zk7 I (h j _ _ (List.getElem?_eq_getElem h1') (List.getElem?_eq_getElem h2')) X.A.in1 u v (by show X.A.units+1+2<cLine;omega) ru rv
end
noncomputable def IsI (v:V) (i:Int):Prop:=v=.int i
noncomputable def IsL (K:Frag) (H:Hp) {α:Type} (P:V->α->Prop) (v:V) (as:List α):Prop:=∃a xs,v=.ref a/\SqL K H a xs/\xs.length=as.length/\∀(j:Nat) (x:V) (y:α),xs[j]?=some x->as[j]?=some y->P x y
noncomputable def IsT (K:Frag) (H:Hp) {α:Type} (P:V->α->Prop) (v:V) (as:List α):Prop:=∃a xs,v=.ref a/\SqT K H a xs/\xs.length=as.length/\∀(j:Nat) (x:V) (y:α),xs[j]?=some x->as[j]?=some y->P x y
noncomputable def EqP (K:Frag) (H:Hp) (n:Nat) {α:Type} [DecidableEq α] (P:V->α->Prop):Prop:=∀x y a b,P x a->P y b->EqD K H n x y (decide (a=b))
theorem Zdh {K:Frag}{H:Hp}{n:Nat}:EqP K H n IsI:=by
 rintro x y a b rfl rfl
 have:=EqD.flat (K:=K) (H:=H) (n:=n) (x:=.int a) (y:=.int b) rfl rfl
 have e:eqV (.int a) (.int b)=decide (a=b):=by simp[eqV,Bool.beq_eq_decide_eq]
 rw[<-e];exact this
theorem all_eq {α:Type} [DecidableEq α] (as bs:List α) (h:as.length=bs.length):(List.range as.length).all (λj=>decide (as[j]?=bs[j]?))=decide (as=bs):=by
 rw[Bool.eq_iff_iff,List.all_eq_true,decide_eq_true_iff]
 constructor
 ·intro q
  refine List.ext_getElem? λj=>?_
  by_cases hj:j<as.length
  ·simpa using q j (List.mem_range.mpr hj)
  ·rw[List.getElem?_eq_none (by omega),List.getElem?_eq_none (by omega)]
 ·rintro rfl j _;simp
theorem Ztt {K:Frag}{H:Hp}{n:Nat}{α:Type} [DecidableEq α] {P:V->α->Prop} (h:EqP K H n P):EqP K H (n+1) (IsL K H P):=by
 rintro x y as bs ⟨a,xs,rfl,hx,lx,px⟩ ⟨b,ys,rfl,hy,ly,py⟩
 by_cases hl:as.length=bs.length
 ·rw[<-all_eq as bs hl,<-lx]
  refine .lst _ hx hy (by omega) λj x y h1 h2=>?_
  have j1:=(List.getElem?_eq_some_iff.mp h1).1
  have j2:=(List.getElem?_eq_some_iff.mp h2).1
  have ha:as[j]?=some as[j]:=List.getElem?_eq_getElem (by omega)
  have hb:bs[j]?=some bs[j]:=List.getElem?_eq_getElem (by omega)
  have:=h x y _ _ (px j _ _ h1 ha) (py j _ _ h2 hb)
  rw[ha,hb]
  simpa using this
 ·have e:decide (as=bs)=false:=by simp;intro z;exact hl (congrArg List.length z)
  rw[e]
  exact .len hx hy (by omega)
theorem Zeg {K:Frag}{H:Hp}{n:Nat}{α:Type} [DecidableEq α] {P:V->α->Prop} (h:EqP K H n P):EqP K H (n+1) (IsT K H P):=by
 rintro x y as bs ⟨a,xs,rfl,hx,lx,px⟩ ⟨b,ys,rfl,hy,ly,py⟩
 have key:=EqD.tup (K:=K) (H:=H) (n:=n) (λj=>decide (as[j]?=bs[j]?)) hx hy λj x y h1 h2=>by
  have j1:=(List.getElem?_eq_some_iff.mp h1).1
  have j2:=(List.getElem?_eq_some_iff.mp h2).1
  have ha:as[j]?=some as[j]:=List.getElem?_eq_getElem (by omega)
  have hb:bs[j]?=some bs[j]:=List.getElem?_eq_getElem (by omega)
  have:=h x y _ _ (px j _ _ h1 ha) (py j _ _ h2 hb)
  rw[ha,hb]
  simpa using this
 have e:((List.range (min xs.length ys.length)).all (λj=>decide (as[j]?=bs[j]?))&&xs.length==ys.length)=decide (as=bs):=by
  rw[lx,ly]
  by_cases hl:as.length=bs.length
  ·rw[<-hl,Nat.min_self,all_eq as bs hl];simp
  ·have e:decide (as=bs)=false:=by simp;intro z;exact hl (congrArg List.length z)
   rw[e]
   simp[hl]
 rw[e]at key
 exact key
theorem Zl4 {K:Frag}{H:Hp}{a:Addr}{ns:List Int} (h:SqL K H a (ns.map V.int)):IsL K H IsI (.ref a) ns:=⟨a,_,rfl,h,by simp,λj x y h1 h2=>by
 rw[List.getElem?_map,h2]at h1
 exact(Option.some.inj h1).symm⟩
theorem Zag {K:Frag}{H:Hp}{a:Addr}{ns:List Int} (h:SqT K H a (ns.map V.int)):IsT K H IsI (.ref a) ns:=⟨a,_,rfl,h,by simp,λj x y h1 h2=>by
 rw[List.getElem?_map,h2]at h1
 exact(Option.some.inj h1).symm⟩
section
variable {X:Cx}
noncomputable def Zrs (ta:TA):TE:=fun σ H Q=>ta σ H λvs H1=>∃j:Int,vs=[.int j]/\-(2 ^ 62)<=j/\j<2 ^ 62/\∀p,H1 p=none->Q (.ref p) (upd H1 p (.rng 0 j))
theorem Zhk {a:Expr}{ta:TA}{p pos:Pos} (hg:Gl X "range") (hm:X.mg "range"=none) (ha:PA X [a] ta) (hs:starEach [a] X.env=[(false,eval a X.env)]:=by rfl):PE X (.Call (.Name "range" p) [a] [] pos) (Zrs ta):=by
 intro pins s σ H Q I h
 refine wpAny_Call_Name_kw (ZbK I hg hm boot_range (PyProof.Rows.callWith_type1 (thn (ha pos pins s σ H _ I h) λus s1 ⟨vs,H1,I1,r1,q1⟩=>?_) hs rfl))
 obtain⟨j,e,q1,q2,q⟩:=q1
 subst e
 obtain⟨u,rfl,ru⟩:=r1.one
 obtain⟨t,rfl⟩:=ru
 refine call_range_1 ⟨.ref s1.heap.objs.size,_,I1.laid (λb o e=>Heap.get?_push_of_some _ e) (Nat.le_refl _) ?_,rfl,q _ (I1.hok.fresh (Nat.le_refl _))⟩
 exact⟨_,_,_,Heap.get?_push_size _ rfl⟩
noncomputable def Zrt:List V->Hp->VK->Prop:=λxs H Q=>∃p j,xs=[.ref p]/\H p=some (.rng 0 j)/\0<=j/\j<=1000/\∀l,H l=none->Q (.ref l) (upd H l (.lst ((List.range j.toNat).map λ(i:Nat)=>V.int (i:Int))))
theorem ZoH {g:Nat->V}{P:Nat->Value->Prop} (hP:∀i v,P i v->RelV (g i) v):∀(n:Nat) (us:List Value),us.length=n->(∀(j:Nat) (v:Value),us[j]?=some v->P j v)->Vals ((List.range n).map g) us:=by
 intro n
 induction n with
 |zero =>
  intro us hl _
  cases us with
  |nil=>exact .nil
  |cons _ _=>cases hl
 |succ n ih =>
  intro us hl h
  have hne:us≠[]:=λz=>by rw[z]at hl;cases hl
  rw[List.range_succ,List.map_append,<-List.dropLast_concat_getLast hne]
  have hl2:us.dropLast.length=n:=by rw[List.length_dropLast,hl];rfl
  refine(ih us.dropLast hl2 λj v hj=>?_).append (.cons ?_ .nil)
  ·have hj2:=(List.getElem?_eq_some_iff.mp hj).1
   refine h j v ?_
   rw[List.getElem?_dropLast]at hj
   split at hj
   ·exact hj
   ·cases hj
  ·refine hP n _ (h n _ ?_)
   rw[List.getLast_eq_getElem]
   rw[List.getElem?_eq_some_iff]
   refine⟨by omega,?_⟩
   congr 1
   omega
theorem Zj0 (hc:X.calm=true):Zcw X (.type "list") Zrt:=by
 intro pins s σ H xs us Q I r h
 obtain⟨p,j,rfl,hp,h0,h1,q⟩:=h
 obtain⟨u,rfl,ru⟩:=r.one
 cases(show u=Value.ref p from ru)
 obtain⟨t,u,v,hob⟩:=(show ∃t u v,s.heap.get? p=some {cls:=.type "range",data:=.fields #[.int 0 t,.int j u,.int 1 v]}from I.hok p _ hp)
 refine call_list_range (n:=j.toNat) (I.ok.hd hc) hob (small_one (by omega) (by omega) (by omega) (by omega)) (by rw[rangeSize_one];split<;>omega) (by omega) λh' tk acc' c' kp hn hacc=>?_
 have hv:Vals ((List.range j.toNat).map λ(i:Nat)=>V.int (i:Int)) acc'.toList:=by
  exact ZoH (g:=λ(i:Nat)=>V.int (i:Int)) (P:=λ(i:Nat) v=>∃t,v=.int (0+(i:Int)*1) t) (λi v h=>by obtain⟨t,e⟩:=h;exact⟨t,by rw[e];simp⟩) _ _ (by rw[Array.length_toList];exact hacc.1) λk v hk=>hacc.2 k v (by simpa using hk)
 refine⟨.ref s.heap.objs.size,_,I.laid kp (Nat.le_refl _) ?_,rfl,q _ (I.hok.fresh (Nat.le_refl _))⟩
 exact⟨by rw[List.length_map,List.length_range];exact Nat.le_trans (show j.toNat<=1000 by omega) (by decide),_,c',hv,hn⟩
noncomputable def rAll (K:Frag):List V->Hp->VK->Prop:=λxs H Q=>∃(p:Addr) (bs:List Bool),xs=[.ref p]/\SqL K H p (bs.map V.bl)/\Q (.bl (bs.all id)) H
theorem all_ix (bs:List Bool):(List.range bs.length).all (λi=>bs.getD i false)=bs.all id:=by
 rw[Bool.eq_iff_iff,List.all_eq_true,List.all_eq_true]
 constructor
 ·intro h x hx
  obtain⟨j,hj,rfl⟩:=List.getElem_of_mem hx
  have:=h j (List.mem_range.mpr hj)
  simpa[List.getD_eq_getElem?_getD,hj]using this
 ·intro h j hj
  have hj':=List.mem_range.mp hj
  have:=h _ (List.getElem_mem hj')
  simpa[List.getD_eq_getElem?_getD,hj']using this
theorem Zl5 {prog:Program}{w:World}{A:Around}{bs:List Bool}{its:List Value} (r:Vals (bs.map V.bl) its):TruthOf prog w A (λi v=>its.toArray[i]?=some v) (λi=>bs.getD i false):=by
 intro i v s Q E hv hq
 have hv':its[i]?=some v:=by simpa using hv
 have hl:=r.length
 have hi:i<bs.length:=by
  have:=(List.getElem?_eq_some_iff.mp hv').1
  rw[List.length_map]at hl;omega
 obtain⟨u,hu,ru⟩:=r.get (i:=i) (x:=V.bl bs[i]) (by rw[List.getElem?_map,List.getElem?_eq_getElem hi];rfl)
 rw[hv']at hu
 cases hu
 cases ru
 refine wpAny_truthy_bool ?_
 simpa[List.getD_eq_getElem?_getD,hi]using hq
theorem Zru {K:Frag} (hK:X.K=K) (hc:X.calm=true):Zcw X (.builtin "all") (rAll K):=by
 subst hK
 intro pins s σ H xs us Q I r h
 obtain⟨p,bs,rfl,hp,q⟩:=h
 obtain⟨u,rfl,ru⟩:=r.one
 cases(show u=Value.ref p from ru)
 obtain⟨its,r',pl,hz⟩:=I.list hp
 have hl:=r'.length
 refine call_all_walk (wpAny_pyIter_list pl.isList ?_)
 have hne:p≠s.heap.objs.size:=by obtain⟨o,e,_⟩:=pl.isList;exact Nat.ne_of_lt (Heap.lt_size e)
 refine⟨s.heap.objs.size,_,_,_,_,_,λi=>bs.getD i false,rfl,Walks.list (A:=X.A.in1) (show X.A.in1.handled=none from I.ok.hd hc) _ p hne its.toArray,⟨⟨_,Heap.get?_push_size _ rfl,rfl,rfl⟩,pl.isList.push _⟩,Zl5 r',λh' tk kp=>?_⟩
 have e1:its.toArray.size=bs.length:=by rw[List.size_toArray];rw[List.length_map]at hl;omega
 rw[e1,all_ix]
 exact⟨.bl _,H,I.kept (t':=tk) λb o e=>kp b o (by simp;exact Nat.ne_of_lt (Heap.lt_size e)) (Heap.get?_push_of_some _ e),rfl,q⟩
noncomputable def rIxQ (K:Frag):R2:=λx y H Q=>∃p xs i v,x=.ref p/\y=.int i/\(SqL K H p xs\/SqT K H p xs)/\atI xs i=some v/\Q v H
theorem Zpf {K:Frag} (hK:X.K=K):IxR X (rIxQ K):=by
 subst hK
 intro value slice pins s σ H x y v u Q I rx ry h hs
 refine(Zy.or ZaW) (value:=value) (slice:=slice) pins s σ H x y v u Q I rx ry ?_ hs
 obtain⟨p,xs,i,v,rfl,rfl,hq,ha,q⟩:=h
 rcases hq with hq|hq
 ·exact .inl ⟨p,xs,i,v,rfl,rfl,hq,ha,q⟩
 ·exact .inr ⟨p,xs,i,v,rfl,rfl,hq,ha,q⟩
theorem bt_all:bootBuiltins "all"=some (.builtin "all"):=by decide +kernel
end
noncomputable def Zdi (f:Nat->Int) (a b p:Nat):Prop:=a<=p/\p<=b/\(∀q,a<=q->q<p->f p<f q)/\∀q,p<q->q<=b->f p<=f q
theorem Zdi.unique {f:Nat->Int}{a b p q:Nat} (h:Zdi f a b p) (k:Zdi f a b q):p=q:=by
 obtain⟨h1,h2,h3,h4⟩:=h
 obtain⟨k1,k2,k3,k4⟩:=k
 rcases Nat.lt_trichotomy p q with z|z|z
 ·have:=k3 p h1 z
  have:=h4 q z k2
  omega
 ·exact z
 ·have:=h3 q k1 z
  have:=k4 p z h2
  omega
theorem Zdi.join {f:Nat->Int}{a m a' b p q:Nat} (h:Zdi f a m p) (k:Zdi f a' b q) (h1:a<=a') (h2:a'<=m+1) (h3:m<=b):Zdi f a b (if f q<f p then q else p):=by
 obtain⟨p1,p2,p3,p4⟩:=h
 obtain⟨q1,q2,q3,q4⟩:=k
 have pm:∀r,a<=r->r<=m->f p<=f r:=λr r1 r2=>by
  rcases Nat.lt_trichotomy r p with z|z|z
  ·exact Int.le_of_lt (p3 r r1 z)
  ·rw[z];exact Int.le_refl _
  ·exact p4 r z r2
 have qm:∀r,a'<=r->r<=b->f q<=f r:=λr r1 r2=>by
  rcases Nat.lt_trichotomy r q with z|z|z
  ·exact Int.le_of_lt (q3 r r1 z)
  ·rw[z];exact Int.le_refl _
  ·exact q4 r z r2
 split
 ·rename_i hlt
  refine⟨by omega,q2,λr r1 r2=>?_,λr r1 r2=>qm r (by omega) r2⟩
  by_cases z:a'<=r
  ·exact q3 r z r2
  ·have:=pm r r1 (by omega);omega
 ·rename_i hle
  refine⟨p1,by omega,p3,λr r1 r2=>?_⟩
  by_cases z:r<=m
  ·exact p4 r r1 z
  ·have:=qm r (by omega) r2;omega
noncomputable def ZV (f:Nat->Int) (a:Nat):Nat->Nat
 |0=>a
 |c+1=>if f (a+c+1)<f (ZV f a c)then a+c+1 else ZV f a c
theorem Zkp (f:Nat->Int) (a:Nat):Zdi f a a a:=⟨Nat.le_refl _,Nat.le_refl _,λq h1 h2=>by omega,λq h1 h2=>by omega⟩
theorem Zdj (f:Nat->Int) (a c:Nat):Zdi f a (a+c) (ZV f a c):=by
 induction c with
 |zero=>exact Zkp f a
 |succ c ih =>
  rw[ZV]
  exact ih.join (Zkp f (a+c+1)) (by omega) (by omega) (by omega)
noncomputable def nth (ns:List Int) (i:Nat):Int:=ns.getD i 0
theorem ZI {ns:List Int}{i:Nat} (h:i<ns.length):atI (ns.map V.int) (i:Int)=some (V.int (nth ns i)):=by
 rw[Zef rfl (by simpa using h)]
 simp[nth,List.getD_eq_getElem?_getD,h]
theorem ZoI (f:Nat->Int) (a c:Nat):a<=ZV f a c/\ZV f a c<=a+c:=⟨(Zdj f a c).1,(Zdj f a c).2.1⟩
noncomputable def Tall (n i:Nat):Prop:=n<2 ^ i/\∀j,j<i->2 ^ j<=n
theorem Tall.unique {n i j:Nat} (h:Tall n i) (k:Tall n j):i=j:=by
 rcases Nat.lt_trichotomy i j with z|z|z
 ·have:=k.2 i z;have:=h.1;omega
 ·exact z
 ·have:=h.2 j z;have:=k.1;omega
noncomputable def WI (N:Nat) (Pv:Nat->St->Hp->Prop) (m:Nat) (σ:St) (H:Hp):Prop:=∃i,m=N-i/\i<=N/\Pv i σ H
theorem WI.next {N:Nat}{Pv:Nat->St->Hp->Prop}{i:Nat}:∀σ' H',(i+1<=N/\Pv (i+1) σ' H')->∃m',m'<N-i/\WI N Pv m' σ' H':=fun σ' H' h=>⟨N-(i+1),by omega,i+1,rfl,h.1,h.2⟩
theorem ZoJ {c:TT}{tb:TS}{D:Ends}{σ:St}{H:Hp} (N:Nat) (Pv:Nat->St->Hp->Prop) (h0:Pv 0 σ H)
  (hs:∀i σ H,i<=N->Pv i σ H->c σ H λb H1=>if b=true then ∃Nx:St->Hp->Prop,(∀σ' H',Nx σ' H'->∃m',m'<N-i/\WI N Pv m' σ' H')/\tb {D with nx:=Nx,ct:=Nx,bk:=D.nx} σ H1 else D.nx σ H1):Zno c tb D σ H:=by
 refine⟨WI N Pv,⟨N,0,rfl,Nat.zero_le _,h0⟩,?_⟩
 rintro m σ H ⟨i,rfl,hi,p⟩
 exact hs i σ H hi p
theorem Zh.seqT {K:Frag}{H H':Hp}{a:Addr}{xs:List V} (e:Zh H H') (h:SqT K H a xs):SqT K H' a xs:=by
 rcases h with(h|⟨o,h⟩)|h
 ·exact .inl (.inl (e _ _ h))
 ·exact .inl (.inr ⟨o,e _ _ h⟩)
 ·exact .inr h
theorem Zh.q {K:Frag}{H H':Hp}{a:Addr}{xs:List V} (e:Zh H H') (h:SqL K H a xs\/SqT K H a xs):SqL K H' a xs\/SqT K H' a xs:=h.imp e.seq e.seqT
theorem Exc.trans {p:Addr}{H H1 H2:Hp} (a:Exc p H H1) (b:Exc p H1 H2):Exc p H H2:=λc o n z=>b c o n (a c o n z)
theorem Exc.free {p q:Addr}{H H':Hp} (e:Exc p H H') (n:q≠p) (h:H' q=none):H q=none:=by
 cases z:H q with
 |none=>rfl
 |some o=>rw[e q o n z]at h;cases h
theorem Exc.Znr {p q:Addr}{H H':Hp}{o:HO} (e:Exc p H H') (h:H q=none):Exc p H (L2.upd H' q o):=λb u n z=>by
 rw[Zj (Zx z h)];exact e b u n z
theorem Exc.same {p:Addr}{H H1 H2:Hp} (a:Exc p H H1) (s:Zh H1 H2):Exc p H H2:=a.trans s.ZhY
noncomputable def Zb7 (H0 H:Hp) (l:Addr) (rs:List (List Int)):Prop:=∃as:List Addr,H l=some (.lst (as.map V.ref))/\l∉as/\as.length=rs.length/\(∀i (h1:i<as.length) (h2:i<rs.length),H as[i]=some (.lst (rs[i].map V.int)))/\H0 l=none/\∀a∈as,H0 a=none
theorem Zb7.rows {H0 H:Hp}{l:Addr}{rs:List (List Int)} (R:Zb7 H0 H l rs):Rows H l rs:=by
 obtain⟨as,h1,h2,h3,h4,_⟩:=R
 exact⟨as,h1,h2,h3,h4⟩
theorem Zb7.same {H0 H H':Hp}{l:Addr}{rs:List (List Int)} (R:Zb7 H0 H l rs) (s:Zh H H'):Zb7 H0 H' l rs:=by
 obtain⟨as,e,n,hl,h,z⟩:=R
 exact⟨as,s _ _ e,n,hl,λi h1 h2=>s _ _ (h i h1 h2),z⟩
theorem Zb7.from {H0 H1 H:Hp}{l:Addr}{rs:List (List Int)} (R:Zb7 H1 H l rs) (s:Zh H0 H1):Zb7 H0 H l rs:=by
 obtain⟨as,e,n,hl,h,z1,z2⟩:=R
 exact⟨as,e,n,hl,h,s.free z1,λa ha=>s.free (z2 a ha)⟩
theorem Zb7.push {H0 H:Hp}{l p:Addr}{rs:List (List Int)}{r:List Int}{as:List Addr} (e:H l=some (.lst (as.map V.ref))) (n:l∉as) (hl:as.length=rs.length) (h:∀i (h1:i<as.length) (h2:i<rs.length),H as[i]=some (.lst (rs[i].map V.int)))
  (z1:H0 l=none) (z2:∀a∈as,H0 a=none) (hp:H p=some (.lst (r.map V.int))) (np:p≠l) (zp:H0 p=none):Zb7 H0 (upd H l (.lst (as.map V.ref++[.ref p]))) l (rs++[r]):=by
 obtain⟨bs,q1,q2,q3,q4⟩:=Rows.push e n hl h hp np
 rw[Zd]at q1
 have e2:bs=as++[p]:=by
  have q1':(as++[p]).map V.ref=bs.map V.ref:=by
   have:=HO.lst.inj (Option.some.inj q1)
   simpa using this
  have inj:∀(u v:List Addr),u.map V.ref=v.map V.ref->u=v:=by
   intro u
   induction u with
   |nil=>intro v hv;cases v with|nil=>rfl|cons _ _=>cases hv
   |cons x u ih =>
    intro v hv
    cases v with
    |nil=>cases hv
    |cons y v =>
     rw[List.map_cons,List.map_cons]at hv
     injection hv with h1 h2
     injection h1 with h1
     rw[h1,ih v h2]
  exact(inj _ _ q1').symm
 subst e2
 refine⟨as++[p],Zd.trans (by simp),q2,q3,q4,z1,λa ha=>?_⟩
 rcases List.mem_append.mp ha with ha|ha
 ·exact z2 a ha
 ·have:a=p:=by simpa using ha
  rw[this];exact zp
theorem Zb7.nil {H:Hp}{p:Addr} (hp:H p=none):Zb7 H (upd H p (.lst [])) p []:=⟨[],Zd,by simp,rfl,λi h1 h2=>absurd h1 (by simp),hp,λa ha=>nomatch ha⟩
noncomputable def CA (n:Nat) (Pv:Nat->List V->Hp->Prop) (i m:Nat) (acc:List V) (H:Hp):Prop:=m=n-i/\i<=n/\acc.length<=i/\Pv i acc H
theorem CA.take {n:Nat}{Pv:Nat->List V->Hp->Prop}{i:Nat}{acc:List V}{v:V}{H:Hp} (hi:i<n) (hl:acc.length<=i) (h:Pv (i+1) (acc++[v]) H):∃m',m'<n-i/\CA n Pv (i+1) m' (acc++[v]) H:=⟨n-(i+1),by omega,rfl,hi,by simp;omega,h⟩
theorem ZgK {J:It}{n:Nat}{H1:Hp}{g:TG}{tt:TT}{te:TE}{σ0:St}{Q:VK} (Pv:Nat->List V->Hp->Prop) (hn:n<sizeLine) (h0:Pv 0 [] H1) (hgo:∀i acc H,Pv i acc H->i<n->J.go i H) (hstop:∀acc H,Pv n acc H->J.stop n H)
  (hb:∀i x acc H H',i<n->acc.length<=i->Pv i acc H->J.yld i H x H'->g x σ0 H' fun σ2 H2=>tt σ2 H2 λb H3=>if b=true then te σ2 H3 λv H4=>∃m',m'<n-i/\CA n Pv (i+1) m' (acc++[v]) H4 else ∃m',m'<n-i/\CA n Pv (i+1) m' acc H3)
  (hk:∀l acc H',Pv n acc H'->acc.length<=n->H' l=none->Q (.ref l) (upd H' l (.lst acc))):Zko J g tt te σ0 Q H1:=by
 refine⟨CA n Pv,⟨n,rfl,Nat.zero_le _,Nat.le_refl _,h0⟩,?_⟩
 rintro i m acc H ⟨rfl,hi,hl,p⟩
 by_cases h:i<n
 ·exact .inr ⟨hgo i acc H p h,by omega,λx H' y=>hb i x acc H H' h hl p y⟩
 ·have e:i=n:=by omega
  subst e
  exact .inl ⟨hstop acc H p,by omega,λq hq=>hk q acc H p hl hq⟩
noncomputable def IsQ (K:Frag) (H:Hp) {α:Type} (P:V->α->Prop) (v:V) (as:List α):Prop:=∃a xs,v=.ref a/\(SqL K H a xs\/SqT K H a xs)/\xs.length=as.length/\∀(j:Nat) (x:V) (y:α),xs[j]?=some x->as[j]?=some y->P x y
theorem IsQ.mono {K:Frag}{H H':Hp}{α:Type}{P P':V->α->Prop}{v:V}{as:List α} (h:IsQ K H P v as) (s:Zh H H') (hp:∀x y,P x y->P' x y):IsQ K H' P' v as:=by
 obtain⟨a,xs,e,q,l,r⟩:=h
 exact⟨a,xs,e,s.q q,l,λj x y h1 h2=>hp _ _ (r j x y h1 h2)⟩
theorem IsI.list {xs:List V}{ns:List Int} (hl:xs.length=ns.length) (h:∀(j:Nat) (x:V) (y:Int),xs[j]?=some x->ns[j]?=some y->IsI x y):xs=ns.map V.int:=by
 refine List.ext_getElem (by simpa using hl) λj h1 h2=>?_
 have h2':j<ns.length:=by simpa using h2
 rw[List.getElem_map]
 exact h j _ _ (List.getElem?_eq_getElem h1) (List.getElem?_eq_getElem h2')
theorem IsQ.at {K:Frag}{H:Hp}{α:Type}{P:V->α->Prop}{a:Addr}{as:List α} (h:IsQ K H P (.ref a) as) {j:Nat} (hj:j<as.length):∃xs x,(SqL K H a xs\/SqT K H a xs)/\atI xs (j:Int)=some x/\P x as[j]:=by
 obtain⟨b,xs,e,q,l,r⟩:=h
 cases e
 have hj':j<xs.length:=by omega
 exact⟨xs,xs[j],q,Zef rfl hj',r j _ _ (List.getElem?_eq_getElem hj') (List.getElem?_eq_getElem hj)⟩
noncomputable def ZiL (F:List V->HO) (H:Hp) (rs:List (List Int)) (acc:List V):Prop:=acc.length=rs.length/\∀(j:Nat) (x:V) (ns:List Int),acc[j]?=some x->rs[j]?=some ns->∃a,x=.ref a/\H a=some (F (ns.map V.int))
theorem IsQ.same {K:Frag}{H H':Hp}{v:V}{rs:List (List Int)} (h:IsQ K H (IsQ K H IsI) v rs) (s:Zh H H'):IsQ K H' (IsQ K H' IsI) v rs:=h.mono s λx y q=>q.mono s λ_ _ z=>z
theorem ZiL.same {F:List V->HO}{H H':Hp}{rs:List (List Int)}{acc:List V} (h:ZiL F H rs acc) (s:Zh H H'):ZiL F H' rs acc:=⟨h.1,λj x ns h1 h2=>by obtain⟨a,e1,e2⟩:=h.2 j x ns h1 h2;exact⟨a,e1,s _ _ e2⟩⟩
theorem Zdv.some {H:Hp}{p:Addr} (P:Zdv H p):H p≠none:=λz=>by obtain⟨x,y,e,_⟩:=P;rw[z]at e;cases e
section
variable {X:Cx}
noncomputable def Zk8:V->List V->Hp->VK->Prop:=λx vs H Q=>∃l xs i y,x=.ref l/\vs=[.int i,y]/\H l=some (.lst xs)/\0<=i/\i<2 ^ 62/\xs.length<sizeLine/\Q .non (upd H l (.lst (xs.take i.toNat++y::xs.drop i.toNat)))
theorem Vals.Zrv:∀{xs:List V}{us:List Value} (k:Nat),Vals xs us->Vals (xs.take k) (us.take k)
 |_,_,0,_=>by simp;exact .nil
 |_,_,_+1,.nil=>.nil
 |_,_,k+1,.cons r h=>.cons r (Vals.Zrv k h)
theorem Vals.dropN:∀{xs:List V}{us:List Value} (k:Nat),Vals xs us->Vals (xs.drop k) (us.drop k)
 |_,_,0,h=>by simpa using h
 |_,_,_+1,.nil=>.nil
 |_,_,k+1,.cons _ h=>Vals.dropN k h
theorem Zpg:MtM X "list.insert" Zk8:=by
 intro pins s σ H x vs v us Q I rx rv h
 obtain⟨l,xs,i,y,rfl,rfl,hH,h1,h2,hz,q⟩:=h
 cases rx
 obtain⟨u,u2,rfl,ru,ru2⟩:=rv.two
 obtain⟨t,rfl⟩:=ru
 obtain⟨z,its,n,r,hl,e⟩:=I.lstM hH
 have hf:¬ (!Builtin.List.listFitsIndex i)=true:=by
  unfold Builtin.List.listFitsIndex
  have a1:decide (-(2 ^ 63:Int)<=i)=true:=decide_eq_true (by omega)
  have a2:decide (i<(2 ^ 63:Int))=true:=decide_eq_true (by omega)
  rw[a1,a2];decide
 refine call_meets F.slot_list_insert ⟨_,e,rfl⟩ F.entry_list_insert (F.args_list_insert_3 _ _ _) (AutoListH.list_insert_list_int_val_1 l its.toArray n i t u2 hf (by rw[List.size_toArray];omega)) ⟨e,?_⟩
 refine⟨.non,_,I.lset (its':=its.take i.toNat++u2::its.drop i.toNat) (ys:=xs.take i.toNat++y::xs.drop i.toNat) hH e ?_ ((r.Zrv _).append (.cons ru2 (r.dropN _))) ?_,rfl,q⟩
 ·show((its.toArray.extract 0 (if i<0 then (i+((its.toArray.size:Nat):Int)).toNat else min i.toNat its.toArray.size)).push u2++its.toArray.extract (if i<0 then (i+((its.toArray.size:Nat):Int)).toNat else min i.toNat its.toArray.size))=_
  rw[if_neg (by omega)]
  have e1:its.take (min i.toNat its.length)=its.take i.toNat:=by
   by_cases hh:i.toNat<=its.length
   ·rw[Nat.min_eq_left hh]
   ·rw[Nat.min_eq_right (by omega),List.take_of_length_le (by omega),List.take_of_length_le (by omega)]
  have e2:its.drop (min i.toNat its.length)=its.drop i.toNat:=by
   by_cases hh:i.toNat<=its.length
   ·rw[Nat.min_eq_left hh]
   ·rw[Nat.min_eq_right (by omega),List.drop_of_length_le (by omega),List.drop_of_length_le (by omega)]
  apply Array.ext'
  simp[e1,e2]
  exact List.take_of_length_le (by rw[List.length_drop];omega)
 ·rw[List.length_append,List.length_cons,List.length_take,List.length_drop];omega
noncomputable def Zns (K:Frag):V->List V->Hp->VK->Prop:=λx vs H Q=>∃(l:Addr) (ns:List Int) (k:Int),x=.ref l/\vs=[.int k]/\SqL K H l (ns.map V.int)/\ns.length<=100000/\k∈ns/\Q (.int (ns.idxOf k:Nat)) H
theorem Zrw {K:Frag} (hK:X.K=K):MtM X "list.index" (Zns K):=by
 subst hK
 intro pins s σ H x vs v us Q I rx rv h
 obtain⟨l,ns,k,rfl,rfl,hH,hz,hk,q⟩:=h
 cases rx
 obtain⟨u,rfl,ru⟩:=rv.one
 obtain⟨t,rfl⟩:=ru
 obtain⟨its,r,pl,_⟩:=I.list hH
 have hi:IntsAre its ns:=intsAre_of r
 have hlen:=r.length
 rw[List.length_map]at hlen
 obtain⟨⟨cls,dd,data,sl⟩,ho,hc,n,hd⟩:=pl.isList
 simp only at hc hd
 subst hc hd
 have hj:ns.idxOf k<ns.length:=List.idxOf_lt_length_iff.mpr hk
 refine call_meets F.slot_list_index ⟨_,ho,rfl⟩ F.entry_list_index (F.args_list_index_2 _ _)
  (SeqAt.list_indexAt l its.toArray n dd sl (.int k t) (isInt k) (ns.idxOf k) (by rw[List.size_toArray];omega) (by omega) ?_ ?_) ⟨ho,λy hy=>(eq_isInt k t hi y (by simpa using hy)).at _ _,⟨.int _,H,I.tok _,⟨_,rfl⟩,q⟩⟩
 ·show isInt k its[ns.idxOf k]=true
  rw[isInt_at k hi _ (by omega) hj]
  simpa using List.getElem_idxOf hj
 ·intro j hjs hlt
  show isInt k its[j]=false
  rw[isInt_at k hi j (by simpa using hjs) (by omega)]
  exact ne_of_lt_idxOf hlt _
end
theorem Ztu (xs:List V) (a b:Nat) (h1:a<=b) (h2:b<=xs.length):Ze8 xs (some (a:Int)) (some (b:Int))=(xs.drop a).take (b-a):=by
 unfold Ze8 HT.sIx
 have e1:min a xs.length=a:=Nat.min_eq_left (by omega)
 have e2:min b xs.length=b:=Nat.min_eq_left h2
 simp[e1,e2]
 rw[if_neg (by omega),if_neg (by omega)]
noncomputable def Zz (H:Hp) (p:Addr):Prop:=∃x:Int,H p=some (.lst [.int x])/\0<=x
theorem Zz.ne {H:Hp}{p q:Addr} (P:Zz H p) (h:H q=none):q≠p:=by
 obtain⟨x,e,_⟩:=P
 exact(Zx e h).symm
theorem Zz.same {H H':Hp}{p:Addr} (P:Zz H p) (s:Zh H H'):Zz H' p:=by
 obtain⟨x,e,r⟩:=P
 exact⟨x,s _ _ e,r⟩
theorem Zz.upd {H:Hp}{p q:Addr}{o:HO} (P:Zz H p) (h:H q=none):Zz (L2.upd H q o) p:=P.same ((Zh.refl H).upd h)
theorem Zz.Znr {H:Hp}{p q:Addr}{o:HO} (P:Zz H p) (h:q≠p):Zz (L2.upd H q o) p:=by
 obtain⟨x,e,r⟩:=P
 exact⟨x,by rw[Zj h.symm];exact e,r⟩
theorem Zz.some {H:Hp}{p:Addr} (P:Zz H p):H p≠none:=λz=>by obtain⟨x,e,_⟩:=P;rw[z]at e;cases e
theorem cp60:ZlU 10 60:=by unfold ZlU;decide
theorem qm1:IntMulOk (10 ^ Int.toNat 60) (10 ^ Int.toNat 60):=Zk6 (by decide +kernel) (by decide +kernel)
theorem qm2:IntMulOk (10 ^ Int.toNat 60*10 ^ Int.toNat 60) (10 ^ Int.toNat 60):=Zk6 (by decide +kernel) (by decide +kernel)
theorem qm3:IntMulOk (10 ^ Int.toNat 60*10 ^ Int.toNat 60*10 ^ Int.toNat 60) (10 ^ Int.toNat 60):=Zk6 (by decide +kernel) (by decide +kernel)
theorem qm4:(0:Int)<10 ^ Int.toNat 60*10 ^ Int.toNat 60*10 ^ Int.toNat 60*10 ^ Int.toNat 60:=by decide +kernel
end L2
namespace L2
noncomputable def Z7 (f:Nat->Int) (p q:Nat):Prop:=q<p/\f q<=f p/\∀r,q<r->r<p->f p<f r
noncomputable def Zao (f:Nat->Int) (n p r:Nat):Prop:=p<r/\r<n/\f r<f p/\∀s,p<s->s<r->f p<=f s
noncomputable def ZbN (f:Nat->Int) (p:Nat):Prop:=∀q,q<p->f p<f q
noncomputable def Zbx (f:Nat->Int) (n p:Nat):Prop:=∀r,p<r->r<n->f p<=f r
noncomputable def ZN (f:Nat->Int) (n p:Nat) (e:Int):Prop :=
 (ZbN f p/\Zbx f n p/\e=-1)\/(∃q,Z7 f p q/\Zbx f n p/\e=q)\/(∃r,ZbN f p/\Zao f n p r/\e=r) \/
 ∃q r,Z7 f p q/\Zao f n p r/\e=if f q<=f r then (r:Int)else q
theorem Zl6 {P:Nat->Prop} [DecidablePred P] (i:Nat):∀d r,r+d=i->P r->∃t,r<=t/\t<=i/\P t/\∀s,t<s->s<=i->¬ P s:=by
 intro d
 induction d with
 |zero=>intro r e h;exact⟨r,Nat.le_refl _,by omega,h,λs h1 h2=>by omega⟩
 |succ d ih =>
  intro r e h
  by_cases hx:∃t,r<t/\t<=i/\P t
  ·obtain⟨t,h1,h2,h3⟩:=hx
   -- step to r+1 by cases
   by_cases h4:P (r+1)
   ·obtain⟨u,u1,u2,u3,u4⟩:=ih (r+1) (by omega) h4
    exact⟨u,by omega,u2,u3,u4⟩
   ·-- go on from the next one
    have gen:∀k t,t+k=i->r<t->P t->∃u,r<=u/\u<=i/\P u/\∀s,u<s->s<=i->¬ P s:=by
     intro k
     induction k with
     |zero=>intro t e h1 h3;exact⟨t,by omega,by omega,h3,λs h1 h2=>by omega⟩
     |succ k ihk =>
      intro t e h1 h3
      by_cases hy:∃s,t<s/\s<=i/\P s
      ·-- the last one of the rest
       have key:∀m,m<=i->(∃s,t<s/\s<=m/\P s)->∃u,t<u/\u<=m/\P u/\∀s,u<s->s<=m->¬ P s:=by
        intro m
        induction m with
        |zero=>rintro _ ⟨s,h5,h6,_⟩;omega
        |succ m ihm =>
         rintro hm ⟨s,h5,h6,h7⟩
         by_cases hp:P (m+1)
         ·exact⟨m+1,by omega,Nat.le_refl _,hp,λs h1 h2=>by omega⟩
         ·have hs:s<=m:=by
           rcases Nat.lt_or_ge m s with z|z
           ·have:s=m+1:=by omega
            rw[this]at h7;exact absurd h7 hp
           ·exact z
          obtain⟨u,u1,u2,u3,u4⟩:=ihm (by omega) ⟨s,h5,hs,h7⟩
          refine⟨u,u1,by omega,u3,λs' h1 h2=>?_⟩
          by_cases e:s'=m+1
          ·rw[e];exact hp
          ·exact u4 s' h1 (by omega)
       obtain⟨u,u1,u2,u3,u4⟩:=key i (Nat.le_refl _) hy
       exact⟨u,by omega,u2,u3,u4⟩
      ·exact⟨t,by omega,by omega,h3,λs h1 h2 h5=>hy ⟨s,h1,h2,h5⟩⟩
    exact gen (i-t) t (by omega) h1 h3
  ·exact⟨r,Nat.le_refl _,by omega,h,λs h1 h2 h3=>hx ⟨s,h1,h2,h3⟩⟩
theorem Znt {P:Nat->Prop} [DecidablePred P] {n r:Nat} (hr:r<n) (h:P r):∃t,r<=t/\t<n/\P t/\∀s,t<s->s<n->¬ P s:=by
 obtain⟨t,h1,h2,h3,h4⟩:=Zl6 (P:=P) (n-1) (n-1-r) r (by omega) h
 exact⟨t,h1,by omega,h3,λs a b=>h4 s a (by omega)⟩
noncomputable def ZiM (f:Nat->Int) (i:Nat) (sp:List Nat):Prop:=sp.Pairwise (· < ·)/\∀q,q∈sp↔q<i/\∀r,q<r->r<i->f q<=f r
theorem Zix (f:Nat->Int) (p:Nat):ZbN f p\/∃q,Z7 f p q:=by
 by_cases h:∃q,q<p/\f q<=f p
 ·obtain⟨q,h1,h2⟩:=h
  obtain⟨t,_,t2,t3,t4⟩:=Znt (P:=λq=>f q<=f p) h1 h2
  exact .inr ⟨t,t2,t3,λr a b=>by have:=t4 r a b;omega⟩
 ·exact .inl λq hq=>by
   have:¬ (f q<=f p):=λz=>h ⟨q,hq,z⟩
   omega
theorem Zph {f:Nat->Int}{i p q:Nat} (hp:p<i) (ho:∀r,p<r->r<i->f p<=f r) (h:Z7 f p q):(∀r,q<r->r<i->f q<=f r)/\∀s,q<s->s<p->¬ ∀r,s<r->r<i->f s<=f r:=by
 obtain⟨h1,h2,h3⟩:=h
 refine⟨λr a b=>?_,λs a b z=>?_⟩
 ·rcases Nat.lt_trichotomy r p with c|c|c
  ·have:=h3 r a c;omega
  ·rw[c];exact h2
  ·have:=ho r c b;omega
 ·have:=z p b hp
  have:=h3 s a b
  omega
theorem Znu {f:Nat->Int}{i:Nat}{A B:List Nat} (hs:ZiM f i (A++B)) (hA:∀q∈A,f q<=f i) (hB:∀q∈B,f i<f q) :
  ZiM f (i+1) (A++[i])/\ZN f (i+1) i (match A.getLast? with|some q=>(q:Int)|none=>-1)/\∀p e,p<i->ZN f i p e->ZN f (i+1) p (if B.head?=some p then (i:Int)else e):=by
 obtain⟨hso,hm⟩:=hs
 have hAB:=List.pairwise_append.mp hso
 have noNx:Zbx f (i+1) i:=λr a b=>by omega
 refine⟨⟨?_,λq=>?_⟩,?_,λp e hp he=>?_⟩
 ·refine List.pairwise_append.mpr ⟨hAB.1,List.pairwise_singleton _ _,λa ha b hb=>?_⟩
  have:b=i:=by simpa using hb
  rw[this]
  exact((hm a).mp (List.mem_append_left _ ha)).1
 ·rw[List.mem_append,List.mem_singleton]
  constructor
  ·rintro(h|h)
   ·obtain⟨h1,h2⟩:=(hm q).mp (List.mem_append_left _ h)
    refine⟨by omega,λr a b=>?_⟩
    by_cases e:r=i
    ·rw[e];exact hA q h
    ·exact h2 r a (by omega)
   ·subst h;exact⟨by omega,λr a b=>by omega⟩
  ·rintro⟨h1,h2⟩
   by_cases e:q=i
   ·exact .inr e
   ·have hq:q∈A++B:=(hm q).mpr ⟨by omega,λr a b=>h2 r a (by omega)⟩
    rcases List.mem_append.mp hq with h|h
    ·exact .inl h
    ·have:=hB q h
     have:=h2 i (by omega) (by omega)
     omega
 ·-- the elder of i
  rcases Zix f i with h|⟨q,h⟩
  ·have hA0:A=[]:=by
    cases A with
    |nil=>rfl
    |cons a r =>
     have h1:=((hm a).mp (by simp)).1
     have:=hA a (by simp)
     have:=h a h1
     omega
   rw[hA0]
   exact .inl ⟨h,noNx,rfl⟩
  ·have ho:∀r,q<r->r<i->f q<=f r:=λr a b=>by have:=h.2.2 r a b;have:=h.2.1;omega
   have hqA:q∈A:=by
    rcases List.mem_append.mp ((hm q).mpr ⟨h.1,ho⟩)with z|z
    ·exact z
    ·have:=hB q z;have:=h.2.1;omega
   have hlast:A.getLast?=some q:=by
    have hne:A≠[]:=λz=>by rw[z]at hqA;cases hqA
    rw[List.getLast?_eq_some_getLast hne]
    congr 1
    have hl:A.getLast hne∈A:=List.getLast_mem hne
    -- q<=last,and last is not past q
    by_cases e:A.getLast hne=q
    ·exact e
    ·exfalso
     have hlt:q<A.getLast hne:=by
      have hd:=List.dropLast_concat_getLast hne
      have hq2:q∈A.dropLast:=by
       rw[<-hd]at hqA
       rcases List.mem_append.mp hqA with z|z
       ·exact z
       ·exact absurd (by simpa using z) (Ne.symm e)
      have hp2:=hAB.1
      rw[<-hd]at hp2
      exact(List.pairwise_append.mp hp2).2.2 q hq2 _ (by simp)
     have h1:=((hm (A.getLast hne)).mp (List.mem_append_left _ hl)).1
     have:=h.2.2 _ hlt h1
     have:=hA _ hl
     omega
   rw[hlast]
   exact .inr (.inl ⟨q,h,noNx,rfl⟩)
 ·-- the elder of an earlier place
  have nxt:∀r,Zao f i p r->Zao f (i+1) p r:=λr ⟨a,b,c,d⟩=>⟨a,by omega,c,d⟩
  by_cases hop:Zbx f i p
  ·have hmem:p∈A++B:=(hm p).mpr ⟨hp,hop⟩
   by_cases hlt:f i<f p
   ·have hnx:Zao f (i+1) p i:=⟨hp,by omega,hlt,λs a b=>hop s a b⟩
    have hpB:p∈B:=by
     rcases List.mem_append.mp hmem with z|z
     ·have:=hA p z;omega
     ·exact z
    obtain⟨b0,Br,rfl⟩:∃b0 Br,B=b0::Br:=by
     cases B with
     |nil=>cases hpB
     |cons b0 Br=>exact⟨b0,Br,rfl⟩
    have hhead:(b0::Br).head?=some b0:=rfl
    rw[hhead]
    rcases Zix f p with hn|⟨q,hq⟩
    ·-- nothing ahead: p is the first of all
     have e0:b0=p:=by
      by_cases z:b0=p
      ·exact z
      ·exfalso
       have hpr:p∈Br:=by
        rcases List.mem_cons.mp hpB with y|y
        ·exact absurd y.symm z
        ·exact y
       have hlt2:b0<p:=(List.pairwise_cons.mp hAB.2.1).1 p hpr
       have:=((hm b0).mp (by simp)).2 p hlt2 hp
       have:=hn b0 hlt2
       omega
     rw[if_pos (by rw[e0])]
     exact .inr (.inr (.inl ⟨i,hn,hnx,rfl⟩))
    ·obtain⟨hq1,hq2⟩:=Zph hp hop hq
     have hqm:q∈A++b0::Br:=(hm q).mpr ⟨Nat.lt_trans hq.1 hp,hq1⟩
     by_cases hqi:f q<=f i
     ·-- q is kept: p is the first of B
      have e0:b0=p:=by
       by_cases z:b0=p
       ·exact z
       ·exfalso
        have hpr:p∈Br:=by
         rcases List.mem_cons.mp hpB with y|y
         ·exact absurd y.symm z
         ·exact y
        have hlt2:b0<p:=(List.pairwise_cons.mp hAB.2.1).1 p hpr
        have hb0:=(hm b0).mp (by simp)
        have hqA:q∈A:=by
         rcases List.mem_append.mp hqm with y|y
         ·exact y
         ·have:=hB q y;omega
        have hqb:q<b0:=hAB.2.2 q hqA b0 (by simp)
        exact hq2 b0 hqb hlt2 hb0.2
      rw[if_pos (by rw[e0])]
      refine .inr (.inr (.inr ⟨q,i,hq,hnx,?_⟩))
      rw[if_pos hqi]
     ·-- q goes,too: the elder stays
      have hqB:q∈b0::Br:=by
       rcases List.mem_append.mp hqm with y|y
       ·exact absurd (hA q y) hqi
       ·exact y
      have hne:b0≠p:=by
       intro z
       subst z
       rcases List.mem_cons.mp hqB with y|y
       ·have:=hq.1;omega
       ·have:=(List.pairwise_cons.mp hAB.2.1).1 q y
        have:=hq.1;omega
      rw[if_neg (by intro z;exact hne (Option.some.inj z))]
      have ee:e=q:=by
       rcases he with⟨h1,_,_⟩|⟨q',h1,_,h3⟩|⟨r,h1,_,_⟩|⟨q',r,_,h2,_⟩
       ·have:=h1 q hq.1;have:=hq.2.1;omega
       ·have:q'=q:=by
         rcases Nat.lt_trichotomy q' q with y|y|y
         ·have:=h1.2.2 q y hq.1;have:=hq.2.1;omega
         ·exact y
         ·have:=hq.2.2 q' y h1.1;have:=h1.2.1;omega
        rw[h3,this]
       ·have:=h1 q hq.1;have:=hq.2.1;omega
       ·have:=hop r h2.1 h2.2.1;have:=h2.2.2.1;omega
      refine .inr (.inr (.inr ⟨q,i,hq,hnx,?_⟩))
      rw[if_neg hqi,ee]
   ·-- still open: not of B
    have hnn:Zbx f (i+1) p:=λr a b=>by
     by_cases z:r=i
     ·rw[z];omega
     ·exact hop r a (by omega)
    have hne:B.head?≠some p:=λz=>by
     have:p∈B:=List.mem_of_head? z
     have:=hB p this
     omega
    rw[if_neg hne]
    rcases he with⟨h1,_,h3⟩|⟨q,h1,_,h3⟩|⟨r,_,h2,_⟩|⟨q,r,_,h2,_⟩
    ·exact .inl ⟨h1,hnn,h3⟩
    ·exact .inr (.inl ⟨q,h1,hnn,h3⟩)
    ·have:=hop r h2.1 h2.2.1;have:=h2.2.2.1;omega
    ·have:=hop r h2.1 h2.2.1;have:=h2.2.2.1;omega
  ·-- shut already
   have hne:B.head?≠some p:=λz=>hop ((hm p).mp (List.mem_append_right _ (List.mem_of_head? z))).2
   rw[if_neg hne]
   rcases he with⟨_,h2,_⟩|⟨q,_,h2,_⟩|⟨r,h1,h2,h3⟩|⟨q,r,h1,h2,h3⟩
   ·exact absurd h2 hop
   ·exact absurd h2 hop
   ·exact .inr (.inr (.inl ⟨r,h1,nxt r h2,h3⟩))
   ·exact .inr (.inr (.inr ⟨q,r,h1,nxt r h2,h3⟩))
end L2
namespace L2
open PySem PySem.Spec PyProof.Rows PySem.W
theorem ZiN {α β:Type}{f g:α->Option β}:∀{l:List α},(∀x∈l,f x=g x)->l.filterMap f=l.filterMap g
 |[],_=>rfl
 |x::r,h=>by rw[List.filterMap_cons,List.filterMap_cons,h x (List.mem_cons_self ..),ZiN λy hy=>h y (List.mem_cons_of_mem _ hy)]
theorem Zpi (its:List Value) (k:Nat) (hk:k<=its.length) (start:Nat):(its.zipIdx start).filterMap (λxk=>if (decide (((start+k:Nat):Int)<=(xk.2:Int))&&decide ((xk.2:Int)<((start+its.length:Nat):Int))&&(((xk.2:Int)-((start+k:Nat):Int)) % 1==0))=true then none else some xk.1)=its.take k:=by
 induction its generalizing k start with
 |nil=>simp
 |cons x r ih =>
  rw[List.zipIdx_cons,List.filterMap_cons]
  cases k with
  |zero =>
   have h1:(decide (((start+0:Nat):Int)<=(start:Int))&&decide ((start:Int)<((start+(x::r).length:Nat):Int))&&(((start:Int)-((start+0:Nat):Int)) % 1==0))=true:=by
    simp;omega
   simp only[h1,if_true]
   have:=ih 0 (by omega) (start+1)
   rw[List.take_zero]at this⊢
   rw[<-this]
   refine ZiN λxk hxk=>?_
   have hm:=List.mem_zipIdx hxk
   have e1:(decide (((start+0:Nat):Int)<=(xk.2:Int)))=(decide (((start+1+0:Nat):Int)<=(xk.2:Int))):=by
    rw[decide_eq_decide];omega
   have e2:((start+(x::r).length:Nat):Int)=((start+1+r.length:Nat):Int):=by simp;omega
   have e3:(((xk.2:Int)-((start+0:Nat):Int)) % 1==0)=(((xk.2:Int)-((start+1+0:Nat):Int)) % 1==0):=by simp[Int.emod_one]
   rw[e1,e2,e3]
  |succ k =>
   have h1:(decide (((start+(k+1):Nat):Int)<=(start:Int))&&decide ((start:Int)<((start+(x::r).length:Nat):Int))&&(((start:Int)-((start+(k+1):Nat):Int)) % 1==0))=false:=by
    have:decide (((start+(k+1):Nat):Int)<=(start:Int))=false:=decide_eq_false (by omega)
    rw[this];rfl
   simp only[h1,Bool.false_eq_true,if_false]
   rw[List.take_succ_cons]
   congr 1
   have:=ih k (by simpa using hk) (start+1)
   rw[<-this]
   refine ZiN λxk hxk=>?_
   have e1:((start+(k+1):Nat):Int)=((start+1+k:Nat):Int):=by omega
   have e2:((start+(x::r).length:Nat):Int)=((start+1+r.length:Nat):Int):=by simp;omega
   rw[e1,e2]
section
variable {X:Cx}{e st:Expr}{te ts:TE}{pos pos1 p2:Pos}
noncomputable def Zrx (te ts:TE):TS:=λD σ H=>te σ H λx H1=>ts σ H1 λz H2=>∃(l:Addr) (xs:List V) (k:Nat),x=.ref l/\z=.int k/\H2 l=some (.lst xs)/\k<=xs.length/\D.nx σ (upd H2 l (.lst (xs.take k)))
theorem Znv (he:PE X e te) (hs:PE X st ts):PS X (.Delete [.Subscript e (.Slice (some st) none none p2) pos1] pos) (Zrx te ts):=by
 intro pins s σ H D I h
 refine wpAny_Delete (wpAny_deleteEach_cons ?_)
 show wpAny _ _ (eval e X.env >>= λov=>holding [ov] (eval (.Slice (some st) none none p2) X.env) >>= λiv=>(do standAt pos1;holding [ov,iv] (delItem ov iv);release [ov,iv] [])) _ _ _
 refine wpAny_bind (thn (he pins s σ H _ I h) λv s1 ⟨x,H1,I1,r1,q1⟩=>?_)
 refine wpAny_bind (wpAny_holding ?_)
 refine wpAny_Slice ?_
 rw[evalPart_some]
 refine thn (hs pins s1 σ H1 _ I1 q1) λvs s2 ⟨z,H2,I2,r2,l,xs,k,e1,e2,hx,hk,q⟩=>?_
 subst e1 e2
 obtain⟨tk,rfl⟩:=r2
 cases r1
 rw[evalPart_none]
 refine wpAny_pure ?_
 refine wpAny_pure ?_
 have I4:Inv X pins σ H2 {s2 with heap:=s2.heap.push {cls:=.type "slice",data:=.fields #[.int k tk,.none,.none]}}:=I2.kept (t':=s2.toks) λb ob q=>Heap.get?_push_of_some _ q
 have hsl:({s2 with heap:=s2.heap.push {cls:=.type "slice",data:=.fields #[.int k tk,.none,.none]}}:Shared).heap.get? s2.heap.objs.size=some {cls:=.type "slice",data:=.fields #[.int k tk,.none,.none]}:=Heap.get?_push_size _ rfl
 obtain⟨z,its,n,r,hlen,hob⟩:=I4.lstM hx
 generalize ({s2 with heap:=s2.heap.push {cls:=.type "slice",data:=.fields #[.int k tk,.none,.none]}}:Shared)=s4 at I4 hsl hob⊢
 have hT:s4.TypeIs (.ref l) "list":=⟨_,hob,rfl⟩
 have hTs:s4.TypeIs (.ref s2.heap.objs.size) "slice":=⟨_,hsl,rfl⟩
 refine wpAny_bind (wpAny_standAt (wpAny_bind (wpAny_holding ?_)))
 refine wpAny_delItem_slot hT (by decide) F.slot_list_delitem (wpAny_call_entry F.slot_list_delitem hT F.entry_list_delitem ?_ (F.args_list_delitem_2 _ _))
 show wpAny _ _ (Builtin.List.listSubscript? (.ref s2.heap.objs.size) >>= _) _ _ s4
 refine wpAny_bind ?_;unfold Builtin.List.listSubscript?;refine wpAny_bind (wpAny_specialOf hTs slice_no_index ?_)
 simp only[Option.isNone_none,if_true];refine wpAny_pure ?_
 show wpAny _ _ (typeOf (.ref s2.heap.objs.size) >>= _) _ _ s4
 refine wpAny_bind (wpAny_typeOf hTs ?_);rw[if_neg (by decide),listSliceParts_eq]
 refine wpAny_bind (wpAny_bind (wpAny_field hsl rfl (x:=.none) rfl (wpAny_bind (wpAny_listPart (k:=none) .none ?_))));rw[if_neg (show ¬ ((rawPart none==rawInt 0)=true)from Bool.false_ne_true)]
 refine wpAny_bind (wpAny_field hsl rfl (x:=.int k tk) rfl (wpAny_bind (wpAny_listPart (.int (k:Int) tk) ?_)))
 refine wpAny_bind (wpAny_field hsl rfl (x:=.none) rfl (wpAny_bind (wpAny_listPart (k:=none) .none (wpAny_pure ?_))))
 refine wpAny_bind (m:=Builtin.List.listItems (.ref l)) ?_;unfold Builtin.List.listItems
 refine wpAny_bind (wpAny_seqItems hob rfl (wpAny_pure ?_));refine wpAny_bind (wpAny_of_eq (sliceIndices_raw (some (k:Int)) none none its.toArray.size (by simp)) (wpAny_bind (wpAny_rule ?_)))
 have hb:sliceBounds (some (k:Int)) none none its.toArray.size=((k:Int),((its.length:Nat):Int),1):=by
  unfold sliceBounds
  simp
  omega
 rw[hb]
 have hf:∀f:Array Value->Array Value,(∀ys:Array Value,f ys=(ys.toList.zipIdx.filterMap λxk=>if (decide ((k:Int)<=(xk.2:Int))&&decide ((xk.2:Int)<((its.length:Nat):Int))&&(((xk.2:Int)-(k:Int)) % 1==0))=true then none else some xk.1).toArray)->f its.toArray=(its.take k).toArray:=λf h=>by
  rw[h]
  congr 1
  have:=Zpi its k (by omega) 0
  simpa using this
 refine wpAny_bind (m:=updateSeq l _) ?_
 refine wpAny_updateSeq (n:=n) hob rfl ?_ (by rw[List.size_toArray];omega) ?_
 ·refine wpAny_bind (wpAny_letGo (wpAny_pure ⟨_,rfl,?_⟩))
  refine wpAny_release (wpAny_deleteEach_nil ⟨σ,_,I4.lset hx hob (hf _ λys=>rfl) (r.Zrv k) ?_,q⟩)
  rw[List.length_take];omega
 ·rw[List.size_toArray]
  refine Nat.le_trans (List.length_filterMap_le _ _) ?_
  rw[List.length_zipIdx]
  show its.length<=sizeLine+1
  omega
end
theorem Z7.unique {f:Nat->Int}{p q q':Nat} (h:Z7 f p q) (k:Z7 f p q'):q=q':=by
 rcases Nat.lt_trichotomy q q' with z|z|z
 ·have:=h.2.2 q' z k.1;have:=k.2.1;omega
 ·exact z
 ·have:=k.2.2 q z h.1;have:=h.2.1;omega
theorem Zao.unique {f:Nat->Int}{n p r r':Nat} (h:Zao f n p r) (k:Zao f n p r'):r=r':=by
 rcases Nat.lt_trichotomy r r' with z|z|z
 ·have:=k.2.2.2 r h.1 z;have:=h.2.2.1;omega
 ·exact z
 ·have:=h.2.2.2 r' k.1 z;have:=k.2.2.1;omega
theorem Z7.no {f:Nat->Int}{p q:Nat} (h:Z7 f p q) (k:ZbN f p):False:=by have:=k q h.1;have:=h.2.1;omega
theorem Zao.no {f:Nat->Int}{n p r:Nat} (h:Zao f n p r) (k:Zbx f n p):False:=by have:=k r h.1 h.2.1;have:=h.2.2.1;omega
theorem ZN.unique {f:Nat->Int}{n p:Nat}{e e':Int} (h:ZN f n p e) (k:ZN f n p e'):e=e':=by
 rcases h with⟨h1,h2,h3⟩|⟨q,h1,h2,h3⟩|⟨r,h1,h2,h3⟩|⟨q,r,h1,h2,h3⟩ <;>
 rcases k with⟨k1,k2,k3⟩|⟨q',k1,k2,k3⟩|⟨r',k1,k2,k3⟩|⟨q',r',k1,k2,k3⟩
 ·rw[h3,k3]
 ·exact(k1.no h1).elim
 ·exact(k2.no h2).elim
 ·exact(k1.no h1).elim
 ·exact(h1.no k1).elim
 ·rw[h3,k3,h1.unique k1]
 ·exact(h1.no k1).elim
 ·exact(k2.no h2).elim
 ·exact(h2.no k2).elim
 ·exact(k1.no h1).elim
 ·rw[h3,k3,h2.unique k2]
 ·exact(k1.no h1).elim
 ·exact(h1.no k1).elim
 ·exact(h2.no k2).elim
 ·exact(h1.no k1).elim
 ·rw[h3,k3,h1.unique k1,h2.unique k2]
noncomputable def Zw (ns:List Int) (es:List Int):Prop:=es.length=ns.length/\∀p,p<ns.length->ZN (nth ns) ns.length p (es.getD p 0)
theorem Zw.unique {ns es es':List Int} (h:Zw ns es) (k:Zw ns es'):es=es':=by
 refine List.ext_getElem (by rw[h.1,k.1]) λj h1 h2=>?_
 have hj:j<ns.length:=by rw[<-h.1];exact h1
 have:=(h.2 j hj).unique (k.2 j hj)
 simpa[List.getD_eq_getElem?_getD,h1,h2]using this
noncomputable def GoodS (f:Nat->Int) (n:Nat) (a b e:Int):Prop:=0<=a/\a<=b+1/\b<n/\(∀k:Nat,a=((k+1:Nat):Int)->∀q:Nat,a<=q->(q:Int)<=b->f k<=f q)/\(∀k:Nat,b+1=(k:Int)->k<n->∀q:Nat,a<=q->(q:Int)<=b->f k<f q) /\
 e=(if a=0 then (if b+1=n then -1 else b+1)else if b+1=n then a-1 else if f (a-1).toNat<=f (b+1).toNat then b+1 else a-1)
noncomputable def Zk9 (H:Hp) (l:Addr) (st:List (Int×Int×Int)):Prop:=∃qs:List Addr,H l=some (.lst (qs.map V.ref))/\qs.length=st.length/\∀(j:Nat) (q:Addr) (x:Int×Int×Int),qs[j]?=some q->st[j]?=some x->H q=some (.tup [.int x.1,.int x.2.1,.int x.2.2])
theorem Zk9.same {H H':Hp}{l:Addr}{st:List (Int×Int×Int)} (S:Zk9 H l st) (s:Zh H H'):Zk9 H' l st:=by
 obtain⟨qs,h1,h2,h3⟩:=S
 exact⟨qs,s _ _ h1,h2,λj q x a b=>s _ _ (h3 j q x a b)⟩
theorem Ztv {c:TT}{tb:TS}{D:Ends}{σ:St}{H:Hp} (Pv:Nat->St->Hp->Prop) (m0:Nat) (h0:Pv m0 σ H)
  (hs:∀m σ H,Pv m σ H->c σ H λb H1=>if b=true then ∃Nx:St->Hp->Prop,(∀σ' H',Nx σ' H'->∃m',m'<m/\Pv m' σ' H')/\tb {D with nx:=Nx,ct:=Nx,bk:=D.nx} σ H1 else D.nx σ H1):Zno c tb D σ H:=⟨Pv,⟨m0,h0⟩,hs⟩
end L2
namespace L2
noncomputable def Over (f:Nat->Int) (o p:Nat):Prop:=(o<p/\∀r,o<r->r<=p->f o<=f r)\/(p<o/\∀r,p<=r->r<o->f o<f r)
theorem Over.irrefl {f:Nat->Int}{p:Nat}:¬ Over f p p:=by rintro(⟨h,_⟩|⟨h,_⟩)<;>omega
theorem Over.ne {f:Nat->Int}{o p:Nat} (h:Over f o p):o≠p:=λz=>Over.irrefl (z▸h)
theorem Over.trans {f:Nat->Int}{o e p:Nat} (h:Over f o e) (k:Over f e p):Over f o p:=by
 rcases h with⟨h1,h2⟩|⟨h1,h2⟩<;>rcases k with⟨k1,k2⟩|⟨k1,k2⟩
 ·refine .inl ⟨by omega,λr r1 r2=>?_⟩
  by_cases z:r<=e
  ·exact h2 r r1 z
  ·have:=k2 r (by omega) r2;have:=h2 e h1 (Nat.le_refl _);omega
 ·have he:=h2 e h1 (Nat.le_refl _)
  rcases Nat.lt_trichotomy o p with z|z|z
  ·exact .inl ⟨z,λr r1 r2=>h2 r r1 (by omega)⟩
  ·have:=k2 p (Nat.le_refl _) k1;subst z;omega
  ·exact .inr ⟨z,λr r1 r2=>by have:=k2 r r1 (by omega);omega⟩
 ·have he:=h2 e (Nat.le_refl _) h1
  rcases Nat.lt_trichotomy o p with z|z|z
  ·exact .inl ⟨z,λr r1 r2=>by have:=k2 r (by omega) r2;omega⟩
  ·have:=k2 p k1 (Nat.le_refl _);subst z;omega
  ·exact .inr ⟨z,λr r1 r2=>h2 r (by omega) r2⟩
 ·refine .inr ⟨by omega,λr r1 r2=>?_⟩
  by_cases z:r<e
  ·have:=k2 r r1 z;have:=h2 e (Nat.le_refl _) h1;omega
  ·exact h2 r (by omega) r2
theorem ZcR {f:Nat->Int}{n p:Nat}{e:Int} (hp:p<n) (h:ZN f n p e):e=-1\/∃q:Nat,e=q/\q<n/\Over f q p:=by
 have pv:∀q,Z7 f p q->Over f q p:=λq h=>.inl ⟨h.1,λr r1 r2=>by
  by_cases z:r=p
  ·rw[z];exact h.2.1
  ·have:=h.2.2 r r1 (by omega);have:=h.2.1;omega⟩
 have nx:∀q,Zao f n p q->Over f q p:=λq h=>.inr ⟨h.1,λr r1 r2=>by
  by_cases z:r=p
  ·rw[z];exact h.2.2.1
  ·have:=h.2.2.2 r (by omega) r2;have:=h.2.2.1;omega⟩
 rcases h with⟨_,_,h⟩|⟨q,h1,_,h⟩|⟨r,_,h1,h⟩|⟨q,r,h1,h2,h⟩
 ·exact .inl h
 ·exact .inr ⟨q,h,by have:=h1.1;omega,pv q h1⟩
 ·exact .inr ⟨r,h,h1.2.1,nx r h1⟩
 ·by_cases z:f q<=f r
  ·rw[if_pos z]at h;exact .inr ⟨r,h,h2.2.1,nx r h2⟩
  ·rw[if_neg z]at h;exact .inr ⟨q,h,by have:=h1.1;omega,pv q h1⟩
theorem Zkq {f:Nat->Int}{n p o:Nat}{e:Int} (hp:p<n) (ho:o<n) (h:ZN f n p e) (hO:Over f o p):∃q:Nat,e=q/\q<n/\(o=q\/Over f o q):=by
 rcases hO with⟨o1,o2⟩|⟨o1,o2⟩
 ·have op:=o2 p o1 (Nat.le_refl _)
  have pv:∀q,Z7 f p q->o=q\/(o<q/\Over f o q/\f o<=f q):=λq h=>by
   rcases Nat.lt_trichotomy o q with z|z|z
   ·have:=h.1;exact .inr ⟨z,.inl ⟨z,λr r1 r2=>o2 r r1 (by omega)⟩,o2 q z (by omega)⟩
   ·exact .inl z
   ·have:=h.2.2 o z o1;omega
  rcases h with⟨h1,_,h⟩|⟨q,h1,_,h⟩|⟨r,h1,_,h⟩|⟨q,r,h1,h2,h⟩
  ·have:=h1 o o1;omega
  ·refine⟨q,h,by have:=h1.1;omega,?_⟩
   rcases pv q h1 with z|z
   ·exact .inl z
   ·exact .inr z.2.1
  ·have:=h1 o o1;omega
  ·by_cases z:f q<=f r
   ·rw[if_pos z]at h
    refine⟨r,h,h2.2.1,.inr (.inl ⟨by have:=h2.1;omega,λs s1 s2=>?_⟩)⟩
    by_cases sp:s<=p
    ·exact o2 s s1 sp
    ·by_cases sr:s=r
     ·rw[sr]
      rcases pv q h1 with y|y
      ·rw[y];exact z
      ·have:=y.2.2;omega
     ·have:=h2.2.2.2 s (by omega) (by omega);omega
   ·rw[if_neg z]at h
    refine⟨q,h,by have:=h1.1;omega,?_⟩
    rcases pv q h1 with z|z
    ·exact .inl z
    ·exact .inr z.2.1
 ·have op:=o2 p (Nat.le_refl _) o1
  have nx:∀r,Zao f n p r->o=r\/(r<o/\Over f o r/\f o<f r):=λr h=>by
   rcases Nat.lt_trichotomy o r with z|z|z
   ·have:=h.2.2.2 o o1 z;omega
   ·exact .inl z
   ·have:=h.1;exact .inr ⟨z,.inr ⟨z,λs s1 s2=>o2 s (by omega) s2⟩,o2 r (by omega) z⟩
  rcases h with⟨_,h1,h⟩|⟨q,_,h1,h⟩|⟨r,_,h1,h⟩|⟨q,r,h1,h2,h⟩
  ·have:=h1 o o1 ho;omega
  ·have:=h1 o o1 ho;omega
  ·refine⟨r,h,h1.2.1,?_⟩
   rcases nx r h1 with z|z
   ·exact .inl z
   ·exact .inr z.2.1
  ·by_cases z:f q<=f r
   ·rw[if_pos z]at h
    refine⟨r,h,h2.2.1,?_⟩
    rcases nx r h2 with z|z
    ·exact .inl z
    ·exact .inr z.2.1
   ·rw[if_neg z]at h
    refine⟨q,h,by have:=h1.1;omega,.inr (.inr ⟨by have:=h1.1;omega,λs s1 s2=>?_⟩)⟩
    by_cases sp:p<=s
    ·exact o2 s sp s2
    ·by_cases sq:s=q
     ·rw[sq]
      rcases nx r h2 with y|y
      ·rw[y];omega
      ·have:=y.2.2;omega
     ·have:=h1.2.2 s (by omega) (by omega);omega
theorem ZiO {f:Nat->Int}{n p o q:Nat} (hp:p<n) (ho:o<n) (h:ZN f n p (q:Int)):Over f o p↔o=q\/Over f o q:=by
 refine⟨λk=>?_,λk=>?_⟩
 ·obtain⟨q',e,_,z⟩:=Zkq hp ho h k
  have:q'=q:=by omega
  rw[this]at z;exact z
 ·rcases ZcR hp h with z|⟨q',e,_,z⟩
  ·omega
  ·have:q'=q:=by omega
   rw[this]at z
   rcases k with k|k
   ·rw[k];exact z
   ·exact k.trans z
theorem ZfP {f:Nat->Int}{n p o:Nat} (hp:p<n) (ho:o<n) (h:ZN f n p (-1)):¬ Over f o p:=λk=>by
 obtain⟨q',e,_,z⟩:=Zkq hp ho h k
 omega
theorem ZiP {P Q:Nat->Bool}:∀n,(∀o,o<n->P o=Q o)->(List.range n).countP P=(List.range n).countP Q
 |0,_=>rfl
 |n+1,h=>by
  rw[List.range_succ,List.countP_append,List.countP_append,ZiP n (λo ho=>h o (by omega))]
  simp[List.countP_cons,h n (by omega)]
theorem Zeh {P Q:Nat->Bool}{e:Nat}:∀n,e<n->(∀o,o<n->(P o=true↔o=e\/Q o=true))->Q e=false->(List.range n).countP P=(List.range n).countP Q+1
 |0,h,_,_=>by omega
 |n+1,h,hi,hq=>by
  rw[List.range_succ,List.countP_append,List.countP_append]
  by_cases z:e=n
  ·have e1:(List.range n).countP P=(List.range n).countP Q:=ZiP n λo ho=>by
    have:=hi o (by omega)
    cases hP:P o<;>cases hQ:Q o<;>simp[hP,hQ]at this<;>first|rfl|omega
   have hPn:P n=true:=(hi n (by omega)).mpr (.inl z.symm)
   rw[z]at hq
   rw[e1];simp[List.countP_cons,hPn,hq]
  ·rw[Zeh n (by omega) (λo ho=>hi o (by omega)) hq]
   have:=hi n (by omega)
   have hn:P n=Q n:=by
    cases hP:P n<;>cases hQ:Q n<;>simp[hP,hQ]at this<;>first|rfl|omega
   simp[List.countP_cons,hn];omega
theorem Zry {P:Nat->Bool}{e n:Nat} (he:e<n) (h:P e=false):(List.range n).countP P<n:=by
 have h1:=Zeh (P:=λo=>decide (o=e)||P o) (Q:=P) n he (λo _=>by simp) h
 have h2:=List.countP_le_length (p:=λo=>decide (o=e)||P o) (l:=List.range n)
 rw[h1,List.length_range]at h2
 omega
noncomputable def Z5 (T:List Int):Nat->Int->List Nat
 |0,_=>[]
 |k+1,at_=>if 0<=at_/\at_<T.length then at_.toNat::Z5 T k (nth T at_.toNat)else []
open Classical in
noncomputable def dep (f:Nat->Int) (n p:Nat):Nat:=(List.range n).countP λo=>decide (Over f o p)
theorem ZiQ {f:Nat->Int}{n p:Nat} (hp:p<n):dep f n p<n:=by
 classical
 exact Zry hp (by simpa using Over.irrefl)
theorem Zhl {f:Nat->Int}{n p q:Nat} (hp:p<n) (h:ZN f n p (q:Int)):dep f n p=dep f n q+1:=by
 classical
 have hq:q<n:=by
  rcases ZcR hp h with z|⟨q',e,z,_⟩<;>omega
 exact Zeh n hq (λo ho=>by simpa using ZiO hp ho h) (by simpa using Over.irrefl)
theorem Ztw {f:Nat->Int}{n p:Nat} (hp:p<n) (h:ZN f n p (-1)):dep f n p=0:=by
 classical
 unfold dep
 rw[List.countP_eq_zero]
 intro o ho
 simpa using ZfP hp (by simpa using ho) h
theorem ZiR {P Q:Nat->Bool}:∀n,(∀o,o<n->P o=true->Q o=true)->(List.range n).countP P<=(List.range n).countP Q
 |0,_=>Nat.le_refl _
 |n+1,h=>by
  rw[List.range_succ,List.countP_append,List.countP_append]
  have:=ZiR n (λo ho=>h o (by omega))
  have hn:=h n (by omega)
  cases hP:P n<;>cases hQ:Q n<;>simp[List.countP_cons,hP,hQ]at hn⊢<;>omega
theorem Zrz {f:Nat->Int}{n p q:Nat} (hp:p<n) (hq:q<n) (h:Over f q p):dep f n q<dep f n p:=by
 classical
 have h1:=Zeh (P:=λo=>decide (o=q)||decide (Over f o q)) (Q:=λo=>decide (Over f o q)) (e:=q) n hq (λo _=>by simp) (by simpa using Over.irrefl)
 have h2:=ZiR (P:=λo=>decide (o=q)||decide (Over f o q)) (Q:=λo=>decide (Over f o p)) n (λo _ ho=>by
  simp at ho⊢
  rcases ho with z|z
  ·rw[z];exact h
  ·exact z.trans h)
 rw[h1]at h2
 exact h2
theorem ZgL {ns T:List Int} (hT:Zw ns T):∀k p,p<ns.length->dep (nth ns) ns.length p<=k->(∀o,o∈Z5 T k (nth T p)↔o<ns.length/\Over (nth ns) o p)/\(Z5 T k (nth T p)).length=dep (nth ns) ns.length p
 |k,p,hp,hk=>by
  have hE:ZN (nth ns) ns.length p (nth T p):=hT.2 p hp
  rcases ZcR hp hE with z|⟨q,e,hq,hO⟩
  ·have e0:Z5 T k (nth T p)=[]:=by
    cases k with
    |zero=>rfl
    |succ k=>rw[Z5,if_neg (by omega)]
   rw[e0]
   rw[z]at hE
   exact⟨λo=>⟨λh=>by simp at h,λh=>absurd h.2 (ZfP hp h.1 hE)⟩,by rw[Ztw hp hE];rfl⟩
  ·rw[e]at hE
   have hd:=Zhl hp hE
   obtain⟨k',rfl⟩:∃k',k=k'+1:=⟨k-1,by omega⟩
   have ih:=ZgL hT k' q hq (by omega)
   have eT:((q:Nat):Int).toNat=q:=by omega
   rw[Z5,e,if_pos ⟨by omega,by rw[hT.1];omega⟩,eT]
   refine⟨λo=>?_,by simp[ih.2,hd]⟩
   rw[List.mem_cons,ih.1 o]
   refine⟨λh=>?_,λh=>?_⟩
   ·rcases h with h|h
    ·rw[h];exact⟨hq,hO⟩
    ·exact⟨h.1,h.2.trans hO⟩
   ·rcases(ZiO hp h.1 hE).mp h.2 with z|z
    ·exact .inl z
    ·exact .inr ⟨h.1,z⟩
noncomputable def Zgf (T:List Int):List Int:=(List.range T.length).map λp=>((Z5 T T.length (nth T p)).length:Int)
theorem ZgM (T:List Int):(Zgf T).length=T.length:=by simp[Zgf]
theorem Zl7 {T:List Int}{p:Nat} (h:p<T.length):nth (Zgf T) p=(Z5 T T.length (nth T p)).length:=by
 simp[nth,Zgf,List.getD_eq_getElem?_getD,h]
theorem Zpj {ns T:List Int} (hT:Zw ns T):Zw (Zgf T) T:=by
 have eL:T.length=ns.length:=hT.1
 have hd:∀p,p<ns.length->nth (Zgf T) p=(dep (nth ns) ns.length p:Int):=λp hp=>by
  rw[Zl7 (by omega),eL,(ZgL hT ns.length p hp (Nat.le_of_lt (ZiQ hp))).2]
 refine⟨(ZgM T).symm,λp hp=>?_⟩
 rw[ZgM,eL]at hp⊢
 have lt:∀q p,q<ns.length->p<ns.length->Over (nth ns) q p->nth (Zgf T) q<nth (Zgf T) p:=λq p hq hp h=>by
  rw[hd q hq,hd p hp]
  have:=Zrz hp hq h;omega
 generalize nth (Zgf T)=g at lt
 clear hd
 have pv:∀q,Z7 (nth ns) p q->Z7 g p q:=λq h=>by
  refine⟨h.1,Int.le_of_lt (lt q p (by have:=h.1;omega) hp (.inl ⟨h.1,λr r1 r2=>?_⟩)),λr r1 r2=>lt p r hp (by omega) (.inr ⟨r2,λs s1 s2=>h.2.2 s (by omega) s2⟩)⟩
  by_cases z:r=p
  ·rw[z];exact h.2.1
  ·have:=h.2.2 r r1 (by omega);have:=h.2.1;omega
 have nx:∀r,Zao (nth ns) ns.length p r->Zao g ns.length p r:=λq h=>by
  refine⟨h.1,h.2.1,lt q p h.2.1 hp (.inr ⟨h.1,λr r1 r2=>?_⟩),λs s1 s2=>Int.le_of_lt (lt p s hp (by have:=h.2.1;omega) (.inl ⟨s1,λr r1 r2=>h.2.2.2 r r1 (by omega)⟩))⟩
  by_cases z:r=p
  ·rw[z];exact h.2.2.1
  ·have:=h.2.2.2 r (by omega) r2;have:=h.2.2.1;omega
 have np:ZbN (nth ns) p->ZbN g p:=λh q hq=>lt p q hp (by omega) (.inr ⟨hq,λr r1 r2=>h r r2⟩)
 have nn:Zbx (nth ns) ns.length p->Zbx g ns.length p:=λh r r1 r2=>Int.le_of_lt (lt p r hp r2 (.inl ⟨r1,λs s1 s2=>h s s1 (by omega)⟩))
 have hE:ZN (nth ns) ns.length p (T.getD p 0):=hT.2 p hp
 rcases hE with⟨h1,h2,h⟩|⟨q,h1,h2,h⟩|⟨r,h1,h2,h⟩|⟨q,r,h1,h2,h⟩
 ·exact .inl ⟨np h1,nn h2,h⟩
 ·exact .inr (.inl ⟨q,pv q h1,nn h2,h⟩)
 ·exact .inr (.inr (.inl ⟨r,np h1,nx r h2,h⟩))
 ·refine .inr (.inr (.inr ⟨q,r,pv q h1,nx r h2,?_⟩))
  rw[h]
  have hq:q<ns.length:=by have:=h1.1;omega
  by_cases z:nth ns q<=nth ns r
  ·have:=lt q r hq h2.2.1 (.inl ⟨by have:=h1.1;have:=h2.1;omega,λs s1 s2=>by
    by_cases y:s=r
    ·rw[y];exact z
    ·by_cases y2:s=p
     ·rw[y2];exact h1.2.1
     ·have:=h1.2.1
      by_cases y3:s<p
      ·have:=h1.2.2 s s1 y3;omega
      ·have:=h2.2.2.2 s (by omega) (by omega);omega⟩)
   rw[if_pos z,if_pos (by omega)]
  ·have:=lt r q h2.2.1 hq (.inr ⟨by have:=h1.1;have:=h2.1;omega,λs s1 s2=>by
    have:=h1.2.1;have:=h2.2.2.1
    by_cases y:s=q
    ·rw[y];omega
    ·by_cases y2:s=p
     ·rw[y2];omega
     ·by_cases y3:s<p
      ·have:=h1.2.2 s (by omega) y3;omega
      ·have:=h2.2.2.2 s (by omega) (by omega);omega⟩)
   rw[if_neg z,if_neg (by omega)]
inductive StT (T:Nat->Int):Int->Int->Int->Prop
 |nil {a b e:Int}:b<a->StT T a b e
 |node {a b e:Int} (h:Nat):a<=h->(h:Int)<=b->T h=e->(∀q:Nat,a<=q->(q:Int)<=b->T q=e->q=h)->StT T a ((h:Int)-1) h->StT T ((h:Int)+1) b h->StT T a b e
theorem GoodS.out {f:Nat->Int}{n:Nat}{a b e:Int} (h:GoodS f n a b e):e<a\/b<e:=by
 obtain⟨h0,h1,h2,h3,h4,h5⟩:=h
 rw[h5]
 split
 ·split<;>omega
 ·split
  ·omega
  ·split<;>omega
inductive StG (T g:Nat->Int):Int->Int->Int->Int->Prop
 |nil {a b e m:Int}:b<a->StG T g a b e m
 |node {a b e m:Int} (h:Nat):a<=h->(h:Int)<=b->T h=e->g h=m->StG T g a ((h:Int)-1) h (m+1)->StG T g ((h:Int)+1) b h (m+1)->StG T g a b e m
theorem StG.congr {T g g':Nat->Int}{a b e m:Int} (S:StG T g a b e m):(∀q:Nat,a<=q->(q:Int)<=b->g q=g' q)->StG T g' a b e m:=by
 induction S with
 |nil z=>intro _;exact .nil z
 |node h h1 h2 h3 h4 _ _ ih1 ih2 =>
  intro k
  exact .node h h1 h2 h3 (by rw[<-k h h1 h2];exact h4) (ih1 λq q1 q2=>k q q1 (by omega)) (ih2 λq q1 q2=>k q (by omega) q2)
theorem StT.row {T:Nat->Int}{a b e:Int} (S:StT T a b e):∀m,∃g,StG T g a b e m:=by
 induction S with
 |nil z=>intro m;exact⟨λ_=>0,.nil z⟩
 |node h h1 h2 h3 h4 _ _ ih1 ih2 =>
  intro m
  obtain⟨g1,k1⟩:=ih1 (m+1)
  obtain⟨g2,k2⟩:=ih2 (m+1)
  refine⟨λq=>if q<h then g1 q else if q=h then m else g2 q,.node h h1 h2 h3 ?_ (k1.congr λq q1 q2=>?_) (k2.congr λq q1 q2=>?_)⟩
  ·show(if h<h then g1 h else if h=h then m else g2 h)=m
   rw[if_neg (by omega),if_pos rfl]
  ·show g1 q=if q<h then g1 q else if q=h then m else g2 q
   rw[if_pos (by omega)]
  ·show g2 q=if q<h then g1 q else if q=h then m else g2 q
   rw[if_neg (by omega),if_neg (by omega)]
theorem Zpk (T:List Int):(∃ns,Zw ns T)↔Zw (Zgf T) T:=⟨λ⟨_,h⟩=>Zpj h,λh=>⟨_,h⟩⟩
end L2
namespace L2
open PySem PySem.Spec PyProof.Rows PySem.W
noncomputable def Zik (es:List Int) (A B:List Nat) (i:Nat):List Int:=match A.getLast? with
 |some q=>(match B.head? with|some b=>es.set b i|none=>es).set i (q:Int)
 |none=>match B.head? with|some b=>es.set b i|none=>es
noncomputable def Zal (l:List Nat):List V:=l.map λq=>V.int (q:Nat)
theorem ZgN (l:List Int) (a p:Nat) (v:Int) (h:p<l.length):(l.set a v).getD p 0=if a=p then v else l.getD p 0:=by
 rw[List.getD_eq_getElem?_getD,List.getD_eq_getElem?_getD]
 by_cases e:a=p
 ·subst e;rw[if_pos rfl,List.getElem?_set_self h];rfl
 ·rw[if_neg e,List.getElem?_set_ne e]
theorem ZrA (es:List Int) (A B:List Nat) (i:Nat):(Zik es A B i).length=es.length:=by
 unfold Zik
 cases A.getLast?<;>cases B.head?<;>simp
theorem ZoK (es:List Int) (A B:List Nat) (i p:Nat) (hp:p<es.length) (hb:∀b,B.head?=some b->b≠i):(Zik es A B i).getD p 0=if p=i then (match A.getLast? with|some q=>(q:Int)|none=>es.getD i 0)else if B.head?=some p then (i:Int)else es.getD p 0:=by
 unfold Zik
 cases hA:A.getLast? with
 |none =>
  cases hB:B.head? with
  |none =>
   by_cases e:p=i
   ·rw[if_pos e,e]
   ·rw[if_neg e,if_neg (by simp)]
  |some b =>
   show(es.set b i).getD p 0=_
   rw[ZgN _ _ _ _ hp]
   by_cases e:p=i
   ·rw[if_pos e,if_neg (by rw[e];exact hb b hB),e]
   ·rw[if_neg e]
    by_cases e2:b=p
    ·rw[if_pos e2,if_pos (by rw[e2])]
    ·rw[if_neg e2,if_neg (by intro z;exact e2 (Option.some.inj z))]
 |some q =>
  cases hB:B.head? with
  |none =>
   show(es.set i q).getD p 0=_
   rw[ZgN _ _ _ _ hp]
   by_cases e:p=i
   ·rw[if_pos e,if_pos e.symm]
   ·rw[if_neg e,if_neg (λz=>e z.symm),if_neg (by simp)]
  |some b =>
   show((es.set b i).set i q).getD p 0=_
   rw[ZgN _ _ _ _ (by simpa using hp),ZgN _ _ _ _ hp]
   by_cases e:p=i
   ·rw[if_pos e,if_pos e.symm]
   ·rw[if_neg e,if_neg (λz=>e z.symm)]
    by_cases e2:b=p
    ·rw[if_pos e2,if_pos (by rw[e2])]
    ·rw[if_neg e2,if_neg (by intro z;exact e2 (Option.some.inj z))]
theorem Znw:∀(l:List Nat) (i lo:Nat),l.Pairwise (· < ·)->(∀q∈l,lo<=q/\q<i)->l.length+lo<=i\/l=[]
 |[],_,_,_,_=>.inr rfl
 |q::r,i,lo,h,hq=>by
  have h1:=hq q (by simp)
  have hr:=List.pairwise_cons.mp h
  rcases Znw r i (q+1) hr.2 (λx hx=>⟨hr.1 x hx,(hq x (by simp[hx])).2⟩)with z|z
  ·left;simp;omega
  ·left;rw[z];simp;omega
theorem Zbh (l:List Nat):(Zal l).length=l.length:=by simp[Zal]
theorem ZfQ (a b:List Nat):Zal (a++b)=Zal a++Zal b:=by simp[Zal]
theorem ZiS {l:List Nat}{j q:Nat} (h:l[j]?=some q):atI (Zal l) (j:Int)=some (V.int (q:Nat)):=by
 have hj:=(List.getElem?_eq_some_iff.mp h).1
 have e:=(List.getElem?_eq_some_iff.mp h).2
 rw[Zef rfl (by rw[Zbh];exact hj)]
 simp[Zal,e]
theorem Ziy {n j:Nat} (h:j<n):ixN n (j:Int)=some j:=by
 unfold ixN
 rw[if_pos (by omega),if_pos (by omega)];simp
noncomputable def Zak (T:List Int) (p:Nat):List Int:=(Z5 T T.length (nth T p)).map λq=>((q:Nat):Int)
noncomputable def ZO (T:List Int):Prop:=T.length<=40/\∃ns,Zw ns T
theorem ZdT (T:List Int):∀k a,(Z5 T k a).length<=k
 |0,_=>by simp[Z5]
 |k+1,a=>by
  rw[Z5]
  split
  ·have:=ZdT T k (nth T a.toNat);simp;omega
  ·simp
noncomputable def ZaV (T:List Int):Nat->Int->Int
 |0,a=>a
 |j+1,a=>if 0<=a/\a<T.length then ZaV T j (nth T a.toNat)else a
theorem Zkr (T:List Int):∀j a,0<=ZaV T j a->ZaV T j a<T.length->(Z5 T j a).length=j->Z5 T (j+1) a=Z5 T j a++[(ZaV T j a).toNat]/\ZaV T (j+1) a=nth T (ZaV T j a).toNat
 |0,a,h0,h1,_=>by
  have h0':0<=a:=h0
  have h1':a<T.length:=h1
  constructor
  ·simp[Z5,ZaV,h0',h1']
  ·simp[ZaV,h0',h1']
 |j+1,a,h0,h1,hl=>by
  rw[Z5]at hl
  by_cases z:0<=a/\a<T.length
  ·rw[if_pos z]at hl
   have e1:ZaV T (j+1) a=ZaV T j (nth T a.toNat):=by rw[ZaV,if_pos z]
   rw[e1]at h0 h1
   have ih:=Zkr T j (nth T a.toNat) h0 h1 (by simpa using hl)
   constructor
   ·rw[Z5,if_pos z,ih.1,Z5.eq_def T (j+1) a]
    simp only[if_pos z,e1];simp
   ·rw[ZaV,if_pos z,ih.2,e1]
  ·rw[if_neg z]at hl;simp at hl
theorem Zks (T:List Int):∀j k a,j<=k->(Z5 T j a).length=j->¬ (0<=ZaV T j a/\ZaV T j a<T.length)->Z5 T k a=Z5 T j a
 |0,k,a,_,_,h=>by
  have h':¬ (0<=a/\a<T.length):=h
  cases k with
  |zero=>rfl
  |succ k=>rw[show Z5 T 0 a=[]from rfl,Z5,if_neg h']
 |j+1,k,a,hk,hl,h=>by
  rw[Z5]at hl
  by_cases z:0<=a/\a<T.length
  ·rw[if_pos z]at hl
   rw[ZaV,if_pos z]at h
   obtain⟨k',rfl⟩:∃k',k=k'+1:=⟨k-1,by omega⟩
   rw[Z5,if_pos z,Zks T j k' _ (by omega) (by simpa using hl) h,Z5,if_pos z]
  ·rw[if_neg z]at hl;simp at hl
section
variable {X:Cx}
theorem ZrB {K:Frag} (hK:X.K=K):OpR X (compareOp .In) (rIn K false):=hK▸Zo7
end
theorem Zpl (xs:List Int):(xs.map V.int).all flatV=true:=by
 induction xs with
 |nil=>rfl
 |cons x r ih=>rw[List.map_cons,List.all_cons,ih];rfl
theorem ZoL (x:Int) (xs:List Int):inV (.int x) (xs.map V.int)=decide (x∈xs):=by
 induction xs with
 |nil=>rfl
 |cons y r ih =>
  have:inV (.int x) ((y::r).map V.int)=(decide (y=x)||inV (.int x) (r.map V.int)):=rfl
  rw[this,ih]
  by_cases z:y=x
  ·simp[z]
  ·have:¬ x=y:=λh=>z h.symm
   simp[z,this]
theorem ZaX {a b:TS}{D:Ends}{σ:St}{H:Hp} (Mid:St->Hp->Prop) (h1:∀R:St->Hp->Prop,(∀σ' H',Mid σ' H'->R σ' H')->a {D with nx:=R} σ H) (h2:∀σ' H',Mid σ' H'->b D σ' H'):tSeq a b D σ H:=h1 _ h2
theorem cut_to (xs:List V) (j:Nat):Ze8 xs none (some (j:Int))=xs.take j:=by
 have h:¬ ((j:Int)<0):=by omega
 unfold Ze8 HT.sIx
 simp only[if_neg h,List.drop_zero,Nat.sub_zero]
 rw[List.take_eq_take_iff]
 omega
end L2
namespace L2
open PySem PySem.Spec PyProof.Rows
structure CellsOf (cl:List (Str×Addr)) (n0:Nat) (cs:List (Str×Addr)) (h0 h:Heap) (done:List (Str×NameKind)):Prop where
 old:∀b o,h0.get? b=some o->h.get? b=some o
 sz:n0<=h.objs.size
 mem:∀p∈cs,p∈cl\/(n0<=p.2/\p.2<h.objs.size/\h.IsCell p.2 none)
 inj:∀p∈cs,∀q∈cs,n0<=p.2->p.2=q.2->p.1=q.1
 own:∀y∈done,y.2=.cell->∃c,cs.lookup y.1=some c/\n0<=c
 oth:∀x,(∀y∈done,y.2=.cell->y.1≠x)->cs.lookup x=cl.lookup x
theorem Zhm {M:Model}{A:Around}{E:Value->Shared->Prop}{cl:List (Str×Addr)}{n0:Nat}{h0:Heap} (hcl:∀p∈cl,p.2<n0):∀(names:List (Str×NameKind)) (cs:List (Str×Addr)) (done:List (Str×NameKind)) (s:Shared),CellsOf cl n0 cs h0 s.heap done ->
  wpAny M A (forIn names cs λ(x:Str×NameKind) (r:List (Str×Addr))=>(match x with
   |(name,kind)=>if (kind==NameKind.cell)=true then do
     let a <-alloc {cls:=.type "cell",data:=.cell none}
     pure (ForInStep.yield ((name,a)::r))
    else pure (ForInStep.yield r):Sem (ForInStep (List (Str×Addr))))) (λcs' s'=>∃h',s'={s with heap:=h'}/\CellsOf cl n0 cs' h0 h' (done++names)) E s
 |[],cs,done,s,I=>by
  rw[List.forIn_nil,List.append_nil]
  exact wpAny_pure ⟨s.heap,rfl,I⟩
 |(n,k)::r,cs,done,s,I=>by
  rw[List.forIn_cons]
  by_cases hk:k=.cell
  ·subst hk
   simp only[beq_self_eq_true,if_true]
   refine wpAny_bind (wpAny_bind (wpAny_alloc (wpAny_pure ?_)))
   have hget:(s.heap.push {cls:=.type "cell",data:=.cell none}).get? s.heap.objs.size=some {cls:=.type "cell",data:=.cell none}:=Heap.get?_push_size _ rfl
   have I':CellsOf cl n0 ((n,s.heap.objs.size)::cs) h0 (s.heap.push {cls:=.type "cell",data:=.cell none}) (done++[(n,.cell)]):=by
    refine⟨λb o e=>Heap.get?_push_of_some _ (I.old b o e),by rw[Heap.size_push];exact Nat.le_succ_of_le I.sz,λp hp=>?_,λp hp q hq hn e=>?_,λy hy hc=>?_,λx hx=>?_⟩
    ·rcases List.mem_cons.mp hp with z|z
     ·subst z
      exact .inr ⟨I.sz,by rw[Heap.size_push];exact Nat.lt_succ_self _,_,hget,rfl⟩
     ·rcases I.mem p z with w|⟨w1,w2,o,w3,w4⟩
      ·exact .inl w
      ·exact .inr ⟨w1,by rw[Heap.size_push];exact Nat.lt_succ_of_lt w2,o,Heap.get?_push_of_some _ w3,w4⟩
    ·have lt:∀p∈cs,p.2<s.heap.objs.size:=λp hp=>by
      rcases I.mem p hp with w|w
      ·exact Nat.lt_of_lt_of_le (hcl p w) I.sz
      ·exact w.2.1
     rcases List.mem_cons.mp hp with z|z<;>rcases List.mem_cons.mp hq with z'|z'
     ·rw[z,z']
     ·subst z;exact absurd (show s.heap.objs.size<s.heap.objs.size from(show s.heap.objs.size=q.2 from e)▸lt q z') (Nat.lt_irrefl _)
     ·subst z';exact absurd (show s.heap.objs.size<s.heap.objs.size from(show p.2=s.heap.objs.size from e)▸lt p z) (Nat.lt_irrefl _)
     ·exact I.inj p z q z' hn e
    ·rcases List.mem_append.mp hy with z|z
     ·obtain⟨c,e1,e2⟩:=I.own y z hc
      by_cases hx:y.1=n
      ·exact⟨s.heap.objs.size,by rw[hx];simp,I.sz⟩
      ·have hb:(y.1==n)=false:=by simpa using hx
       exact⟨c,by simp only[List.lookup_cons,hb];exact e1,e2⟩
     ·have:y=(n,.cell):=by simpa using z
      subst this
      exact⟨s.heap.objs.size,by simp,I.sz⟩
    ·have hxn:n≠x:=hx (n,.cell) (by simp) rfl
     have hb:(x==n)=false:=by simpa using hxn.symm
     simp only[List.lookup_cons,hb]
     exact I.oth x λy hy=>hx y (List.mem_append_left _ hy)
   refine thn (Zhm hcl r _ _ {s with heap:=s.heap.push {cls:=.type "cell",data:=.cell none}} I') λcs' s' ⟨h',e1,e2⟩=>⟨h',e1,?_⟩
   rw[List.append_assoc]at e2
   exact e2
  ·have e1:(k==NameKind.cell)=false:=by cases k<;>first|rfl|exact absurd rfl hk
   simp only[e1,Bool.false_eq_true,if_false]
   refine wpAny_bind (wpAny_pure ?_)
   have I':CellsOf cl n0 cs h0 s.heap (done++[(n,k)]):=by
    refine⟨I.old,I.sz,I.mem,I.inj,λy hy hc=>?_,λx hx=>I.oth x λy hy=>hx y (List.mem_append_left _ hy)⟩
    rcases List.mem_append.mp hy with z|z
    ·exact I.own y z hc
    ·have:y=(n,k):=by simpa using z
     subst this
     exact absurd hc hk
   refine thn (Zhm hcl r _ _ s I') λcs' s' ⟨h',e1,e2⟩=>⟨h',e1,?_⟩
   rw[List.append_assoc]at e2
   exact e2
theorem Znx {M:Model}{A:Around}{E:Value->Shared->Prop}{s:Shared}{scope:Scope}{globals:Addr}{cl:List (Str×Addr)}{qual:Str}{around:Env}{Q:Env->Shared->Prop} (hcl:∀p∈cl,p.2<s.heap.objs.size)
  (h:∀cs h',CellsOf cl (s.heap.objs.size+1) cs (s.heap.push {cls:=.type "dict",data:=.dict #[]}) h' scope.names->Q {scope:=scope,locals:=s.heap.objs.size,globals:=globals,cells:=cs,qual:=qual,func:=none,code:=around.code,frame:=around.frame,builtins:=around.builtins} {s with heap:=h'}) :
  wpAny M A (newFunctionEnv scope globals cl [] qual none .none (some around)) Q E s:=by
 unfold newFunctionEnv
 refine wpAny_bind (wpAny_alloc ?_)
 refine wpAny_bind (thn (Zhm (cl:=cl) (n0:=s.heap.objs.size+1) (h0:=s.heap.push {cls:=.type "dict",data:=.dict #[]}) (λp hp=>Nat.lt_succ_of_lt (hcl p hp)) scope.names cl [] {s with heap:=s.heap.push {cls:=.type "dict",data:=.dict #[]}} ⟨λb o e=>e,by rw[Heap.size_push];exact Nat.le_refl _,λp hp=>.inl hp,λp hp q hq hn e=>absurd (hcl p hp) (Nat.not_lt_of_le (Nat.le_of_succ_le hn)),λy hy=>(nomatch hy),λx hx=>rfl⟩) λcs s' ⟨h',e1,e2⟩=>?_)
 subst e1
 rw[List.nil_append]at e2
 exact wpAny_bind (wpAny_pure (wpAny_pure (h cs h' e2)))
noncomputable def Zby (around scope:Scope):Bool :=
 scope.kind==.function&&around.kind==.function&&scope.names.all λy=>match y.2 with
  |.local=>scope.names.lookup y.1==some .local
  |.cell=>scope.names.lookup y.1==some .cell
  |.free=>(scope.names.lookup y.1==some .free)&&(around.names.lookup y.1==some .cell||around.names.lookup y.1==some .free)
  |_=>true
theorem ZgO {a s:Scope} (h:Zby a s=true):s.kind=.function:=by
 simp only[Zby,Bool.and_eq_true,beq_iff_eq]at h;exact h.1.1
theorem Zgg {a s:Scope} (h:Zby a s=true) {y:Str×NameKind} (hy:y∈s.names):(match y.2 with
  |.local=>s.names.lookup y.1==some .local
  |.cell=>s.names.lookup y.1==some .cell
  |.free=>(s.names.lookup y.1==some .free)&&(a.names.lookup y.1==some .cell||a.names.lookup y.1==some .free)
  |_=>true)=true:=by
 simp only[Zby,Bool.and_eq_true]at h
 exact List.all_eq_true.mp h.2 y hy
theorem Zj1 {a s:Scope} (h:Zby a s=true):∀y∈s.names,y.2=.local->s.names.lookup y.1=some .local:=λy hy e=>by
 have q:=Zgg h hy
 rw[e]at q
 exact beq_iff_eq.mp q
theorem Zla {a s:Scope} (h:Zby a s=true):∀y∈s.names,y.2=.cell->s.names.lookup y.1=some .cell:=λy hy e=>by
 have q:=Zgg h hy
 rw[e]at q
 exact beq_iff_eq.mp q
theorem Zei {a s:Scope} (h:Zby a s=true):∀y∈s.names,y.2=.free->s.names.lookup y.1=some .free/\(a.names.lookup y.1=some .cell\/a.names.lookup y.1=some .free):=λy hy e=>by
 have q:=Zgg h hy
 rw[e]at q
 simp only[Bool.and_eq_true,Bool.or_eq_true,beq_iff_eq]at q
 exact q
noncomputable def ZaP (X:Cx) (Nc:List Str) (scope:Scope) (cs:List (Str×Addr)) (C:Addr) (s2:Shared) (H2:Hp) (fp:List Addr):Cx :=
 {ZaJ X Nc scope cs C s2 H2 fp with fn:=λx=>scope.names.lookup x==some .cell}
theorem Zl8 {env:Env}{scope:Scope} (h:∀y∈scope.names,y.2=.free->∃c,env.cells.lookup y.1=some c) :
  ∃cl,closureFor scope env=pure cl/\(∀p∈cl,env.cells.lookup p.1=some p.2)/\(∀y∈scope.names,y.2=.free->∃c,cl.lookup y.1=some c/\env.cells.lookup y.1=some c):=by
 obtain⟨cl,e,h1,h2,h3⟩:=Zed (env:=env) scope.names [] h
 have up:∀p∈cl,env.cells.lookup p.1=some p.2:=λp q=>by
  rcases h1 _ q with z|z
  ·cases z
  ·exact z
 refine⟨cl,?_,up,λy hy hf=>?_⟩
 ·unfold closureFor
  simp only[bind_pure_comp]at e⊢
  rw[e]
  exact pure_bind _ _
 ·obtain⟨c,hc⟩:=h3 y hy hf
  cases q:cl.lookup y.1 with
  |none=>exact absurd (List.lookup_eq_none_iff.mp q _ hc) (by simp)
  |some c'=>exact⟨c',rfl,up _ (PySem.mem_of_lookup q)⟩
section
variable {X:Cx}
theorem Zl9 {pins:List (Addr×Obj)}{σ:St}{H2:Hp}{s2:Shared}{Nc:List Str}{js:List (Option Nat)}{scope:Scope}{cs:List (Str×Addr)}{fp:List Addr}{h1:Heap}{tk:Nat}{D C:Addr}{oD:Obj}{m:Str->Option Value}
  (I:Inv X pins σ H2 s2) (hok:Zby X.env.scope scope=true) (htk:takesC X.N Nc scope js 0=true) (up:∀x c,cs.lookup x=some c->X.env.cells.lookup x=some c\/(C<c/\h1.IsCell c none)) (hinj:∀x y c,cs.lookup x=some c->cs.lookup y=some c->x=y) (hown:∀y∈scope.names,y.2=.cell->∃c,cs.lookup y.1=some c/\C<c) (hfr:∀y∈scope.names,y.2=.free->∃c,cs.lookup y.1=some c/\X.env.cells.lookup y.1=some c)
  (hfp:∀b∈fp,FpOk X pins H2 b) (hfl:∀b∈fp,b<s2.heap.objs.size) (hD:D=s2.heap.objs.size) (hC:C=s2.heap.objs.size+1) (old:∀b o,s2.heap.get? b=some o->h1.get? b=some o) (hns:h1.Ns C m) (hoD:h1.get? D=some oD) (hdD:∀v,oD.data≠.cell v) :
  Inv (ZaP X Nc scope cs C s2 H2 fp) [(D,oD)] (ZW js σ) H2 {s2 with heap:=h1,toks:=tk}:=by
 have leC:s2.heap.objs.size<=C:=by rw[hC];exact Nat.le_succ _
 have leD:s2.heap.objs.size<=D:=Nat.le_of_eq hD.symm
 have kf:∀x,((compEnvC scope cs C X.env).kindOf x=some .cell\/(compEnvC scope cs C X.env).kindOf x=some .free)->∃c,cs.lookup x=some c:=λx hx=>by
  have:∃k,(compEnvC scope cs C X.env).kindOf x=some k/\(k=.cell\/k=.free):=hx.elim (λq=>⟨_,q,.inl rfl⟩) λq=>⟨_,q,.inr rfl⟩
  obtain⟨k,e,hk⟩:=this
  obtain⟨k',h1,h2⟩:=Z4 (show(scope.names.map _).lookup x=some k from e)
  have hm:=lookup_mem h1
  have:k'=.free\/k'=.cell:=by
   rcases h2 with q|q
   ·subst q
    exact hk.symm
   ·exact .inl q.1
  rcases this with z|z
  ·subst z
   obtain⟨c,q,_⟩:=hfr _ hm rfl
   exact⟨c,q⟩
  ·subst z
   obtain⟨c,q,_⟩:=hown _ hm rfl
   exact⟨c,q⟩
 have nC:∀c x,X.env.cells.lookup x=some c->c<s2.heap.objs.size:=λc x e=>by
  obtain⟨v,q⟩:=I.cell x c e
  exact q.lt
 have noB:∀b,b∈fp->b∉frs X.stack:=λb hb q=>by
  rcases List.mem_cons.mp (I.Ze0 b q)with z|z
  ·exact(hfp b hb).2.1 z
  ·exact(hfp b hb).2.2.1 z
 have okX:(ZaP X Nc scope cs C s2 H2 fp).Ok:=by
  refine⟨I.ok.mod,(show scope.kind=.function from ZgO hok),I.ok.glob,I.ok.blt,?_,λx y c e1 e2=>hinj x y c e1 e2,λx hx=>?_,(λx c e1 e2=>?_),I.ok.hd,I.ok.frames,.inl rfl,λb hb=>⟨?_,λx c e=>(up _ _ e).elim (λz=>(hfp b hb).2.2.2.2.1 x c z) λz=>Nat.ne_of_gt (Nat.lt_trans (Nat.lt_of_lt_of_le (hfl b hb) leC) z.1)⟩,I.bs,Nat.le_trans I.ok.bsz I.sz,λb o e hb=>?_,λb hb=>noB b hb,I.stack,I.ZgC⟩
  ·show s2.heap.objs.size<=C;exact leC
  ·exact kf x hx
  ·have hm:=lookup_mem (beq_iff_eq.mp (show(scope.names.lookup x==some NameKind.cell)=true from e1))
   obtain⟨c',q1,q2⟩:=hown _ hm rfl
   have:c=c':=Option.some.inj ((show cs.lookup x=some c from e2).symm.trans q1)
   rw[this]
   exact Nat.le_trans leC (Nat.le_of_lt q2)
  ·exact Nat.ne_of_lt (Nat.lt_of_lt_of_le (hfl b hb) leC)
  ·rcases(hfp b hb).2.2.2.1 with q|q
   ·exact I.ok.noex b o e q
   ·exact absurd (Nat.lt_of_lt_of_le (Heap.lt_size e) (Nat.le_trans I.ok.bsz q)) (Nat.lt_irrefl _)
 refine⟨okX,rfl,I.bare,Un.kept old,⟨m,hns,λi x v e1 e2 e3=>?_⟩,λx c e=>?_,I.hok.fresh leC,λx c e=>(up _ _ e).elim (λz=>I.freeC x c z) λz=>I.hok.fresh (Nat.le_trans leC (Nat.le_of_lt z.1)),λp hp=>?_,I.hok.kept old,?_⟩
 ·have e2':(ZW js σ)[i]?=some (some v):=e2
  unfold ZW at e2'
  rw[List.getElem?_map]at e2'
  cases q:js[i]? with
  |none=>rw[q]at e2';cases e2'
  |some j0 =>
   cases j0 with
   |none=>rw[q]at e2';cases e2'
   |some j =>
    rw[q]at e2'
    simp only[Option.map_some,Option.some.injEq]at e2'
    have e4:σ[j]?=some (some v):=by
     cases z:σ[j]? with
     |none=>rw[z]at e2';cases e2'
     |some o=>rw[z]at e2';simp only[Option.join_some]at e2';rw[e2']
    obtain⟨y,y1,y2,y3⟩:=ZdP htk q
    rw[Nat.zero_add]at y1
    have:x=y:=Option.some.inj ((show Nc[i]?=some x from e1).symm.trans y1)
    subst this
    have hm:=lookup_mem y3
    obtain⟨c,c1,c2⟩:=hfr _ hm rfl
    have hk:=(Zei hok _ hm rfl).2
    obtain⟨m0,hn0,hl0⟩:=I.loc
    obtain⟨u,r,l⟩:=hl0 j x v y2 e4 (hk.elim (λz=>.inr (.inl z)) λz=>.inr (.inr z))
    refine⟨u,r,.inr ⟨?_,c,c1,?_⟩⟩
    ·rcases e3 with z|z|z
     ·obtain⟨k',w1,w2⟩:=Z4 (show(scope.names.map _).lookup x=some NameKind.local from z)
      rw[y3]at w1;cases w1
      rcases w2 with w|w
      ·cases w
      ·cases w.2
     ·exact .inl z
     ·exact .inr z
    ·rcases l with⟨lk,_⟩|⟨_,c',c3,c4⟩
     ·rcases hk with z|z
      ·rw[show X.env.kindOf x=some .cell from z]at lk;cases lk
      ·rw[show X.env.kindOf x=some .free from z]at lk;cases lk
     ·rw[c2]at c3;cases c3
      obtain⟨oc,w1,w2⟩:=c4
      exact⟨oc,old _ _ w1,w2⟩
 ·rcases up _ _ e with z|z
  ·obtain⟨v,oc,w1,w2⟩:=I.cell x c z
   exact⟨v,oc,old _ _ w1,w2⟩
  ·exact⟨_,z.2⟩
 ·have:p=(D,oD):=by
   have hp':p∈([]++[(D,oD)]:List (Addr×Obj)):=hp
   simpa using hp'
  subst this
  refine⟨hoD,I.hok.fresh leD,(by show D≠C;rw[hD,hC];exact Nat.ne_of_lt (Nat.lt_succ_self _)),λhb=>?_,hdD⟩
  have hb':D∈frs X.stack:=hb
  obtain⟨_,o,ho,_⟩:=I.stack.mem hb'
  exact absurd (Nat.lt_of_lt_of_le (Heap.lt_size ho) leD) (Nat.lt_irrefl _)
 ·have:=ZcQ htk
  show(ZW js σ).length=Nc.length
  unfold ZW;rw[List.length_map];omega
theorem Zkt {pins:List (Addr×Obj)}{σ:St}{H:Hp}{s:Shared}{tg elt iter:Expr}{ifs:List Expr}{scope:Scope}{pos:Pos}{wi:TI}{g:TG}{tt:TT}{te:TE}{Nc:List Str}{js:List (Option Nat)}{use:Option (Value->Sem Unit)}{Q:VK}{QQ:Value->Shared->Prop}
  (hc:X.calm=true) (hok:Zby X.env.scope scope=true) (htk:takesC X.N Nc scope js 0=true) (hi:PI X tg iter wi)
  (hg:∀cl C s2 H2 fp,PG (ZaP X Nc scope cl C s2 H2 fp) tg g) (ht:∀cl C s2 H2 fp,Zij (ZaP X Nc scope cl C s2 H2 fp) ifs tt) (he:∀cl C s2 H2 fp,PE (ZaP X Nc scope cl C s2 H2 fp) elt te)
  (hs:∀x,foldedSetIterable iter X.env x=pure x) {L:List Nat} (ho:Zf6 g L) (hL:(L.all λk=>js[k]?==some none)=true) (I:Inv X pins σ H s) (h:Zow wi g tt te js σ H Q)
  (fin:∀(D C:Addr) (H' H2:Hp) (s2 s':Shared) (xs:List V) (m:Str->Option Value),Inv X pins σ H2 s2->H' C=none->C=D+1->D=s2.heap.objs.size->s'.heap.Ns C m->(∀h',Heap.SameBut C s'.heap h'->Inv X pins σ (upd H' D (.lst xs)) {s' with heap:=h'})->Q (.ref D) (upd H' D (.lst xs)) ->
   compPost (model X.prog X.w) X.A X.xe use QQ (.ref D) C (.ok .next) s') :
  wpAny (model X.prog X.w) X.A (comprehension (.ListComp elt [⟨tg,iter,ifs,0⟩] scope pos) scope X.env (firstIterPos [⟨tg,iter,ifs,0⟩] pos) (newList []) false (eval iter X.env) use) QQ X.xe s:=by
 have hcells:∀y∈scope.names,y.2=.free->∃c,X.env.cells.lookup y.1=some c:=λy hy hf=>I.ok.has y.1 (Zei hok y hy hf).2
 obtain⟨cl,hcl,upM,hfr0⟩:=Zl8 hcells
 have hk:=ZgO hok
 refine wpAny_comprehension_free (use:=use) rfl hs hcl hk (Zj1 hok) (thn (hi pins s σ H _ I h) λv s1 h1=>thn h1 λitv s2 h2=>?_)
 obtain⟨it,fp,tn,J,H2,e,I2,T,st2,f2,W,⟨m0,w0⟩,turn⟩:=h2
 subst e
 have clt:∀p∈cl,p.2<s2.heap.objs.size:=λp hp=>by
  obtain⟨v,q⟩:=I2.cell p.1 p.2 (upM p hp)
  exact q.lt
 refine wpAny_newObj_type (Znx (λp hp=>?_) λcs h₁ CO=>?_)
 ·show p.2<(s2.heap.push _).objs.size
  rw[Heap.size_push];exact Nat.lt_succ_of_lt (clt p hp)
 dsimp only at CO⊢
 generalize hH2:s2.heap.push {cls:=.type "list",dict:=none,data:=.seq ([]:List Value).toArray}=HH at CO⊢
 have hC:HH.objs.size=s2.heap.objs.size+1:=by rw[<-hH2,Heap.size_push]
 have hcl':∀p∈cl,p.2<HH.objs.size:=λp hp=>by rw[hC];exact Nat.lt_succ_of_lt (clt p hp)
 have hns₁:h₁.Ns HH.objs.size (λ_=>none):=⟨_,#[],_,CO.old _ _ (Heap.get?_push_size _ rfl),rfl,λe he=>absurd he (by simp),λn=>rfl⟩
 have up:∀x c,cs.lookup x=some c->X.env.cells.lookup x=some c\/(HH.objs.size<c/\h₁.IsCell c none):=λx c e=>by
  rcases CO.mem _ (PySem.mem_of_lookup e)with z|z
  ·exact .inl (upM _ z)
  ·exact .inr ⟨z.1,z.2.2⟩
 have hinj:∀x y c,cs.lookup x=some c->cs.lookup y=some c->x=y:=λx y c e1 e2=>by
  have m1:=PySem.mem_of_lookup e1
  have m2:=PySem.mem_of_lookup e2
  rcases CO.mem _ m1 with z|z
  ·rcases CO.mem _ m2 with z'|z'
   ·exact I2.ok.inj x y c (upM _ z) (upM _ z')
   ·exact absurd (hcl' _ z) (Nat.not_lt_of_le (Nat.le_of_succ_le z'.1))
  ·exact CO.inj _ m1 _ m2 z.1 rfl
 have hfr:∀y∈scope.names,y.2=.free->∃c,cs.lookup y.1=some c/\X.env.cells.lookup y.1=some c:=λy hy hf=>by
  obtain⟨c,q1,q2⟩:=hfr0 y hy hf
  refine⟨c,?_,q2⟩
  rw[CO.oth y.1 λy' hy' hc' z=>?_]
  ·exact q1
  ·have w1:=Zla hok y' hy' hc'
   have w2:=(Zei hok y hy hf).1
   rw[z,w2]at w1;cases w1
 have hfl:∀b∈fp,b<s2.heap.objs.size:=λb hb=>by
  obtain⟨o,ho,_⟩:=T.obj 0 _ st2 b hb
  exact Heap.lt_size ho
 have hDC:s2.heap.objs.size≠HH.objs.size:=by rw[hC];exact Nat.ne_of_lt (Nat.lt_succ_self _)
 have old:∀b o,s2.heap.get? b=some o->h₁.get? b=some o:=λb o e=>CO.old b o (Heap.get?_push_of_some _ (hH2▸Heap.get?_push_of_some _ e))
 have hacc:h₁.get? s2.heap.objs.size=some {cls:=.type "list",dict:=none,data:=.seq ([]:List Value).toArray}:=CO.old _ _ (Heap.get?_push_of_some _ (hH2▸Heap.get?_push_size _ rfl))
 have I4:=Zl9 (Nc:=Nc) (js:=js) (tk:=s2.toks) I2 hok htk up hinj (λy hy hc=>CO.own y hy hc) hfr f2 hfl rfl hC old hns₁ hacc (by intro v z;cases z)
 have st4:tn 0 h₁:=T.keep _ _ _ st2 λb _ o e=>old b o e
 generalize hXc:ZaP X Nc scope cs HH.objs.size s2 H2 fp=Xc at I4
 have hXA:Xc.A=X.A:=by rw[<-hXc];rfl
 have hXe:Xc.env=compEnvC scope cs HH.objs.size X.env:=by rw[<-hXc];rfl
 have hXp:Xc.prog=X.prog:=by rw[<-hXc];rfl
 have hXw:Xc.w=X.w:=by rw[<-hXc];rfl
 have hXx:Xc.xe=λ_ _=>False:=by rw[<-hXc];rfl
 have hXk:Xc.K=X.K:=by rw[<-hXc];rfl
 have hXcalm:Xc.calm=true:=by rw[<-hXc];exact hc
 have fpok:∀{pl:List (Addr×Obj)}{H':Hp},(∀p∈pl,s2.heap.objs.size<=p.1)->(∀b∈fp,H' b=none)->∀b∈fp,FpOk Xc pl H' b:=λ{pl H'} hpl hn b hb=>by
  have k1:b≠HH.objs.size:=Nat.ne_of_lt (by rw[hC];exact Nat.lt_succ_of_lt (hfl b hb))
  have k2:b∉frs X.stack:=λq=>by
   rcases List.mem_cons.mp (I2.Ze0 b q)with z|z
   ·exact(f2 b hb).2.1 z
   ·exact(f2 b hb).2.2.1 z
  rw[<-hXc]
  refine⟨hn b hb,k1,k2,.inl hb,λx c e=>(up _ _ e).elim (λz=>(f2 b hb).2.2.2.2.1 x c z) λz=>Nat.ne_of_gt (Nat.lt_trans (by rw[hC];exact Nat.lt_succ_of_lt (hfl b hb)) z.1),λp hp=>?_⟩
  have hp':p∈pl:=by simpa[ZaP,ZaJ]using hp
  exact Nat.ne_of_gt (Nat.lt_of_lt_of_le (hfl b hb) (hpl p hp'))
 have gX:PG Xc tg g:=hXc▸hg cs HH.objs.size s2 H2 fp
 have tX:Zij Xc ifs tt:=hXc▸ht cs HH.objs.size s2 H2 fp
 have eX:PE Xc elt te:=hXc▸he cs HH.objs.size s2 H2 fp
 have hs0:Xc.s₀=s2:=by rw[<-hXc];rfl
 have hh0:Xc.H₀=H2:=by rw[<-hXc];rfl
 have hfs:Xc.fs=frs X.stack:=by rw[<-hXc];rfl
 have hex:Xc.ex=fp:=by rw[<-hXc];rfl
 have loop:codeAny (model X.prog X.w) X.A (.compLoop (.ListComp elt [⟨tg,iter,ifs,0⟩] scope pos) 0 (.ref it) (.ref s2.heap.objs.size) (compEnvC scope cs HH.objs.size X.env)) (compPost (model X.prog X.w) X.A X.xe use QQ (.ref s2.heap.objs.size) HH.objs.size)
   {s2 with heap:=h₁,toks:=s2.toks}:=by
  refine Ze9 (λn s'=>∃i acc its nn H',Inv Xc [(s2.heap.objs.size,{cls:=.type "list",dict:=none,data:=.seq (its:List Value).toArray nn})] (ZW js σ) H' s'/\Vals acc its/\acc.length<=sizeLine/\tn i s'.heap/\(∀b∈fp,H' b=none)/\W i n acc H') ?_ m0
   ⟨0,[],[],0,H2,I4,.nil,Nat.zero_le _,st4,λb hb=>(f2 b hb).1,w0⟩
  rintro n s3 ⟨i,acc,its,nn,H3,I3,va,hlen,st3,fr3,w3⟩
  have pg:∀p∈([(s2.heap.objs.size,{cls:=.type "list",dict:=none,data:=.seq its.toArray nn})]:List (Addr×Obj)),s2.heap.objs.size<=p.1:=λp hp=>by
   simp only[List.mem_cons,List.not_mem_nil,or_false]at hp
   subst hp;exact Nat.le_refl _
  rcases turn i n acc H3 w3 with⟨stop,hl,qn⟩|⟨go,hl,step⟩
  ·have q:=T.done Xc hXp hXw hXk hXcalm i _ s3 (ZW js σ) H3 (λ_ _=>False) I3 (fpok pg fr3) st3 stop
   rw[hXA]at q
   refine thn q λr s4 ⟨hr,I5⟩=>?_
   subst hr
   have hpin:=I5.pin _ (List.mem_append_right _ (.head _))
   obtain⟨m5,hn5,_⟩:=I5.loc
   rw[hXe]at hn5
   refine fin _ _ H3 H2 s2 s4 acc m5 I2 (by have:=I5.free;rw[hXe]at this;exact this) hC rfl hn5 (λh' hsb=>?_) (qn _ hpin.2.1)
   have same:∀b o,b≠HH.objs.size->s4.heap.get? b=some o->h'.get? b=some o:=λb o hb e=>hsb.extBut b o hb e
   have un:=I5.base
   rw[hfs,hex,hh0,hs0]at un
   have lt:∀b o,s2.heap.get? b=some o->b<s2.heap.objs.size:=λb o e=>Heap.lt_size e
   have neC:∀b o,s2.heap.get? b=some o->b≠HH.objs.size:=λb o e=>Nat.ne_of_lt (by rw[hC];exact Nat.lt_succ_of_lt (lt b o e))
   have neD:∀b o,s2.heap.get? b=some o->b≠s2.heap.objs.size:=λb o e=>Nat.ne_of_lt (lt b o e)
   have trkC:∀b o,H3 b=some o->b≠HH.objs.size:=λb o e z=>by
    have:=I5.free;rw[hXe]at this;rw[z,show H3 HH.objs.size=none from this]at e;cases e
   refine I2.Zq4 (s':={s4 with heap:=h'}) (ch:=fp) (I5.os.trans (by rw[hs0])) ⟨λb o e n hb hx=>same _ _ (neC b o e) (un.keep b o e n hb hx),λb o e n hb hx=>?_,λb o e n hx=>by rw[Zj (neD b o e)];exact un.free b o e n hx,λb o e hx=>?_,λb xs e=>?_,λb o u e=>?_,λb ps e=>?_⟩ (λa o e=>?_) I5.bare λb hb=>⟨(f2 b hb).2.2.2.1,(f2 b hb).2.1,(f2 b hb).2.2.2.2.1,(f2 b hb).2.2.2.2.2⟩
   ·obtain⟨sl,z⟩:=un.slot b o e n hb hx
    exact⟨sl,same _ _ (neC b o e) z⟩
   ·obtain⟨o',z⟩:=un.there b o e hx
    exact⟨o',same _ _ (neC b o e) z⟩
   ·rw[Zj (Nat.ne_of_lt (I2.hok.lt e))];exact un.tups b xs e
   ·rw[Zj (Nat.ne_of_lt (I2.hok.lt e))];exact un.frzs b o u e
   ·obtain⟨more,z⟩:=un.tbls b ps e
    exact⟨more,by rw[Zj (Nat.ne_of_lt (I2.hok.lt e))];exact z⟩
   ·by_cases ha:a=s2.heap.objs.size
    ·subst ha
     rw[Zd]at e;cases e
     exact⟨hl,its,nn,va,same _ _ hDC hpin.1⟩
    ·rw[Zj ha]at e
     have q:=I5.hok a o e
     rw[hXp,hXw]at q
     refine q.Zih (λb u hb z=>same b u ?_ z) (λb z=>by rw[Zj];exact z;intro y;subst y;rw[hpin.2.1]at z;cases z) (λb xs z=>by rw[Zj];exact z;intro y;subst y;rw[hpin.2.1]at z;cases z) λb o u z=>by rw[Zj];exact z;intro y;subst y;rw[hpin.2.1]at z;cases z
     rcases hb with hb|hb
     ·subst hb;exact trkC _ _ e
     ·exact trkC _ _ hb
  ·have q:=T.item Xc hXp hXw hXk hXcalm i _ s3 (ZW js σ) H3 (λ_ _=>False) I3 (fpok pg fr3) st3 go
   rw[hXA]at q
   refine thn q λr s4 ⟨u,hr,h4⟩=>?_
   subst hr
   refine thn h4 λ_ s5 ⟨x,H5,I5,r5,y5,st5,fr5⟩=>?_
   have I5':=I5.pinned (fpok pg fr5) (T.obj _ _ st5)
   have again:∀{σ7:St}{H7:Hp}{s7:Shared}{acc7:List V}{its7:List Value}{n7:Nat}{m:Nat},Inv Xc ([(s2.heap.objs.size,{cls:=.type "list",dict:=none,data:=.seq its7.toArray n7})]++Zan fp s5.heap) σ7 H7 s7->Vals acc7 its7->acc7.length<=sizeLine->W (i+1) m acc7 H7->σ7.length=(ZW js σ).length->(∀(k:Nat) v,(ZW js σ)[k]?=some (some v)->σ7[k]?=some (some v)) ->
     ∃i acc its nn H',Inv Xc [(s2.heap.objs.size,{cls:=.type "list",dict:=none,data:=.seq (its:List Value).toArray nn})] (ZW js σ) H' s7/\Vals acc its/\acc.length<=sizeLine/\tn i s7.heap/\(∀b∈fp,H' b=none)/\W i m acc H':=λ{σ7 H7 s7 acc7 its7 n7 m} I7 v7 l7 w7 hl7 hw7=>by
    refine⟨i+1,acc7,its7,n7,H7,(I7.weak hl7.symm hw7).Zb5,v7,l7,T.keep _ _ _ st5 λb hb o e=>(I7.pin (b,o) (List.mem_append_right _ (List.mem_append_right _ (ZaK hb e)))).1,λb hb=>?_,w7⟩
    obtain⟨o,e,d⟩:=T.obj _ _ st5 b hb
    exact(I7.pin (b,o) (List.mem_append_right _ (List.mem_append_right _ (ZaK hb e)))).2.1
   have keep:∀{σ6:St},Zb9 L (ZW js σ) σ6->σ6.length=(ZW js σ).length/\∀(k:Nat) v,(ZW js σ)[k]?=some (some v)->σ6[k]?=some (some v):=λ{σ6} hk=>⟨hk.1,λk v e=>by
    rw[hk.2 k]
    ·exact e
    ·intro z
     have q:=List.all_eq_true.mp hL k z
     simp only[beq_iff_eq]at q
     unfold ZW at e
     rw[List.getElem?_map,q]at e
     cases e⟩
   have q6:=gX _ s5 (ZW js σ) H5 x u _ I5' r5 (ho _ _ _ _ _ (fun σ' H' kk z=>And.intro kk z) (step x H5 y5))
   rw[hXe,hXA,hXp,hXw,hXx]at q6
   refine thn q6 λ_ s6 ⟨σ6,H6,I6,k6,q6⟩=>?_
   obtain⟨kl,kv⟩:=keep k6
   have q7:=tX _ s6 σ6 H6 _ I6 q6
   rw[hXe,hXA,hXp,hXw,hXx]at q7
   refine thn q7 λb s7 ⟨H7,I7,q7⟩=>?_
   cases b with
   |false =>
    obtain⟨m',hm,w7⟩:=q7
    exact⟨m',hm,again I7 va hlen w7 kl kv⟩
   |true =>
    have q8:=eX _ s7 σ6 H7 _ I7 q7
    rw[hXe,hXA,hXp,hXw,hXx]at q8
    refine thn q8 λy s8 ⟨v8,H8,I8,r8,m',hm,w8⟩=>?_
    have pinD:=I8.pin _ (List.mem_append_right _ (List.mem_append_left _ (.head _)))
    have hnf:∀p∈Zan fp s5.heap,p.1≠s2.heap.objs.size:=λp hp=>by
     obtain⟨z,_⟩:=ZfM hp
     exact Nat.ne_of_lt (hfl _ z)
    have va':=va.length
    refine call_meets F.slot_list_append ⟨_,pinD.1,rfl⟩ F.entry_list_append (F.args_list_append_2 _ _) (PySem.list_append s2.heap.objs.size its.toArray nn y (by rw[List.size_toArray];omega)) ⟨pinD.1,?_⟩
    have e9:=PySem.IsL.update pinD.1 (λa=>a.push y)
    have e9':its.toArray.push y=(its++[y]).toArray:=by simp
    dsimp only at e9
    rw[e9']at e9
    have I8':Inv Xc (Zan fp s5.heap) σ6 H8 s8:=I8.ZX λp hp=>I8.pin p (List.mem_append_right _ (List.mem_append_right _ hp))
    have hXpn:Xc.pn=[]:=by rw[<-hXc];rfl
    have hXs:s2.heap.objs.size∉frs X.stack:=by rw[<-hfs];exact pinD.2.2.2.1
    have I9:=I8'.turned (t':=s8.toks) (it:=s2.heap.objs.size) (h':=s8.heap.update s2.heap.objs.size (Obj.mapSeq λa=>a.push y)) (λb o hb e=>(Heap.get?_update_other s8.heap _ (Ne.symm hb)).trans e) pinD.2.1 pinD.2.2.1
     (.inr (by rw[hs0];exact Nat.le_refl _)) (λx c e=>by
      rw[hXe]at e
      intro z
      rcases up _ _ e with y|y
      ·obtain⟨v,q⟩:=I2.cell x c y
       exact absurd q.lt (by rw[z];exact Nat.lt_irrefl _)
      ·have:=y.1
       rw[z,hC]at this
       exact absurd this (Nat.not_lt_of_le (Nat.le_succ _))) (λp hp=>by rw[hXpn,List.nil_append]at hp;exact hnf p hp)
    have I10:=I9.ZX (pins':=[(s2.heap.objs.size,{cls:=.type "list",dict:=none,data:=.seq (its++[y]).toArray _})]++Zan fp s5.heap) λp hp=>by
     rcases List.mem_append.mp hp with z|z
     ·simp only[List.mem_cons,List.not_mem_nil,or_false]at z
      subst z
      exact⟨e9,pinD.2.1,pinD.2.2.1,pinD.2.2.2.1,by intro v z;cases z⟩
     ·exact I9.pin p (List.mem_append_right _ z)
    exact⟨m',hm,again I10 (va.append (.cons r8 .nil)) (by rw[List.length_append,List.length_singleton];omega) w8 kl kv⟩
 exact codeAny_compStart_list loop (T.self _ 0 _ _ _ st4 loop)
theorem Zah {tg elt iter:Expr}{ifs:List Expr}{scope:Scope}{pos:Pos}{wi:TI}{g:TG}{tt:TT}{te:TE} (Nc:List Str) (js:List (Option Nat)) {L:List Nat}
  (hc:X.calm=true) (hok:Zby X.env.scope scope=true) (htk:takesC X.N Nc scope js 0=true) (hi:PI X tg iter wi)
  (hg:∀cl C s2 H2 fp,PG (ZaP X Nc scope cl C s2 H2 fp) tg g) (ht:∀cl C s2 H2 fp,Zij (ZaP X Nc scope cl C s2 H2 fp) ifs tt) (he:∀cl C s2 H2 fp,PE (ZaP X Nc scope cl C s2 H2 fp) elt te)
  (ho:Zf6 g L) (hL:(L.all λk=>js[k]?==some none)=true:=by rfl) (hs:∀x,foldedSetIterable iter X.env x=pure x:=by intro _;rfl):PE X (.ListComp elt [⟨tg,iter,ifs,0⟩] scope pos) (Zow wi g tt te js):=by
 intro pins s σ H Q I h
 rw[eval_ListComp]
 exact Zkt (use:=none) hc hok htk hi hg ht he hs ho hL I h λD C H' H2 s2 s' xs m I2 hHC e1 e2 hn hI q=>⟨m,hn,λh' hsb=>⟨.ref D,_,hI h' hsb,rfl,q⟩⟩
theorem Za0 {i:Nat}{x:Str}{pos' spos:Pos}{tg elt iter:Expr}{ifs:List Expr}{scope:Scope}{pos:Pos}{wi:TI}{g:TG}{tt:TT}{te:TE} (Nc:List Str) (js:List (Option Nat)) {L:List Nat}
  (hN:X.N.Nodup) (hxi:X.N[i]?=some x) (hx:Loc X.env.scope x)
  (hc:X.calm=true) (hok:Zby X.env.scope scope=true) (htk:takesC X.N Nc scope js 0=true) (hi:PI X tg iter wi)
  (hg:∀cl C s2 H2 fp,PG (ZaP X Nc scope cl C s2 H2 fp) tg g) (ht:∀cl C s2 H2 fp,Zij (ZaP X Nc scope cl C s2 H2 fp) ifs tt) (he:∀cl C s2 H2 fp,PE (ZaP X Nc scope cl C s2 H2 fp) elt te)
  (ho:Zf6 g L) (hL:(L.all λk=>js[k]?==some none)=true:=by rfl) (hs:∀x,foldedSetIterable iter X.env x=pure x:=by intro _;rfl)
  (hsw:swapsWith (.ListComp elt [⟨tg,iter,ifs,0⟩] scope pos) (some (.Name x pos')) spos.line X.env=pure true:=by rfl)
  (hf:X.fn x=true\/X.env.scope.names.lookup x=some .local:=by first|exact .inl rfl|exact .inr rfl|assumption) :
  PS X (.Assign [.Name x pos'] (.ListComp elt [⟨tg,iter,ifs,0⟩] scope pos) spos) (Zo0 (Zow wi g tt te js) (Ze4 i)):=by
 intro pins s σ H D I h
 rw[exec_Assign_Name_used _ _ _ _ hsw]
 refine wpAny_bind (wpAny_standAt (wpAny_bind ?_))
 show wpAny _ _ (comprehension _ _ _ _ _ _ _ _ >>= _) _ _ _
 refine wpAny_bind (thn (Q:=λ_ s'=>∃σ' H',Inv X pins σ' H' s'/\D.nx σ' H') (Zkt (Q:=λv H1=>Ze4 i v σ H1 D.nx) (use:=some (assign (.Name x pos') X.env)) hc hok htk hi hg ht he hs ho hL I h ?_) λ_ s' ⟨σ',H',I',q⟩=>wpAny_pure (wpAny_pure ⟨σ',H',I',q⟩))
 intro D' C H' H2 s2 s' xs m I2 hHC e1 e2 hn hI q
 obtain⟨oC,es,ep,hoC,hdC,hrest⟩:=id hn
 have leC:s2.heap.objs.size<=C:=by rw[e1,e2];exact Nat.le_succ _
 have ltC:s2.heap.objs.size<C:=by rw[e1,e2];exact Nat.lt_succ_self _
 have neDC:C≠D':=by rw[e2];exact Nat.ne_of_gt ltC
 have fresh:s2.heap.get? C=none:=by
  cases e:s2.heap.get? C with
  |none=>rfl
  |some o=>exact absurd (Nat.lt_of_lt_of_le (Heap.lt_size e) leC) (Nat.lt_irrefl _)
 have neL:C≠X.env.locals:=Nat.ne_of_gt (Nat.lt_of_lt_of_le I2.lt leC)
 have nfs:C∉X.fs:=I2.Znd leC
 have ncl:∀x c,X.env.cells.lookup x=some c->c≠C:=λx c e z=>by
  obtain⟨v,q⟩:=I2.cell x c e
  exact absurd (Nat.lt_of_lt_of_le q.lt leC) (by rw[z];exact Nat.lt_irrefl _)
 have npn:∀p∈X.pn++pins,p.1≠C:=λp hp z=>by
  have:=(I2.pin p hp).1
  rw[z,fresh]at this;cases this
 have hH:(upd H' D' (HO.lst xs)) C=none:=by rw[Zj neDC];exact hHC
 have I0:=hI s'.heap ZgI
 have I1:Inv X (pins++[(C,oC)]) σ (upd H' D' (.lst xs)) s':=I0.ZX λp hp=>by
  rcases List.mem_append.mp hp with z|z
  ·exact I0.pin p (List.mem_append_right _ z)
  ·simp only[List.mem_cons,List.not_mem_nil,or_false]at z
   subst z
   exact⟨hoC,hH,neL,nfs,λv z=>by rw[hdC]at z;cases z⟩
 show wpAny _ _ _ _ _ _
 refine thn (Zm (X:=X) (i:=i) hN hxi hx hf (pins++[(C,oC)]) s' σ _ (.ref D') (.ref D') _ I1 rfl q) λ_ s3 ⟨σ3,H3,I3,q3⟩=>?_
 have pC:=I3.pin (C,oC) (List.mem_append_right _ (List.mem_append_right _ (.head _)))
 refine⟨m,⟨oC,es,ep,pC.1,hdC,hrest⟩,λh' hsb=>⟨σ3,H3,?_,q3⟩⟩
 exact I3.Zb5.turned (t':=s3.toks) (it:=C) (λb o hb e=>hsb.extBut b o hb e) pC.2.1 neL (.inr (Nat.le_trans I2.sz leC)) ncl npn
end
end L2
namespace L2
open PySem PySem.Spec PyProof.Rows PySem.W
noncomputable def CF (n:Nat) (P:Nat->Bool) (vals:Nat->V) (H1:Hp) (i m:Nat) (acc:List V) (H:Hp):Prop:=m=n-i/\i<=n/\acc=((List.range i).filter P).map vals/\Zh H1 H
theorem CF.take {n:Nat}{P:Nat->Bool}{vals:Nat->V}{H1 H:Hp}{i:Nat}{v:V} (hi:i<n) (hP:P i=true) (hv:v=vals i) (s:Zh H1 H):∃m',m'<n-i/\CF n P vals H1 (i+1) m' (((List.range i).filter P).map vals++[v]) H :=
 ⟨n-(i+1),by omega,rfl,hi,by rw[List.range_succ,List.filter_append,List.map_append,hv];simp[hP],s⟩
theorem CF.skip {n:Nat}{P:Nat->Bool}{vals:Nat->V}{H1 H:Hp}{i:Nat} (hi:i<n) (hP:P i=false) (s:Zh H1 H):∃m',m'<n-i/\CF n P vals H1 (i+1) m' (((List.range i).filter P).map vals) H :=
 ⟨n-(i+1),by omega,rfl,hi,by rw[List.range_succ,List.filter_append,List.map_append];simp[hP],s⟩
theorem Zhn {J:It}{n:Nat}{H1:Hp}{g:TG}{tt:TT}{te:TE}{σ0:St}{Q:VK} (P:Nat->Bool) (vals:Nat->V) (hn:n<sizeLine) (hgo:∀i H,Zh H1 H->i<n->J.go i H) (hstop:∀H,Zh H1 H->J.stop n H)
  (hb:∀i x H H',i<n->Zh H1 H->J.yld i H x H'->g x σ0 H' fun σ2 H2=>tt σ2 H2 λb H3=>if b=true then te σ2 H3 λv H4=>∃m',m'<n-i/\CF n P vals H1 (i+1) m' (((List.range i).filter P).map vals++[v]) H4 else ∃m',m'<n-i/\CF n P vals H1 (i+1) m' (((List.range i).filter P).map vals) H3)
  (hk:∀l H',Zh H1 H'->H' l=none->Q (.ref l) (upd H' l (.lst (((List.range n).filter P).map vals)))) :
  Zko J g tt te σ0 Q H1:=by
 refine⟨CF n P vals H1,⟨n,rfl,Nat.zero_le _,rfl,Zh.refl _⟩,?_⟩
 rintro i m acc H ⟨rfl,hi,rfl,s⟩
 have hlen:(((List.range i).filter P).map vals).length<=n:=by
  rw[List.length_map]
  have:=List.length_filter_le P (List.range i)
  rw[List.length_range]at this
  omega
 by_cases h:i<n
 ·exact .inr ⟨hgo i H s h,by omega,λx H' y=>hb i x H H' h s y⟩
 ·have:i=n:=by omega
  subst this
  exact .inl ⟨hstop H s,by omega,λp hp=>hk p H s hp⟩
noncomputable def CRv (rs:Nat->List Int) (H1:Hp) (i:Nat) (acc:List V) (H:Hp):Prop:=Zh H1 H/\∃as:List Addr,acc=as.map V.ref/\as.length=i/\∀(k:Nat) (a:Addr),as[k]?=some a->H a=some (.lst ((rs k).map V.int))
theorem CRv.take {rs:Nat->List Int}{H1 H H':Hp}{i:Nat}{acc:List V}{a:Addr} (h:CRv rs H1 i acc H) (s:Zh H H') (ha:H' a=some (.lst ((rs i).map V.int))):CRv rs H1 (i+1) (acc++[.ref a]) H':=by
 obtain⟨s1,as,rfl,hl,h1⟩:=h
 refine⟨s1.trans s,as++[a],by simp,by simp[hl],λk b hk=>?_⟩
 by_cases z:k<as.length
 ·rw[List.getElem?_append_left z]at hk
  exact s _ _ (h1 k b hk)
 ·have hk2:=(List.getElem?_eq_some_iff.mp hk).1
  rw[List.length_append]at hk2
  have:k=as.length:=by simp at hk2;omega
  subst this
  rw[List.getElem?_append_right (Nat.le_refl _)]at hk
  simp at hk
  rw[<-hk,hl];exact ha
theorem Zdi.over {f:Nat->Int}{a b lo p:Nat} (h:Zdi f a b lo) (h1:a<=p) (h2:p<=b) (hne:p≠lo):Over f lo p:=by
 obtain⟨l1,l2,l3,l4⟩:=h
 rcases Nat.lt_or_gt_of_ne hne with z|z
 ·exact .inr ⟨z,λr r1 r2=>l3 r (by omega) r2⟩
 ·exact .inl ⟨z,λr r1 r2=>l4 r r1 (by omega)⟩
theorem ZiT {ns T:List Int}{g:Nat->Int} (hT:Zw ns T) (hg:∀q p,q<ns.length->p<ns.length->Over (nth ns) q p->(q<p->g q<=g p)/\(p<q->g q<g p)):∀p,p<ns.length->ZN g ns.length p (T.getD p 0):=by
 intro p hp
 have pv:∀q,Z7 (nth ns) p q->Z7 g p q:=λq h=>by
  refine⟨h.1,(hg q p (by have:=h.1;omega) hp (.inl ⟨h.1,λr r1 r2=>?_⟩)).1 h.1,λr r1 r2=>(hg p r hp (by omega) (.inr ⟨r2,λs s1 s2=>h.2.2 s (by omega) s2⟩)).2 r2⟩
  by_cases z:r=p
  ·rw[z];exact h.2.1
  ·have:=h.2.2 r r1 (by omega);have:=h.2.1;omega
 have nx:∀r,Zao (nth ns) ns.length p r->Zao g ns.length p r:=λq h=>by
  refine⟨h.1,h.2.1,(hg q p h.2.1 hp (.inr ⟨h.1,λr r1 r2=>?_⟩)).2 h.1,λs s1 s2=>(hg p s hp (by have:=h.2.1;omega) (.inl ⟨s1,λr r1 r2=>h.2.2.2 r r1 (by omega)⟩)).1 s1⟩
  by_cases z:r=p
  ·rw[z];exact h.2.2.1
  ·have:=h.2.2.2 r (by omega) r2;have:=h.2.2.1;omega
 have np:ZbN (nth ns) p->ZbN g p:=λh q hq=>(hg p q hp (by omega) (.inr ⟨hq,λr r1 r2=>h r r2⟩)).2 hq
 have nn:Zbx (nth ns) ns.length p->Zbx g ns.length p:=λh r r1 r2=>(hg p r hp r2 (.inl ⟨r1,λs s1 s2=>h s s1 (by omega)⟩)).1 r1
 have hE:ZN (nth ns) ns.length p (T.getD p 0):=hT.2 p hp
 rcases hE with⟨h1,h2,h⟩|⟨q,h1,h2,h⟩|⟨r,h1,h2,h⟩|⟨q,r,h1,h2,h⟩
 ·exact .inl ⟨np h1,nn h2,h⟩
 ·exact .inr (.inl ⟨q,pv q h1,nn h2,h⟩)
 ·exact .inr (.inr (.inl ⟨r,np h1,nx r h2,h⟩))
 ·refine .inr (.inr (.inr ⟨q,r,pv q h1,nx r h2,?_⟩))
  rw[h]
  have hq:q<ns.length:=by have:=h1.1;omega
  have hqr:q<r:=by have:=h1.1;have:=h2.1;omega
  by_cases z:nth ns q<=nth ns r
  ·have:=(hg q r hq h2.2.1 (.inl ⟨hqr,λs s1 s2=>by
    by_cases y:s=r
    ·rw[y];exact z
    ·by_cases y2:s=p
     ·rw[y2];exact h1.2.1
     ·have:=h1.2.1
      by_cases y3:s<p
      ·have:=h1.2.2 s s1 y3;omega
      ·have:=h2.2.2.2 s (by omega) (by omega);omega⟩)).1 hqr
   rw[if_pos z,if_pos (by omega)]
  ·have:=(hg r q h2.2.1 hq (.inr ⟨hqr,λs s1 s2=>by
    have:=h1.2.1;have:=h2.2.2.1
    by_cases y:s=q
    ·rw[y];omega
    ·by_cases y2:s=p
     ·rw[y2];omega
     ·by_cases y3:s<p
      ·have:=h1.2.2 s (by omega) y3;omega
      ·have:=h2.2.2.2 s (by omega) (by omega);omega⟩)).2 hqr
   rw[if_neg z,if_neg (by omega)]
end L2
namespace HT
open PySem PyProof.Rows
section
open PySem.SeqAt
open PySem.AutoSeq1 (wpAny_loadPart')
open PySem.MeetsSeq PySem.MeetsSeq2 PySem.MeetsSeq3
variable {prog:Program}{w:World}{A:Around}{E:Value->Shared->Prop}{s:Shared}
theorem ZgP {t sl:Addr}{items:Array Value}{vl vu:Value}{lo hi:Option Int}{Q:Value->Shared->Prop} (ht:IsTup s.heap t items) (hs:s.heap.IsSliceOf sl vl vu .none) (pl:IsPart vl lo) (pu:IsPart vu hi)
  (hw:sIx items.size 0 lo=0/\sIx items.size items.size hi=items.size) (h:Q (.ref t) s):wpAny (model prog w) A (getItem (.ref t) (.ref sl)) Q E s:=by
 obtain⟨os,hos,hcs,hds⟩:=id hs
 have hTs:s.TypeIs (.ref sl) "slice":=⟨os,hos,hcs⟩
 unfold getItem
 try with_reducible refine wpAny_holding ?_
 first|refine wpAny_bind (wpAny_pure ?_)|skip
 refine wpAny_bind (wpAny_sequenceKey ht.typeIs (by decide) ?_)
 refine wpAny_bind (wpAny_callSpecial?_slot (name:=Str.ofString "__getitem__") ht.typeIs PyProof.Rows.slot_tuple_getitem
  (wpAny_call_entry PyProof.Rows.slot_tuple_getitem ht.typeIs entry_tuple_getitem ?_ (args_tuple_getitem _ _)))
 show wpAny _ _ (Builtin.Tuple.tupleItemsOf (.ref t) >>= _) _ _ s
 refine wpAny_bind (tupleItemsOf_ ht ?_)
 refine wpAny_bind (wpAny_typeOf hTs ?_)
 rw[if_pos (by decide)]
 refine wpAny_bind (ZdO hs pl pu ?_)
 have hyes:(((sIx items.size 0 lo:Nat):Int)==0&&(1:Int)==1&&(sIx items.size items.size hi-sIx items.size 0 lo)==items.size)=true:=by
  rw[hw.1,hw.2];simp
 show wpAny _ _ (if (((sIx items.size 0 lo:Nat):Int)==0&&(1:Int)==1&&(sIx items.size items.size hi-sIx items.size 0 lo)==items.size)=true then _ else _) _ _ s
 rw[if_pos hyes]
 refine wpAny_bind ?_
 unfold Builtin.Tuple.tupleIsExact
 refine wpAny_bind (wpAny_typeOf ht.typeIs (wpAny_pure ?_))
 rw[if_pos (by decide)]
 refine wpAny_bind (wpAny_rule ?_)
 first
  |exact wpAny_pure ⟨_,rfl,wpAny_pure h⟩
  |exact wpAny_bind (wpAny_pure (wpAny_pure ⟨_,rfl,wpAny_pure h⟩))
  |exact wpAny_bind (wpAny_pure ⟨_,rfl,wpAny_pure h⟩)
end
end HT
namespace L2
open PySem PySem.Spec PyProof.Rows PySem.W
section
variable {X:Cx}
noncomputable def rSlQ (K:Frag):V->Option Int->Option Int->Hp->VK->Prop:=λx lo hi H Q=>∃a xs,x=.ref a/\((SqL K H a xs/\∀p,H p=none->Q (.ref p) (upd H p (.lst (Ze8 xs lo hi)))) \/
 (SqT K H a xs/\(HT.sIx xs.length 0 lo=0/\HT.sIx xs.length xs.length hi=xs.length->Q (.ref a) H)/\(¬ (HT.sIx xs.length 0 lo=0/\HT.sIx xs.length xs.length hi=xs.length)->∀p,H p=none->Q (.ref p) (upd H p (.tup (Ze8 xs lo hi))))))
theorem sl_q {K:Frag} (hK:X.K=K):SlR X (rSlQ K):=by
 subst hK
 intro pins s σ H x v vl vu lo hi sl Q I rx hs pl pu h
 obtain⟨a,xs,rfl,h|⟨hx,h1,h2⟩⟩:=h
 ·exact Ziw pins s σ H _ v vl vu lo hi sl Q I rx hs pl pu ⟨a,xs,rfl,h⟩
 ·by_cases hw:HT.sIx xs.length 0 lo=0/\HT.sIx xs.length xs.length hi=xs.length
  ·cases rx
   obtain⟨its,r,ht,hz⟩:=I.tuple hx
   have hlen:its.toArray.size=xs.length:=by rw[List.size_toArray];exact r.length.symm
   refine⟨"tuple",_,PyProof.Rows.slot_tuple_getitem.lookup,ht.typeIs,?_⟩
   exact HT.ZgP ht hs pl pu (by rw[hlen];exact hw) ⟨.ref a,H,I,rfl,h1 hw⟩
  ·exact sl_tup pins s σ H _ v vl vu lo hi sl Q I rx hs pl pu ⟨a,xs,rfl,hx,hw,h2 hw⟩
end
section
variable {X:Cx}{tg l:Expr}{tl:TE}
theorem Zma {K:Frag} (hK:X.K=K) (hl:PE X l tl):PI X tg l (Zoj K tl):=hK▸ZaM hl
end
theorem Zpm {xs:List V}{lo hi:Option Int} (h:HT.sIx xs.length 0 lo=0/\HT.sIx xs.length xs.length hi=xs.length):Ze8 xs lo hi=xs:=by
 unfold Ze8
 rw[h.1,h.2];simp
theorem Zmb (T:List Int):∀k a,(Z5 T k a).length<k->Z5 T (k+1) a=Z5 T k a
 |0,_,h=>by omega
 |k+1,a,h=>by
  rw[Z5]at h⊢
  by_cases z:0<=a/\a<T.length
  ·rw[if_pos z]at h⊢
   rw[Zmb T k _ (by simpa using h),Z5,if_pos z]
  ·rw[if_neg z]at h⊢
   rw[Z5,if_neg z]
noncomputable def way (T:List Int) (p:Nat):List Nat:=Z5 T T.length (nth T p)
theorem Zlb {T:List Int}{p:Nat} (h:nth T p=-1):way T p=[]:=by
 unfold way
 rw[h]
 cases T.length with
 |zero=>rfl
 |succ k=>rw[Z5,if_neg (by omega)]
theorem Zfb {ns T:List Int} (hT:Zw ns T) {p q:Nat} (hp:p<ns.length) (h:nth T p=q):way T p=q::way T q:=by
 have hE:ZN (nth ns) ns.length p (q:Int):=h▸hT.2 p hp
 have hq:q<ns.length:=by
  rcases ZcR hp hE with z|⟨q',e,z,_⟩<;>omega
 have hd:=Zhl hp hE
 have hl:=ZiQ (f:=nth ns) hp
 unfold way
 rw[h,hT.1]
 obtain⟨k,hk⟩:∃k,ns.length=k+1:=⟨ns.length-1,by omega⟩
 rw[hk,Z5,if_pos ⟨by omega,by rw[hT.1];omega⟩,show((q:Nat):Int).toNat=q by omega]
 rw[Zmb T k (nth T q)]
 rw[(ZgL hT k q hq (by omega)).2]
 omega
theorem Z0 (T:List Int) (p:Nat):Zak T p=(way T p).map λq=>((q:Nat):Int):=rfl
theorem ZA {ns T:List Int} (hT:Zw ns T) {p:Nat} (hp:p<ns.length):nth T p=-1\/∃q:Nat,nth T p=q/\q<ns.length/\Over (nth ns) q p/\dep (nth ns) ns.length p=dep (nth ns) ns.length q+1:=by
 rcases ZcR hp (hT.2 p hp)with z|⟨q,e,hq,hO⟩
 ·exact .inl z
 ·have e':nth T p=(q:Int):=e
  have hE:ZN (nth ns) ns.length p (q:Int):=e'▸hT.2 p hp
  exact .inr ⟨q,e,hq,hO,Zhl hp hE⟩
noncomputable def Zav (T:List Int) (p:Nat):Nat:=((way T p).filter λo=>decide (p<o)).length
noncomputable def Ze (T:List Int):List Int:=(List.range T.length).map λp=>(Zav T p:Int)
theorem ZY (T:List Int):(Ze T).length=T.length:=by simp[Ze]
theorem Zaa {T:List Int}{p:Nat} (h:p<T.length):nth (Ze T) p=Zav T p:=by simp[nth,Ze,List.getD_eq_getElem?_getD,h]
theorem ZbO {P Q:Nat->Bool}{l:List Nat} (h:∀x∈l,P x=Q x):(l.filter P).length=(l.filter Q).length:=by
 rw[List.filter_congr h]
theorem Zbz {ns T:List Int} (hT:Zw ns T) {p o:Nat} (hp:p<ns.length):o∈way T p↔o<ns.length/\Over (nth ns) o p:=by
 unfold way
 rw[hT.1]
 exact(ZgL hT ns.length p hp (Nat.le_of_lt (ZiQ hp))).1 o
theorem Zpn {f:Nat->Int}{o q p:Nat} (h:Over f o q) (k:Over f q p):(p<q->p<o->q<o)/\(q<p->q<o->p<o):=by
 refine⟨λh1 h2=>Nat.lt_of_not_le λz=>?_,λh1 h2=>Nat.lt_of_not_le λz=>?_⟩
 ·rcases h with⟨a,b⟩|⟨a,b⟩
  ·rcases k with⟨c,d⟩|⟨c,d⟩
   ·omega
   ·have:=d o (by omega) a;have:=b q a (Nat.le_refl _);omega
  ·omega
 ·rcases h with⟨a,b⟩|⟨a,b⟩
  ·omega
  ·rcases k with⟨c,d⟩|⟨c,d⟩
   ·have:=d o h2 z;have:=b q (Nat.le_refl _) a;omega
   ·omega
theorem Zho {ns T:List Int} (hT:Zw ns T) {p q:Nat} (hp:p<ns.length) (hq:q<ns.length) (h:nth T p=q) (hO:Over (nth ns) q p):Zav T p=Zav T q+if p<q then 1 else 0:=by
 unfold Zav
 rw[Zfb hT hp h,List.filter_cons]
 have e:((way T q).filter λo=>decide (p<o)).length=((way T q).filter λo=>decide (q<o)).length:=by
  refine ZbO λo ho=>?_
  have ho':=((Zbz hT hq).mp ho).2
  have hs:=Zpn ho' hO
  have hne:=hO.ne
  have hne2:=ho'.ne
  rw[Bool.eq_iff_iff,decide_eq_true_eq,decide_eq_true_eq]
  rcases Nat.lt_or_gt_of_ne hne with z|z
  ·exact⟨λy=>by omega,λy=>hs.2 z y⟩
  ·exact⟨λy=>hs.1 z y,λy=>by omega⟩
 by_cases z:p<q
 ·rw[if_pos (by simpa using z),if_pos z,List.length_cons,e]
 ·rw[if_neg (by simpa using z),if_neg z,e,Nat.add_zero]
theorem ZgQ {ns T:List Int} (hT:Zw ns T) {R:Nat->Nat->Prop} (h1:∀p q,p<ns.length->q<ns.length->nth T p=q->Over (nth ns) q p->R q p) (h2:∀o q p,Over (nth ns) o q->Over (nth ns) q p->R o q->R q p->R o p) :
  ∀d p o,p<ns.length->o<ns.length->dep (nth ns) ns.length p=d->Over (nth ns) o p->R o p:=by
 intro d
 induction d with
 |zero =>
  intro p o hp ho hd hO
  rcases ZA hT hp with z|⟨q,e,hq,hOq,hdq⟩
  ·exact absurd hO (ZfP hp ho (z▸hT.2 p hp))
  ·omega
 |succ d ih =>
  intro p o hp ho hd hO
  rcases ZA hT hp with z|⟨q,e,hq,hOq,hdq⟩
  ·exact absurd hO (ZfP hp ho (z▸hT.2 p hp))
  ·rcases(ZiO hp ho (show ZN (nth ns) ns.length p (q:Int)from(show T.getD p 0=(q:Int)from e)▸hT.2 p hp)).mp hO with y|y
   ·rw[y];exact h1 p q hp hq e hOq
   ·exact h2 o q p y hOq (ih q o hq ho (by omega) y) (h1 p q hp hq e hOq)
theorem Zku {ns T:List Int} (hT:Zw ns T) {p o:Nat} (hp:p<ns.length) (ho:o<ns.length) (hO:Over (nth ns) o p):Zav T o<=Zav T p/\(p<o->Zav T o<Zav T p):=by
 refine ZgQ hT (R:=λo p=>Zav T o<=Zav T p/\(p<o->Zav T o<Zav T p)) (λp q hp hq e hO=>?_) (λo q p h1 h2 r1 r2=>?_) _ p o hp ho rfl hO
 ·have:=Zho hT hp hq e hO
  refine⟨by omega,λz=>?_⟩
  rw[if_pos z]at this;omega
 ·refine⟨Nat.le_trans r1.1 r2.1,λz=>?_⟩
  by_cases y:p<q
  ·have:=r2.2 y;have:=r1.1;omega
  ·have hne:=h2.ne
   have:=r1.2 (by omega);have:=r2.1;omega
section
variable {X:Cx}{pins:List (Addr×Obj)}{σ:St}{H:Hp}{s:Shared}{h':Heap}
theorem Inv.Ztx {t':Nat}{fp:List Addr}{T:Addr}{o:HO} (I:Inv X pins σ H s) (k:∀b u,b∉fp->s.heap.get? b=some u->h'.get? b=some u) (hf:∀b∈fp,FpOk X pins H b) (hT:s.heap.objs.size<=T) (new:Zau X.prog X.w (upd H T o) h' T o) :
  Inv X pins σ (upd H T o) {s with heap:=h',toks:=t'}:=by
 have nit:∀b u,H b=some u->b∉fp:=λb u e z=>by rw[(hf b z).1]at e;cases e
 have hfr:H T=none:=I.hok.fresh hT
 have neT:∀b u,s.heap.get? b=some u->b≠T:=λb u e z=>absurd (Heap.lt_size e) (by rw[z];exact Nat.not_lt_of_le hT)
 have neH:∀b u,H b=some u->b≠T:=λb u e z=>by rw[z,hfr]at e;cases e
 refine I.step (g':=s.gens) (d':=s.drawn) (ch:=fp) (λb hb=>?_) (λb o _ _ hc e _=>k b o hc e) (λb o _ _ hc e _=>⟨o.slots,k b o hc e⟩) (λb u _ e n=>by rw[Zj (neT b u e)];exact n)
  (λb o hc e=>⟨o,k b o hc e⟩) (λb xs e=>by rw[Zj (neH b _ e)];exact e) (λb o u e=>by rw[Zj (neH b _ e)];exact e) (λb ps e=>⟨#[],by rw[Zj (neH b _ e),e];simp⟩) (λm hm=>?_) (λb u e=>?_) I.bare
 ·obtain⟨_,f1,_,f3,f4,f5⟩:=hf b hb
  exact⟨f3,f1,f4,f5⟩
 ·obtain⟨o,es,ep,ho,r⟩:=hm
  exact⟨o,es,ep,k _ o (λz=>(hf _ z).2.1 rfl) ho,r⟩
 ·by_cases z:b=T
  ·subst z
   rw[Zd]at e;cases e
   exact new
  ·rw[Zj z]at e
   refine(I.hok b u e).Zih (λc v hc q=>k c v ?_ q) (λc q=>?_) (λc xs q=>?_) λc o u q=>?_
   ·rcases hc with y|y
    ·rw[y];exact nit b u e
    ·exact nit c _ y
   ·rw[Zj (neH _ _ q)];exact q
   ·rw[Zj (neH _ _ q)];exact q
   ·rw[Zj (neH _ _ q)];exact q
noncomputable def Ite (K : Frag) (a : Addr) : It :=
  ⟨fun i H => ∃ xs x, SqL K H a xs ∧ xs[i]? = some x,
   fun i H v H' => ∃ p x, H p = none ∧ v = .ref p ∧ H' = upd H p (.tup [.int (i : Int), x]) ∧ ∀ xs, SqL K H a xs → xs[i]? = some x,
   fun i H => ∃ xs, SqL K H a xs ∧ xs.length = i⟩
theorem Zpo {P:Program}{w:World}{K:Frag}{elts:List Expr} {x1}{pos:Pos}{a e it:Addr} (h1:e≠it) (h2:a≠e) (h3:a≠it) :
  Turn P w K (.Tuple elts x1 pos) (Ite K a) [e,it] e (λi h=>(∃old,IsEnum h e it (i:Int) old)/\h.IsListIter it a i) where
 mem:=by simp
 obj:=λi h st c hc=>by
  obtain⟨⟨old,q1⟩,⟨o4,q4,_,d4⟩⟩:=st
  simp at hc
  rcases hc with rfl|rfl
  ·exact⟨_,q1,λv z=>by cases z⟩
  ·exact⟨_,q4,λv z=>by rw[d4]at z;cases z⟩
 keep:=λi h h' st k=>by
  obtain⟨⟨old,q1⟩,q4⟩:=st
  exact⟨⟨old,k e (by simp) _ q1⟩,q4.at λo z=>k it (by simp) o z⟩
 item:=by
  intro X hP hw hK hc i pins s σ H E I hf st hg
  subst hP hw hK
  obtain⟨xs,x,qa,hx⟩:=hg
  obtain⟨is1,r1,p1,hz1⟩:=I.list qa
  obtain⟨u,hu,ru⟩:=r1.get hx
  have W:=WalksT.enumerate (prog:=X.prog) (w:=X.w) (I.ok.hd hc) e it a h1 h2 h3 is1.toArray
  have hi:i<is1.toArray.size:=by
   have:=(List.getElem?_eq_some_iff.mp hu).1
   simpa using this
  refine W.item i s _ E hi ⟨st.1,st.2,p1.isList⟩ λT vals h' tk Pt hT hTup Mid keep=>⟨_,rfl,W.go elts x1 pos i T _ _ E Mid λh2' St2 keep2=>?_⟩
  obtain⟨t,y,hy,rfl⟩:=Pt
  have hyu:y=u:=by
   have:is1[i]?=some y:=by simpa using hy
   rw[hu]at this;exact(Option.some.inj this).symm
  subst hyu
  have nT:=W.apart i T h' Mid
  have hfr:H T=none:=I.hok.fresh hT
  have kk:∀b o,b∉[e,it]->s.heap.get? b=some o->h2'.get? b=some o:=λb o hb q=>keep2 b o hb (keep b o hb q)
  have nTe:∀c∈[e,it],c≠T:=λc hc z=>nT (z▸hc)
  refine⟨.ref T,_,Inv.Ztx (s:=s) (t':=tk) (o:=.tup [.int (i:Int),x]) I kk hf hT ?_,rfl,⟨T,x,hfr,rfl,rfl,λxs' q'=>?_⟩,⟨?_,St2.2.1⟩,λc hc=>?_⟩
  ·obtain⟨oT,q1,q2,n,q3⟩:=hTup
   exact⟨by show 2<=sizeLine;decide,[.int (i:Int) t,y],.cons ⟨t,rfl⟩ (.cons ru .nil),⟨oT,keep2 T oT nT q1,q2,n,q3⟩⟩
  ·rw[I.Zb4 q' qa];exact hx
  ·obtain⟨old,q⟩:=St2.1
   exact⟨old,by rw[show(((i+1:Nat)):Int)=(i:Int)+1 by omega]at *;exact q⟩
  ·rw[Zj (nTe c hc)];exact(hf c hc).1
 done:=by
  intro X hP hw hK hc i pins s σ H E I hf st hg
  subst hP hw hK
  obtain⟨xs,qa,hx⟩:=hg
  obtain⟨is1,r1,p1,_⟩:=I.list qa
  have W:=WalksT.enumerate (prog:=X.prog) (w:=X.w) (I.ok.hd hc) e it a h1 h2 h3 is1.toArray
  have hi:i=is1.toArray.size:=by
   have:=r1.length
   simp;omega
  refine W.done s _ E ?_ λh' tk keep=>⟨rfl,I.ZgJ (t':=tk) (fp:=[e,it]) (λc o hc q=>keep c o hc q) hf⟩
  rw[<-hi]
  exact⟨st.1,st.2,p1.isList⟩
 self:=λA i s Q E st h=>by
  obtain⟨⟨old,q⟩,_⟩:=st
  exact wpAny_pyIter_enum q h
noncomputable def ZrC (K:Frag) (ta:TA):TI:=fun σ H R=>ta σ H λvs H1=>∃a xs,vs=[.ref a]/\SqL K H1 a xs/\R (Ite K a) H1
theorem Zny:bootBuiltins "enumerate"=some (.type "enumerate"):=by decide +kernel
theorem Zlc {K:Frag}{elts:List Expr} {x1}{tp:Pos}{e1:Expr}{ta:TA}{p pos:Pos} (hK:X.K=K) (hg:Gl X "enumerate") (hm:X.mg "enumerate"=none) (ha:PA X [e1] ta) (hs:starEach [e1] X.env=[(false,eval e1 X.env)]:=by rfl) :
  PI X (.Tuple elts x1 tp) (.Call (.Name "enumerate" p) [e1] [] pos) (ZrC K ta):=by
 subst hK
 intro pins s σ H R I h
 refine wpAny_Call_Name_kw (ZbK I hg hm Zny ?_)
 refine PyProof.Rows.callWith_type1 (thn (ha pos pins s σ H _ I h) λus s1 ⟨vs,H1,I1,r1,a,xs,e1,qa,q⟩=>?_) hs rfl
 subst e1
 obtain⟨u,rfl,ru⟩:=r1.one
 cases(show u=Value.ref a from ru)
 obtain⟨is1,rr1,p1,_⟩:=I1.list qa
 refine call_enumerate_list p1.isList λh' c1 c2 c3 c4=>?_
 have l1:a<s1.heap.objs.size:=by obtain⟨o,e,_⟩:=p1.isList;exact Heap.lt_size e
 have sm:∀b,s1.heap.objs.size<=b->FpOk X pins H1 b:=λb hb=>I1.Zo1 hb (I1.hok.fresh hb)
 have n1:s1.heap.objs.size+1≠s1.heap.objs.size:=by show ¬ ((_:Nat)=_);omega
 have n2:a≠s1.heap.objs.size+1:=Nat.ne_of_lt (Nat.lt_succ_of_lt l1)
 have n3:a≠s1.heap.objs.size:=Nat.ne_of_lt l1
 have T:=Zpo (P:=X.prog) (w:=X.w) (K:=X.K) (elts:=elts) (x1:=x1) (pos:=tp) n1 n2 n3
 refine T.self _ 0 _ _ _ ⟨⟨_,c1⟩,c2⟩ ?_
 refine⟨_,[s1.heap.objs.size+1,s1.heap.objs.size],_,_,H1,rfl,I1.kept (t':=s1.toks) c4,T,⟨⟨_,c1⟩,c2⟩,λc hc=>?_,q⟩
 simp at hc
 rcases hc with rfl|rfl<;>exact sm _ (by omega)
end
theorem Zpp {prog:Program}{w:World}{A:Around}{R:Result->Shared->Prop}{I:Addr}{fp wr:List Addr}{n:Nat}{P:Nat->Value->Prop}{St:Nat->Heap->Prop} (W:Walks prog w A.in1 I fp wr n P St) (bt:Nat->Nat->Bool) (hc:CmpOf prog w A.in1 .Gt P bt)
  (S:Addr) (hS:S∉fp) (dk:Str) (d:Value) (h0:Heap) (s0:Shared)
  (hR0:n=0->∀h' tk,(∀b o,b∉wr->b≠S->h0.get? b=some o->h'.get? b=some o)->R (.ok (.ret d)) {s0 with heap:=h',toks:=tk})
  (hR:0<n->∀v h' tk,P (argBest bt (n-1)) v->(∀b o,b∉wr->b≠S->h0.get? b=some o->h'.get? b=some o)->R (.ok (.ret v)) {s0 with heap:=h',toks:=tk}) :
  ∀(k j:Nat) (h:Heap) (tk:Nat),n-j=k->j<=n->St j h->(∀b o,b∉wr->b≠S->h0.get? b=some o->h.get? b=some o) ->
   ((j=0/\∃c,h.get? S=some {cls:=.type "list",data:=.seq #[] c})\/(0<j/\∃vb c,P (argBest bt (j-1)) vb/\h.get? S=some {cls:=.type "list",data:=.seq #[vb,vb] c})) ->
   codeAny (model prog w) A (.builtin "max.loop" {pos:=[.ref I,.none,.ref S],kw:=[(dk,d)]}) R {s0 with heap:=h,toks:=tk}:=by
 intro k
 induction k with
 |zero =>
  intro j h tk hk hj hst keep hb
  refine codeAny_builtin F.entry_max_loop ?_
  have hjn:j=n:=by omega
  subst hjn
  rcases hb with⟨hj0,c,hb⟩|⟨hj0,vb,c,hvb,hb⟩
  ·show wpAny _ _ (_ >>= _) _ _ _
   refine wpAny_bind (wpAny_seqItems hb rfl ?_)
   refine wpAny_bind (wpAny_tryCatch (W.done _ _ _ hst λh' tk' kp=>?_))
   refine wpAny_bind (wpAny_rule (wpAny_pure ?_))
   exact hR0 hj0 h' tk' λb o hb1 hb2 e=>kp b o hb1 (keep b o hb1 hb2 e)
  ·show wpAny _ _ (_ >>= _) _ _ _
   refine wpAny_bind (wpAny_seqItems hb rfl ?_)
   refine wpAny_bind (wpAny_tryCatch (W.done _ _ _ hst λh' tk' kp=>?_))
   have hS':S∉wr:=λz=>hS (W.sub S z)
   have hb':=kp S _ hS' hb
   refine wpAny_bind (wpAny_updateSeq hb' rfl ?_ (show 2<=sizeLine by decide) (Nat.zero_le _))
   refine wpAny_bind (wpAny_letGo (wpAny_pure ?_))
   refine hR hj0 vb _ tk' hvb λb o hb1 hb2 e=>?_
   exact(Heap.get?_update_other _ _ (Ne.symm hb2)).trans (kp b o hb1 (keep b o hb1 hb2 e))
 |succ k ih =>
  intro j h tk hk hj hst keep hb
  refine codeAny_builtin F.entry_max_loop ?_
  have hjn:j<n:=by omega
  have hS':S∉wr:=λz=>hS (W.sub S z)
  rcases hb with⟨hj0,c,hb⟩|⟨hj0,vb,c,hvb,hb⟩
  ·show wpAny _ _ (_ >>= _) _ _ _
   refine wpAny_bind (wpAny_seqItems hb rfl ?_)
   refine wpAny_bind (wpAny_tryCatch (W.item j _ _ _ hjn hst λv h' tk' hv hst' kp=>?_))
   have hb':=kp S _ hS' hb
   refine wpAny_bind (wpAny_pure ?_)
   refine wpAny_bind (wpAny_updateSeq hb' rfl ?_ (Nat.zero_le _) (show 2<=sizeLine+1 by decide))
   refine wpAny_pure ⟨rfl,?_⟩
   have e9:=PySem.IsL.update hb' (λ_=>#[v,v])
   refine ih (j+1) _ tk' (by omega) (by omega) (W.frame _ _ _ hst' λb hb1 o e=>?_) (λb o hb1 hb2 e=>?_) (.inr ⟨by omega,v,_,?_,e9⟩)
   ·exact(Heap.get?_update_other _ _ (show S≠b from λz=>hS (by rw[z];exact hb1))).trans e
   ·exact(Heap.get?_update_other _ _ (Ne.symm hb2)).trans (kp b o hb1 (keep b o hb1 hb2 e))
   ·rw[hj0];rw[hj0]at hv;exact hv
  ·show wpAny _ _ (_ >>= _) _ _ _
   refine wpAny_bind (wpAny_seqItems hb rfl ?_)
   refine wpAny_bind (wpAny_tryCatch (W.item j _ _ _ hjn hst λv h' tk' hv hst' kp=>?_))
   have hb':=kp S _ hS' hb
   obtain⟨j',rfl⟩:∃j',j=j'+1:=⟨j-1,by omega⟩
   have hvb':P (argBest bt j') vb:=hvb
   have eA:argBest bt (j'+1)=if bt (j'+1) (argBest bt j')=true then j'+1 else argBest bt j':=rfl
   refine wpAny_bind (wpAny_pure ?_)
   refine wpAny_bind (wpAny_tryCatch (wpAny_holding (wpAny_bind (hc (j'+1) (argBest bt j') v vb _ _ _ hv hvb' (wpAny_bind (wpAny_holding (wpAny_truthy_bool (wpAny_bind (wpAny_letGo (wpAny_pure ?_))))))))))
   by_cases z:bt (j'+1) (argBest bt j')=true
   ·rw[if_pos z]
    refine wpAny_bind (wpAny_updateSeq hb' rfl ?_ (show 2<=sizeLine by decide) (show 2<=sizeLine+1 by decide))
    refine wpAny_bind (wpAny_letGo (wpAny_pure ⟨rfl,?_⟩))
    have e9:=PySem.IsL.update hb' (λ_=>#[v,v])
    refine ih (j'+1+1) _ tk' (by omega) (by omega) (W.frame _ _ _ hst' λb hb1 o e=>?_) (λb o hb1 hb2 e=>?_) (.inr ⟨by omega,v,_,?_,e9⟩)
    ·exact(Heap.get?_update_other _ _ (show S≠b from λz=>hS (by rw[z];exact hb1))).trans e
    ·exact(Heap.get?_update_other _ _ (Ne.symm hb2)).trans (kp b o hb1 (keep b o hb1 hb2 e))
    ·show P (argBest bt (j'+1)) v
     rw[eA,if_pos z];exact hv
   ·rw[if_neg z]
    refine wpAny_bind (wpAny_letGo (wpAny_pure ⟨rfl,?_⟩))
    refine ih (j'+1+1) _ tk' (by omega) (by omega) hst' (λb o hb1 hb2 e=>kp b o hb1 (keep b o hb1 hb2 e)) (.inr ⟨by omega,vb,_,?_,hb'⟩)
    show P (argBest bt (j'+1)) vb
    rw[eA,if_neg z];exact hvb'
theorem Zpq (a d:Value):argsOk "max" {pos:=[a],kw:=[("default",d)]}:=by first|rfl|decide
theorem Zpr {prog:Program}{w:World}{A:Around}{E Q:Value->Shared->Prop}{s:Shared}{l:Addr}{xs:Array (Int×Tok)}{d:Value} (hA:A.handled=none) (hl:s.heap.IsList l (intItems xs))
  (q0:xs.size=0->∀h' tk,(∀b o,s.heap.get? b=some o->h'.get? b=some o)->Q d {s with heap:=h',toks:=tk})
  (q1:0<xs.size->∀v h' tk,(intItems xs)[argBest (λi j=>decide (numAt xs i>numAt xs j)) (xs.size-1)]?=some v->(∀b o,s.heap.get? b=some o->h'.get? b=some o)->Q v {s with heap:=h',toks:=tk}) :
  wpAny (model prog w) A (call (.builtin "max") [.ref l] [("default",d)]) Q E s:=by
 refine wpAny_call (codeAny_call_builtin_code rfl ?_)
 have hck:checkBuiltinCall "max" {pos:=[.ref l],kw:=[("default",d)]}=pure ():=by
  unfold checkBuiltinCall
  rw[F.kind_max]
  exact Zpq (.ref l) d
 rw[hck]
 refine wpAny_pure (codeAny_builtin F.entry_max ?_)
 show wpAny _ _ (_ >>= _) _ _ _
 have hbp:Builtin.Builtins.bindParams "max" ["key","default"] 0 {kw:=[("default",d)]}=pure [none,some d]:=by
  first|rfl|with_unfolding_all rfl|(simp[Builtin.Builtins.bindParams];done)
 refine wpAny_bind (wpAny_of_eq hbp (wpAny_bind (wpAny_pure (wpAny_bind (wpAny_pyIter_list hl ?_)))))
 refine wpAny_bind (wpAny_newObj_type ?_)
 refine wpAny_pure ⟨rfl,?_⟩
 have hlt:l<s.heap.objs.size:=by obtain⟨o,e,_⟩:=hl;exact Heap.lt_size e
 have n1:l≠s.heap.objs.size:=Nat.ne_of_lt hlt
 have esz:(s.heap.push {cls:=.type "list_iterator",data:=.fields #[.ref l,.int 0 0]}).objs.size=s.heap.objs.size+1:=Heap.size_push _ _
 have old:∀b o,s.heap.get? b=some o->((s.heap.push {cls:=.type "list_iterator",data:=.fields #[.ref l,.int 0 0]}).push {cls:=.type "list",data:=.seq #[]}).get? b=some o:=λb o e=>Heap.get?_push_of_some _ (Heap.get?_push_of_some _ e)
 have ne:∀b o,s.heap.get? b=some o->b∉[s.heap.objs.size]/\b≠(s.heap.push {cls:=.type "list_iterator",data:=.fields #[.ref l,.int 0 0]}).objs.size:=λb o e=>by
  have:=Heap.lt_size e
  refine⟨λz=>?_,λz=>?_⟩
  ·have:b=s.heap.objs.size:=by simpa using z
   exact absurd (Heap.lt_size e) (by rw[this];exact Nat.lt_irrefl _)
  ·rw[z,esz]at this
   exact absurd this (Nat.not_lt_of_le (Nat.le_succ _))
 have W:=Walks.list (prog:=prog) (w:=w) (A:=A.in1) hA s.heap.objs.size l n1 (intItems xs)
 have hitm:(intItems xs).size=xs.size:=by simp[intItems]
 refine Zpp W (λi j=>decide (numAt xs i>numAt xs j)) (CmpOf.ints_gt (numAt xs) λi v h=>intItems_at h) _ ?_ "default" d _ s (λz h' tk kp=>?_) (λz v h' tk hv kp=>?_) (intItems xs).size 0 _ _ rfl (Nat.zero_le _) ⟨?_,?_⟩ (λb o _ _ e=>e) (.inl ⟨rfl,_,Heap.get?_push_size _ rfl⟩)
 ·rw[esz]
  simp only[List.mem_cons,List.not_mem_nil,or_false,not_or]
  exact⟨Nat.ne_of_gt (Nat.lt_succ_self _),Nat.ne_of_gt (Nat.lt_succ_of_lt hlt)⟩
 ·exact q0 (by omega) h' tk λb o e=>kp b o (ne b o e).1 (ne b o e).2 (old b o e)
 ·exact q1 (by omega) v h' tk (by rw[<-hitm];exact hv) λb o e=>kp b o (ne b o e).1 (ne b o e).2 (old b o e)
 ·exact⟨_,Heap.get?_push_of_some _ (Heap.get?_push_size _ rfl),rfl,rfl⟩
 ·obtain⟨o,e,r⟩:=hl
  exact⟨o,old _ _ e,r⟩
section
variable {X:Cx}
noncomputable def ZrD (K:Frag) (ta td:TA):TE:=fun σ H Q=>ta σ H λvs H1=>td σ H1 λzs H2=>∃(p:Addr) (ns:List Int) (d:Int),vs=[.ref p]/\zs=[.int d]/\SqL K H2 p (ns.map V.int)/\(ns=[]->Q (.int d) H2)/\(ns≠[]->∀m,m∈ns->(∀a∈ns,a<=m)->Q (.int m) H2)
theorem Zty {K:Frag}{e:Expr}{kws:List Keyword}{ta td:TA}{p pos:Pos} (hK:X.K=K) (hc:X.calm=true) (hg:Gl X "max") (hm:X.mg "max"=none) (ha:PA X [e] ta) (hd:PK X kws td)
  (he:starEach [e] X.env=(false,eval e X.env)::starEach [] X.env:=by rfl) (hpl:(backTo pos (starEach [e] X.env)).any (·.1)=false:=by rfl) (hall:(backToKw pos (keywordEach kws X.env)).all (·.1.isSome)=true:=by rfl)
  (hnn:(backToKw pos (keywordEach kws X.env)).any (·.1.isNone)=false:=by rfl) (hks:(backToKw pos (keywordEach kws X.env)).filterMap (·.1)=[(("default":String):Str)]:=by rfl) (hb:backTo pos (starEach [e] X.env)=(false,eval e X.env)::backTo pos (starEach [] X.env):=by rfl) :
  PE X (.Call (.Name "max" p) [e] kws pos) (ZrD K ta td):=by
 subst hK
 intro pins s σ H Q I h
 refine wpAny_Call_Name_kw (ZbK I hg hm ZiJ ?_)
 refine PyProof.Rows.callWith_kw (thn (ha pos pins s σ H _ I h) λus s1 ⟨vs,H1,I1,r1,q1⟩=>?_) hb hpl hall hnn
 refine thn (hd pos pins s1 σ H1 _ I1 q1) λws s2 ⟨zs,H2,I2,r2,pp,ns,d,e1,e2,hp,q0,qm⟩=>?_
 subst e1 e2
 obtain⟨u,rfl,ru⟩:=r1.one
 obtain⟨v,rfl,rv⟩:=r2.one
 cases(show u=Value.ref pp from ru)
 rw[hks]
 obtain⟨its,rr,pl,hz⟩:=I2.list hp
 obtain⟨ys,e1,e2⟩:=Zox rr
 have hsz:ys.size=ns.length:=by
  have:=congrArg List.length e2
  rw[List.length_map,Array.length_toList]at this
  exact this
 refine Zpr (xs:=ys) (I2.ok.hd hc) (e1▸pl.isList) (λz h' tk k=>?_) (λz v' h' tk hv k=>?_)
 ·exact⟨.int d,H2,I2.kept k,rv,q0 (List.length_eq_zero_iff.mp (by omega))⟩
 ·obtain⟨t,rfl⟩:=intItems_at hv
  obtain⟨h1,h2⟩:=argBest_gt (numAt ys) (ys.size-1)
  refine⟨.int _,H2,I2.kept k,⟨t,rfl⟩,qm (λy=>by have h3:ys.size=0:=(by rw[hsz,y];rfl);omega) _ ?_ λa ha=>?_⟩
  ·rw[numAt_eq,e2];exact getD_mem (by omega)
  ·obtain⟨j,hj,rfl⟩:=mem_getD ha
   rw[<-e2,<-numAt_eq];exact h2 j (by omega)
end
section
variable {X:Cx}
noncomputable def Zld (K:Frag):V->List V->Hp->VK->Prop:=λx vs H Q=>∃(l:Addr) (xs:List V) (y:V) (j:Nat),x=.ref l/\vs=[y]/\SqL K H l xs/\xs.length<=100000/\xs.all flatV=true/\flatV y=true/\(∃z,xs[j]?=some z/\eqV z y=true)/\(∀(i:Nat) (z:V),i<j->xs[i]?=some z->eqV z y=false)/\Q (.int (j:Nat)) H
theorem Zps {K:Frag} (hK:X.K=K):MtM X "list.index" (Zld K):=by
 subst hK
 intro pins s σ H x vs v us Q I rx rv h
 obtain⟨l,xs,y,j,rfl,rfl,hH,hz,hf,hy,⟨z,hz1,hz2⟩,hb,q⟩:=h
 cases rx
 obtain⟨u,rfl,ru⟩:=rv.one
 obtain⟨its,r,pl,_⟩:=I.list hH
 have hlen:=r.length
 obtain⟨⟨cls,dd,data,sl⟩,ho,hc,n,hd⟩:=pl.isList
 simp only at hc hd
 subst hc hd
 have hj:j<xs.length:=(List.getElem?_eq_some_iff.mp hz1).1
 have at_:∀(i:Nat) (hi:i<its.length) (w:V),xs[i]?=some w->eqU y its[i]=eqV w y:=λi hi w hw=>by
  obtain⟨u',hu',r'⟩:=r.get hw
  have e:its[i]=u':=by
   rw[List.getElem?_eq_getElem hi]at hu';exact Option.some.inj hu'
  rw[e]
  exact Znk r' (List.all_eq_true.mp hf w (List.mem_of_getElem? hw))
 refine call_meets F.slot_list_index ⟨_,ho,rfl⟩ F.entry_list_index (F.args_list_index_2 _ _)
  (SeqAt.list_indexAt l its.toArray n dd sl u (eqU y) j (by rw[List.size_toArray];omega) (by omega) ?_ ?_) ⟨ho,λw hw=>ZgG ru hy r hf w (by simpa using hw),⟨.int _,H,I.tok _,⟨_,rfl⟩,q⟩⟩
 ·show eqU y its[j]=true
  rw[at_ j (by omega) z hz1];exact hz2
 ·intro i his hlt
  show eqU y its[i]=false
  have hi:i<its.length:=by simpa using his
  rw[at_ i hi xs[i] (List.getElem?_eq_getElem (by omega))]
  exact hb i _ hlt (List.getElem?_eq_getElem (by omega))
end
noncomputable def ZaY (f g:Nat->Int) (n:Nat):Prop:=∀a c,a+c<n->ZV f a c=ZV g a c
theorem ZaY.symm {f g:Nat->Int}{n:Nat} (h:ZaY f g n):ZaY g f n:=λa c k=>(h a c k).symm
theorem ZaY.over {f g:Nat->Int}{n o p:Nat} (h:ZaY f g n) (ho:o<n) (hp:p<n) (k:Over f o p):Over g o p:=by
 rcases k with⟨z,k⟩|⟨z,k⟩
 ·have i1:Zdi f o (o+(p-o)) o:=⟨Nat.le_refl _,by omega,λq q1 q2=>by omega,λq q1 q2=>k q q1 (by omega)⟩
  have e:=h o (p-o) (by omega)
  rw[(Zdj f o (p-o)).unique i1]at e
  have i2:=Zdj g o (p-o)
  rw[<-e]at i2
  exact .inl ⟨z,λr r1 r2=>i2.2.2.2 r r1 (by omega)⟩
 ·have i1:Zdi f p (p+(o-p)) o:=⟨by omega,by omega,λq q1 q2=>k q q1 q2,λq q1 q2=>by omega⟩
  have e:=h p (o-p) (by omega)
  rw[(Zdj f p (o-p)).unique i1]at e
  have i2:=Zdj g p (o-p)
  rw[<-e]at i2
  exact .inr ⟨z,λr r1 r2=>i2.2.2.1 r r1 (by omega)⟩
theorem ZaY.tree {ns ms T:List Int} (hT:Zw ns T) (hl:ms.length=ns.length) (h:ZaY (nth ns) (nth ms) ns.length):Zw ms T:=by
 refine⟨by rw[hl];exact hT.1,λp hp=>?_⟩
 rw[hl]at hp⊢
 refine ZiT hT (λq p hq hp hO=>?_) p hp
 rcases h.over hq hp hO with⟨z,k⟩|⟨z,k⟩
 ·exact⟨λ_=>k p z (Nat.le_refl _),λy=>by omega⟩
 ·exact⟨λy=>by omega,λ_=>k p (Nat.le_refl _) z⟩
theorem ZiU {ns ms T:List Int} (h1:Zw ns T) (h2:Zw ms T) {o p:Nat} (ho:o<ns.length) (hp:p<ns.length) (k:Over (nth ns) o p):Over (nth ms) o p:=by
 have hl:ms.length=ns.length:=h2.1.symm.trans h1.1
 exact((Zbz h2 (by omega)).mp ((Zbz h1 hp).mpr ⟨ho,k⟩)).2
theorem Znz {ns ms T:List Int} (h1:Zw ns T) (h2:Zw ms T):ZaY (nth ns) (nth ms) ns.length:=by
 intro a c hac
 have hl:=Zdj (nth ns) a c
 have hlt:=ZoI (nth ns) a c
 refine Zdi.unique (f:=nth ms) (a:=a) (b:=a+c) ⟨hl.1,hl.2.1,λq q1 q2=>?_,λq q1 q2=>?_⟩ (Zdj (nth ms) a c)
 ·have:=ZiU h1 h2 (by omega) (by omega) (hl.over (p:=q) (by omega) (by omega) (by omega))
  rcases this with⟨z,k⟩|⟨z,k⟩
  ·omega
  ·exact k q (Nat.le_refl _) q2
 ·have:=ZiU h1 h2 (by omega) (by omega) (hl.over (p:=q) (by omega) (by omega) (by omega))
  rcases this with⟨z,k⟩|⟨z,k⟩
  ·exact k q q1 (Nat.le_refl _)
  ·omega
theorem Ztz {ns ms S T:List Int} (h1:Zw ns S) (h2:Zw ms T):(ns.length=ms.length/\ZaY (nth ns) (nth ms) ns.length)↔(ns.length=ms.length/\S=T):=by
 refine⟨λh=>⟨h.1,?_⟩,λh=>⟨h.1,?_⟩⟩
 ·exact(ZaY.tree h1 h.1.symm h.2).unique h2
 ·rw[h.2]at h1;exact Znz h1 h2
theorem ZaY.mono {f g:Nat->Int}{n m:Nat} (h:ZaY f g n) (k:m<=n):ZaY f g m:=λa c z=>h a c (by omega)
noncomputable def Zay (f:Nat->Int) (n s:Nat):List Int:=(List.range (n-s)).map λa=>(ZV f a s:Int)-(a:Int)
noncomputable def Zej (f:Nat->Int) (n:Nat):List (List Int):=(List.range n).map (Zay f n)
noncomputable def Zca (f:Nat->Int) (n s:Nat):List Int:=(List.range (n-s)).map λa=>(ZV f a s:Int)
theorem Zmc (f:Nat->Int) (n:Nat):Zca f n 0=(List.range n).map λ(a:Nat)=>(a:Int):=by simp[Zca,ZV]
theorem Zle (f:Nat->Int) (n i:Nat):(List.range (i+1)).map (Zay f n)=(List.range i).map (Zay f n)++[Zay f n i]:=by rw[List.range_succ,List.map_append];rfl
noncomputable def Zcb (f g:Nat->Int) (x y size a m:Nat):Prop:=a+m<size/\(ZV f (x+a) m:Int)-(x+a:Nat)≠(ZV g (y+a) m:Int)-(y+a:Nat)/\(∀m',m'<m->∀a',a'+m'<size->(ZV f (x+a') m':Int)-(x+a':Nat)=(ZV g (y+a') m':Int)-(y+a':Nat)) /\
 ∀a',a'<a->(ZV f (x+a') m:Int)-(x+a':Nat)=(ZV g (y+a') m:Int)-(y+a':Nat)
noncomputable def ZrE (f g:Nat->Int) (x y size:Nat):Prop:=∀m a,a+m<size->(ZV f (x+a) m:Int)-(x+a:Nat)=(ZV g (y+a) m:Int)-(y+a:Nat)
theorem Zmd {f g:Nat->Int}{n:Nat}:ZrE f g 0 0 n↔ZaY f g n:=by
 refine⟨λh a c k=>?_,λh m a k=>?_⟩
 ·have:=h c a k
  rw[Nat.zero_add]at this
  omega
 ·rw[Nat.zero_add,h a m k]
theorem ZnA:bootBuiltins "abs"=some (.builtin "abs"):=by decide +kernel
theorem ZnB {f:Nat->Int}{n s a:Nat} (h:a<n-s):nth (Zca f n s) a=ZV f a s:=by simp[nth,Zca,List.getD_eq_getElem?_getD,h]
theorem ZcS (f:Nat->Int) (n s:Nat):(Zca f n s).length=n-s:=by simp[Zca]
theorem ZnC (f:Nat->Int) (a i:Nat):(if f (a+i)<f (ZV f a (i-1))then a+i else ZV f a (i-1))=ZV f a i:=by
 cases i with
 |zero=>simp[ZV]
 |succ k=>simp[ZV,Nat.add_assoc]
theorem Zhp {P:Nat->Prop}:∀n,¬ (∀j,j<n->P j)->∃j,j<n/\¬ P j/\∀i,i<j->P i
 |0,h=>absurd (λj hj=>by omega) h
 |n+1,h=>by
  by_cases z:∀j,j<n->P j
  ·exact⟨n,by omega,λy=>h λj hj=>by
    by_cases e:j=n
    ·rw[e];exact y
    ·exact z j (by omega),z⟩
  ·obtain⟨j,h1,h2,h3⟩:=Zhp n z
   exact⟨j,by omega,h2,h3⟩
theorem ZiV {f:Nat->Int}{n i:Nat}{K:Frag}{H:Hp}{l:Addr} (R:Rows H l (Zej f n)) (h:i<n):∃xs a,SqL K H l xs/\atI xs (i:Int)=some (.ref a)/\H a=some (.lst ((Zay f n i).map V.int)):=by
 have h':i<(Zej f n).length:=by simpa[Zej]using h
 obtain⟨xs,a,h1,h2,h3⟩:=R.at (K:=K) h'
 exact⟨xs,a,h1,h2,by rw[h3];simp[Zej]⟩
section
variable {X:Cx}
theorem Zhq:bootBuiltins "sorted"=some (.builtin "sorted"):=by decide +kernel
end
theorem Zme {f g:Nat->Int}{n a m:Nat} (h1:a+m<n) (h2:ZV f a m≠ZV g a m) (h3:∀m',m'<m->∀a',a'+m'<n->ZV f a' m'=ZV g a' m') (h4:∀a',a'<a->ZV f a' m=ZV g a' m):Zcb f g 0 0 n a m:=by
 refine⟨h1,?_,λm' hm' a' ha'=>?_,λa' ha'=>?_⟩
 ·rw[Nat.zero_add];omega
 ·rw[Nat.zero_add,h3 m' hm' a' ha']
 ·rw[Nat.zero_add,h4 a' ha']
theorem Zcb.low {f g:Nat->Int}{n a m:Nat} (h:Zcb f g 0 0 n a m):a+m<n/\ZV f a m≠ZV g a m/\(∀m',m'<m->∀a',a'+m'<n->ZV f a' m'=ZV g a' m')/\∀a',a'<a->ZV f a' m=ZV g a' m:=by
 obtain⟨h1,h2,h3,h4⟩:=h
 refine⟨h1,λe=>h2 (by rw[Nat.zero_add,e]),λm' hm' a' ha'=>?_,λa' ha'=>?_⟩
 ·have:=h3 m' hm' a' ha';rw[Nat.zero_add]at this;omega
 ·have:=h4 a' ha';rw[Nat.zero_add]at this;omega
theorem Zcb.symm {f g:Nat->Int}{n a m:Nat} (h:Zcb f g 0 0 n a m):Zcb g f 0 0 n a m:=by
 obtain⟨h1,h2,h3,h4⟩:=h.low
 exact Zme h1 h2.symm (λm' hm' a' ha'=>(h3 m' hm' a' ha').symm) (λa' ha'=>(h4 a' ha').symm)
theorem Zcb.unique {f g:Nat->Int}{n a m a' m':Nat} (h:Zcb f g 0 0 n a m) (k:Zcb f g 0 0 n a' m'):a=a'/\m=m':=by
 obtain⟨h1,h2,h3,h4⟩:=h.low
 obtain⟨k1,k2,k3,k4⟩:=k.low
 have hm:m=m':=by
  rcases Nat.lt_trichotomy m m' with z|z|z
  ·exact absurd (k3 m z a h1) h2
  ·exact z
  ·exact absurd (h3 m' z a' k1) k2
 subst hm
 refine⟨?_,rfl⟩
 rcases Nat.lt_trichotomy a a' with z|z|z
 ·exact absurd (k4 a z) h2
 ·exact z
 ·exact absurd (h4 a' z) k2
section
variable {prog:Program}{w:World}{A:Around}{E Q:Value->Shared->Prop}{s:Shared}{it t:Addr}{i:Nat}{items:Array Value}
theorem ZgR {x:Value} (hi:s.heap.IsTupleIter it t i) (ht:s.heap.IsTuple t items) (hx:items[i]?=some x) (h:∀h',h'.IsTupleIter it t (i+1)->Heap.SameBut it s.heap h'->Q x {s with heap:=h'}):wpAny (model prog w) A (Builtin.SmallTypes.nextOf (.ref it)) Q E s:=by
 obtain⟨o,ho,hc,hd⟩:=id hi
 obtain⟨ot,hot,hct,n,hdt⟩:=id ht
 have hT:s.TypeIs (.ref it) "tuple_iterator":=⟨o,ho,hc⟩
 unfold Builtin.SmallTypes.nextOf
 refine wpAny_bind (wpAny_callSpecial?_slot hT F.slot_tuple_iterator_next (wpAny_call_entry F.slot_tuple_iterator_next hT F.entry_tuple_iterator_next ?_ (F.args_tuple_iterator_next_1 _)))
 show wpAny _ _ (_ >>= _) _ _ _
 refine wpAny_bind (wpAny_of_eq (show slotArgs "__next__" 0 {pos:=[.ref it]}=pure (.ref it,[])from rfl) ?_)
 refine wpAny_bind (wpAny_field ho hd (x:=.ref t) rfl ?_)
 rw[if_neg (by simp)]
 refine wpAny_bind (wpAny_field ho hd (x:=.int (i:Int) 0) rfl ?_)
 refine wpAny_bind (wpAny_seqItems hot hdt ?_)
 dsimp only
 rw[Int.toNat_natCast,hx]
 refine wpAny_bind (wpAny_setField ho hd (by show 1<2;decide) (wpAny_pure ⟨x,rfl,?_⟩))
 refine wpAny_pure (h _ ?_ ⟨by simp,λb hb=>Heap.get?_update_other _ _ (Ne.symm hb)⟩)
 obtain⟨cls,dict,data,slots⟩:=o
 simp only at hc hd
 subst hc hd
 exact⟨_,Heap.get?_update_self _ ho rfl,rfl,rfl⟩
theorem Zhr (hA:A.handled=none) (hi:s.heap.IsTupleIter it t i) (ht:s.heap.IsTuple t items) (hx:items[i]?=none) (h:∀h' e,Heap.ExtBut it s.heap h'->(∃o,h'.get? e=some o/\o.cls=.type "StopIteration")->E (.ref e) {s with heap:=h'}):wpAny (model prog w) A (Builtin.SmallTypes.nextOf (.ref it)) Q E s:=by
 obtain⟨o,ho,hc,hd⟩:=id hi
 obtain⟨ot,hot,hct,n,hdt⟩:=id ht
 have hT:s.TypeIs (.ref it) "tuple_iterator":=⟨o,ho,hc⟩
 unfold Builtin.SmallTypes.nextOf
 refine wpAny_bind (wpAny_callSpecial?_slot hT F.slot_tuple_iterator_next (wpAny_call_entry F.slot_tuple_iterator_next hT F.entry_tuple_iterator_next ?_ (F.args_tuple_iterator_next_1 _)))
 show wpAny _ _ (_ >>= _) _ _ _
 refine wpAny_bind (wpAny_of_eq (show slotArgs "__next__" 0 {pos:=[.ref it]}=pure (.ref it,[])from rfl) ?_)
 refine wpAny_bind (wpAny_field ho hd (x:=.ref t) rfl ?_)
 rw[if_neg (by simp)]
 refine wpAny_bind (wpAny_field ho hd (x:=.int (i:Int) 0) rfl ?_)
 refine wpAny_bind (wpAny_seqItems hot hdt ?_)
 dsimp only
 rw[Int.toNat_natCast,hx]
 refine wpAny_bind (wpAny_rule (wpAny_bind (wpAny_setField ho hd (by show 0<2;decide) ?_)))
 unfold Builtin.SmallTypes.stopIteration
 refine wpAny_bind ?_
 unfold newExc
 refine wpAny_bind (wpAny_newTuple ?_ (Nat.zero_le _))
 refine wpAny_bind (wpAny_of_eq (show firstArgMember (.type "StopIteration") []=pure .none by first|rfl|(unfold firstArgMember;rfl)) ?_)
 refine wpAny_newObj_type (wpAny_raiseNew_none hA (h _ _ (λb o' hb e=>?_) ⟨_,Heap.get?_push_size _ rfl,rfl⟩))
 exact Heap.get?_push_of_some _ (Heap.get?_push_of_some _ ((Heap.get?_update_other _ _ (Ne.symm hb)).trans e))
end
open Classical in
noncomputable def Zpt (f:Nat->Int) (p:Nat):Int:=if h:∃q,Z7 f p q then (Classical.choose h:Nat)else -1
theorem Zpu {f:Nat->Int}{p q:Nat} (h:Z7 f p q):Zpt f p=q:=by
 have hx:∃q,Z7 f p q:=⟨q,h⟩
 unfold Zpt
 rw[dif_pos hx,(Classical.choose_spec hx).unique h]
theorem ZtA {f:Nat->Int}{p:Nat} (h:ZbN f p):Zpt f p=-1:=by
 unfold Zpt
 rw[dif_neg λ⟨q,hq⟩=>hq.no h]
noncomputable def ZdU (f:Nat->Int) (p:Nat):Int:=if 0<=Zpt f p then (p:Int)-Zpt f p else 0
noncomputable def Zlf (H:Hp) (l:Addr) (n:Nat) (ps:Nat->Int×Int):Prop:=∃qs:List Addr,H l=some (.lst (qs.map V.ref))/\qs.length=n/\∀(j:Nat) (q:Addr),qs[j]?=some q->H q=some (.tup [.int (ps j).1,.int (ps j).2])
theorem Zlf.same {H H':Hp}{l:Addr}{n:Nat}{ps:Nat->Int×Int} (h:Zlf H l n ps) (s:Zh H H'):Zlf H' l n ps:=by
 obtain⟨qs,h1,h2,h3⟩:=h
 exact⟨qs,s _ _ h1,h2,λj q hq=>s _ _ (h3 j q hq)⟩
theorem ZiM.mono {f:Nat->Int}{i:Nat}{S:List Nat} (h:ZiM f i S):S.Pairwise (λa b=>f a<=f b):=by
 refine List.Pairwise.imp_of_mem ?_ h.1
 intro a b ha hb hab
 exact((h.2 a).mp ha).2 b hab ((h.2 b).mp hb).1
theorem Zlg {J:It}{n:Nat}{g:TG}{tb:TS}{D:Ends}{σ:St}{H:Hp} (Pv:Nat->St->Hp->Prop) (h0:Pv 0 σ H) (hgo:∀i σ H,i<n->Pv i σ H->J.go i H) (hstop:∀σ H,Pv n σ H->J.stop n H)
  (hs:∀i x σ H H',i<n->Pv i σ H->J.yld i H x H'->g x σ H' fun σ2 H2=>tb {D with nx:=Pv (i+1),ct:=Pv (i+1),bk:=D.nx} σ2 H2) (hd:∀σ H,Pv n σ H->D.nx σ H):LoopR J g tb D σ H:=by
 refine⟨λi m σ H=>m=n-i/\i<=n/\Pv i σ H,⟨n,by simp,Nat.zero_le _,h0⟩,?_⟩
 rintro i m σ H ⟨rfl,hi,p⟩
 by_cases hlt:i<n
 ·exact .inr ⟨hgo i σ H hlt p,Pv (i+1),fun σ' H' p'=>⟨n-(i+1),by omega,rfl,hlt,p'⟩,λx H' y=>hs i x σ H H' hlt p y⟩
 ·have:i=n:=by omega
  subst this
  exact .inl ⟨hstop σ H p,hd σ H p⟩
theorem ZrF (L:List Int):L=(List.range L.length).map λi=>L.getD i 0:=by
 refine List.ext_getElem (by simp) λj h1 h2=>?_
 simp[List.getD_eq_getElem?_getD,h1]
theorem Zpv {K:Frag}{a:Addr}{L:List Int}{H1:Hp}{Q:VK}{tt:TT}{σr:St} (P:Int->Bool) (ha:H1 a=some (.lst (L.map V.int))) (hn:L.length<=1000)
  (ht:∀(x:Int) (H:Hp) (R:Bool->Hp->Prop),R (P x) H->tt (some (V.int x)::σr) H R)
  (hk:∀l H',Zh H1 H'->H' l=none->Q (.ref l) (upd H' l (.lst ((L.filter P).map V.int)))) :
  Zko (Itl K a) (Ze4 0) tt (ZlR 0) (none::σr) Q H1:=by
 refine Zhn (n:=L.length) (λi=>P (L.getD i 0)) (λi=>V.int (L.getD i 0)) (Nat.lt_of_le_of_lt hn (by decide)) (λi Hx s hi=>⟨_,_,SqL.of (s _ _ ha),List.getElem?_eq_getElem (by simpa using hi)⟩) (λHx s=>⟨_,SqL.of (s _ _ ha),by simp⟩) ?_ ?_
 ·rintro i x Hx Hy hi s ⟨rfl,hx⟩
  have ex:=hx _ (SqL.of (s _ _ ha))
  rw[List.getElem?_map,List.getElem?_eq_getElem hi]at ex
  cases ex
  have eg:L.getD i 0=L[i]:=by simp[List.getD_eq_getElem?_getD,hi]
  refine ht _ _ _ ?_
  cases hP:P L[i]with
  |true =>
   rw[if_pos rfl]
   exact⟨_,rfl,CF.take hi (by rw[eg];exact hP) (by rw[eg]) s⟩
  |false =>
   rw[if_neg (by simp)]
   exact CF.skip hi (by rw[eg];exact hP) s
 ·intro l H' s hl
  have:=hk l H' s hl
  have e:((List.range L.length).filter λi=>P (L.getD i 0)).map (λi=>V.int (L.getD i 0))=(L.filter P).map V.int:=by
   conv=>rhs;rw[ZrF L,List.filter_map,List.map_map]
   rfl
  rw[e];exact this
noncomputable def eU (e:Addr->Bool):Value->Bool
 |.ref a=>e a
 |_=>false
theorem Zlh {ns T:List Int} (hT:Zw ns T) {p o:Nat} (hp:p<ns.length) (ho:o<ns.length) (hO:Over (nth ns) o p):(Zav T p:Int)-Zav T o<=nth ns p-nth ns o:=by
 refine ZgQ hT (R:=λo p=>(Zav T p:Int)-Zav T o<=nth ns p-nth ns o) (λp q hp hq e hO=>?_) (λo q p h1 h2 r1 r2=>by omega) _ p o hp ho rfl hO
 have:=Zho hT hp hq e hO
 rcases hO with⟨a,b⟩|⟨a,b⟩
 ·have:=b p a (Nat.le_refl _)
  rw[if_neg (by omega)]at *;omega
 ·have:=b p (Nat.le_refl _) a
  rw[if_pos a]at *;omega
end L2
namespace PySem
open Sem (wp)
end PySem
namespace L2
open PySem PySem.Spec PyProof.Rows PySem.W
noncomputable def QIt (h:Heap) (i l:Addr) (k:Nat) (xs:Array Value):Prop:=(h.IsListIter i l k/\h.IsList l xs)\/(h.IsTupleIter i l k/\h.IsTuple l xs)
theorem QIt.ext {h h':Heap}{i l b:Addr}{k:Nat}{xs:Array Value} (x:QIt h i l k xs) (hs:Heap.ExtBut b h h') (n1:i≠b) (n2:l≠b):QIt h' i l k xs:=by
 rcases x with⟨p,q⟩|⟨p,q⟩
 ·exact .inl ⟨p.extBut hs n1,q.extBut hs n2⟩
 ·obtain⟨o,ho,r⟩:=q
  exact .inr ⟨p.extBut hs n1,⟨o,hs _ _ n2 ho,r⟩⟩
theorem QIt.at {h h':Heap}{i l:Addr}{k:Nat}{xs:Array Value} (x:QIt h i l k xs) (e1:∀o,h.get? i=some o->h'.get? i=some o) (e2:∀o,h.get? l=some o->h'.get? l=some o):QIt h' i l k xs:=by
 rcases x with⟨p,⟨o,ho,r⟩⟩|⟨⟨o1,p1,r1⟩,⟨o,ho,r⟩⟩
 ·exact .inl ⟨p.at e1,⟨o,e2 o ho,r⟩⟩
 ·exact .inr ⟨⟨o1,e1 _ p1,r1⟩,⟨o,e2 o ho,r⟩⟩
theorem QIt.obj {h:Heap}{i l:Addr}{k:Nat}{xs:Array Value} (x:QIt h i l k xs):(∃o,h.get? i=some o/\∀v m,o.data≠.seq v m)/\∃o,h.get? l=some o:=by
 rcases x with⟨⟨o,p,p1,p2⟩,⟨u,q,_⟩⟩|⟨⟨o,p,p1,p2⟩,⟨u,q,_⟩⟩
 ·exact⟨⟨o,p,λv m z=>by rw[p2]at z;cases z⟩,⟨u,q⟩⟩
 ·exact⟨⟨o,p,λv m z=>by rw[p2]at z;cases z⟩,⟨u,q⟩⟩
section
variable {prog:Program}{w:World}{A:Around}{E Q:Value->Shared->Prop}{s:Shared}{it l:Addr}{k:Nat}{xs:Array Value}
theorem Zgh {x:Value} (q:QIt s.heap it l k xs) (hn:l≠it) (hx:xs[k]?=some x) (h:∀h',QIt h' it l (k+1) xs->Heap.SameBut it s.heap h'->Q x {s with heap:=h'}):wpAny (model prog w) A (Builtin.SmallTypes.nextOf (.ref it)) Q E s:=by
 rcases q with⟨q1,q2⟩|⟨q1,q2⟩
 ·exact wpAny_nextOf_list_item q1 q2 hx λh' a b=>h h' (.inl ⟨a,q2.extBut b.extBut hn⟩) b
 ·refine ZgR q1 q2 hx λh' a b=>h h' (.inr ⟨a,?_⟩) b
  obtain⟨o,ho,r⟩:=q2
  exact⟨o,b.extBut _ _ hn ho,r⟩
theorem Zkv (hA:A.handled=none) (q:QIt s.heap it l k xs) (hx:xs[k]?=none) (h:∀h' e,Heap.ExtBut it s.heap h'->(∃o,h'.get? e=some o/\o.cls=.type "StopIteration")->E (.ref e) {s with heap:=h'}):wpAny (model prog w) A (Builtin.SmallTypes.nextOf (.ref it)) Q E s:=by
 rcases q with⟨q1,q2⟩|⟨q1,q2⟩
 ·exact wpAny_nextOf_list_end hA q1 q2 hx h
 ·exact Zhr hA q1 q2 hx h
end
section
variable {prog:Program}{w:World}{A:Around}{E:Value->Shared->Prop}{s:Shared}{z TI TO i1 i2 l1 l2:Addr}{k1 k2:Nat}{xs ys:Array Value}{a b:Value}
noncomputable def Zmf (z TO i1 i2:Addr) (h h':Heap):Prop:=∀c o,c≠z->c≠TO->c≠i1->c≠i2->h.get? c=some o->h'.get? c=some o
theorem Zpw {x y:Value}{Q:Value->Shared->Prop} (D:ZipApart z TI TO i1 i2 l1 l2) (hz:IsZip s.heap z TI TO .none) (hI:IsPair s.heap TI (.ref i1) (.ref i2)) (hO:IsPair s.heap TO a b)
  (q1:QIt s.heap i1 l1 k1 xs) (q2:QIt s.heap i2 l2 k2 ys) (hx:xs[k1]?=some x) (hy:ys[k2]?=some y)
  (hQ:∀h',IsZip h' z TI TO (rawInt s.heap.objs.size)->IsPair h' TO x y->QIt h' i1 l1 (k1+1) xs->QIt h' i2 l2 (k2+1) ys->IsPair h' s.heap.objs.size x y->Zmf z TO i1 i2 s.heap h'->Q (.ref s.heap.objs.size) {s with heap:=h'}) :
  wpAny (model prog w) A (Builtin.«zip.__next__» ⟨[.ref z],[]⟩) (λfin s'=>∃v,fin=.done (.ret v)/\Q v s') E s:=by
 show wpAny _ _ (field (.ref z) 2 >>= _) _ _ _;refine wpAny_bind (wpAny_field hz rfl (x:=.bool false) rfl ?_)
 show wpAny _ _ (field (.ref z) 3 >>= _) _ _ _;refine wpAny_bind (wpAny_field hz rfl (x:=.ref TI) rfl ?_);refine wpAny_bind (wpAny_seqItems hI rfl ?_)
 show wpAny _ _ (Builtin.SmallTypes.ownedTupleIsFree (.ref z) >>= _) _ _ _;refine wpAny_bind ?_;unfold Builtin.SmallTypes.ownedTupleIsFree
 refine wpAny_bind (wpAny_field hz rfl (x:=.none) rfl (wpAny_pure ?_));simp only[if_true];refine wpAny_bind (wpAny_rule ?_);refine wpAny_bind (wpAny_field hz rfl (x:=.ref TO) rfl ?_)
 refine wpAny_bind (wpAny_setField_rec hz (by simp) λg1 z1 m1=>?_);replace z1:IsZip g1 z TI TO .ellipsis:=z1
 refine wpAny_bind ?_;simp only[List.zipIdx_cons,List.zipIdx_nil,List.forIn_cons,List.forIn_nil];refine wpAny_bind (wpAny_bind (wpAny_onRaise ?_))
 show wpAny _ _ (Builtin.SmallTypes.nextOf (.ref i1) >>= _) _ _ _;refine wpAny_bind (Zgh (q1.ext m1.extBut D.i1z D.l1z) D.l1i1 hx λg2 p1 m2=>wpAny_pure ?_)
 have o2:IsPair g2 TO a b:=m2.extBut _ _ D.TOi1 (m1.extBut _ _ D.TOz hO)
 refine wpAny_bind (wpAny_seqItems o2 rfl ?_);refine wpAny_bind (wpAny_updateSeq_pair o2 λg3 o3 m3=>?_);replace o3:IsPair g3 TO x b:=o3
 refine wpAny_bind (wpAny_letGo (wpAny_pure ?_));refine wpAny_bind (wpAny_bind (wpAny_onRaise ?_))
 show wpAny _ _ (Builtin.SmallTypes.nextOf (.ref i2) >>= _) _ _ _
 refine wpAny_bind (Zgh (((q2.ext m1.extBut D.i2z D.l2z).ext m2.extBut D.i12.symm D.l2i1).ext m3.extBut D.TOi2.symm D.l2TO) D.l2i2 hy λg4 p2 m4=>wpAny_pure ?_)
 have o4:IsPair g4 TO x b:=m4.extBut _ _ D.TOi2 o3
 refine wpAny_bind (wpAny_seqItems o4 rfl ?_);refine wpAny_bind (wpAny_updateSeq_pair o4 λg5 o5 m5=>?_);replace o5:IsPair g5 TO x y:=o5
 refine wpAny_bind (wpAny_letGo (wpAny_pure (wpAny_pure ?_)));refine wpAny_bind (wpAny_seqItems o5 rfl ?_);refine wpAny_bind (wpAny_newTuple ?_)
 have hsz:g5.objs.size=s.heap.objs.size:=by rw[m5.1,m4.1,m3.1,m2.1,m1.1]
 have z5:IsZip g5 z TI TO .ellipsis:=m5.extBut _ _ D.TOz.symm (m4.extBut _ _ D.i2z.symm (m3.extBut _ _ D.TOz.symm (m2.extBut _ _ D.i1z.symm z1)))
 have kk:Zmf z TO i1 i2 s.heap g5:=λc o c1 c2 c3 c4 e=>m5.extBut _ _ c2 (m4.extBut _ _ c4 (m3.extBut _ _ c2 (m2.extBut _ _ c3 (m1.extBut _ _ c1 e))))
 have r1:QIt g5 i1 l1 (k1+1) xs:=((p1.ext m3.extBut D.TOi1.symm D.l1TO).ext m4.extBut D.i12 D.l1i2).ext m5.extBut D.TOi1.symm D.l1TO
 have r2:QIt g5 i2 l2 (k2+1) ys:=p2.ext m5.extBut D.TOi2.symm D.l2TO
 have lz:z<g5.objs.size:=Heap.lt_size z5
 show wpAny _ _ (Builtin.SmallTypes.ownedTupleHandOut (.ref z) (.ref g5.objs.size) >>= _) _ _ _;refine wpAny_bind ?_;unfold Builtin.SmallTypes.ownedTupleHandOut
 have z6:IsZip (g5.push {cls:=.type "tuple",data:=.seq #[x,y]}) z TI TO .ellipsis:=Heap.get?_push_of_some _ z5
 refine wpAny_bind (wpAny_setField_rec z6 (by simp) λg7 z7 m7=>?_);replace z7:IsZip g7 z TI TO (rawInt g5.objs.size):=z7
 refine wpAny_setField_rec z7 (by simp) λg8 z8 m8=>?_;replace z8:IsZip g8 z TI TO (rawInt g5.objs.size):=z8
 have up:∀c o,c≠z->g5.get? c=some o->g8.get? c=some o:=λc o c1 e=>m8.extBut _ _ c1 (m7.extBut _ _ c1 (Heap.get?_push_of_some _ e))
 have t8:IsPair g8 g5.objs.size x y:=m8.extBut _ _ (Nat.ne_of_gt lz) (m7.extBut _ _ (Nat.ne_of_gt lz) (Heap.get?_push_size _ rfl))
 rw[hsz]at z8 t8
 refine wpAny_pure ⟨_,rfl,?_⟩;show Q (.ref g5.objs.size) _;rw[hsz]
 exact hQ g8 z8 (up _ _ D.TOz o5) (r1.at (λo e=>up _ o D.i1z e) λo e=>up _ o D.l1z e) (r2.at (λo e=>up _ o D.i2z e) λo e=>up _ o D.l2z e) t8 λc o c1 c2 c3 c4 e=>up c o c1 (kk c o c1 c2 c3 c4 e)
theorem ZrG {Q:Fin->Shared->Prop} (hA:A.handled=none) (D:ZipApart z TI TO i1 i2 l1 l2) (hz:IsZip s.heap z TI TO .none) (hI:IsPair s.heap TI (.ref i1) (.ref i2)) (hO:IsPair s.heap TO a b)
  (q1:QIt s.heap i1 l1 k1 xs) (q2:QIt s.heap i2 l2 k2 ys) (hend:xs[k1]?=none\/ys[k2]?=none)
  (hE:∀h' e,Zmf z TO i1 i2 s.heap h'->(∃o,h'.get? e=some o/\o.cls=.type "StopIteration")->E (.ref e) {s with heap:=h'}) :
  wpAny (model prog w) A (Builtin.«zip.__next__» ⟨[.ref z],[]⟩) Q E s:=by
 show wpAny _ _ (field (.ref z) 2 >>= _) _ _ _;refine wpAny_bind (wpAny_field hz rfl (x:=.bool false) rfl ?_)
 show wpAny _ _ (field (.ref z) 3 >>= _) _ _ _;refine wpAny_bind (wpAny_field hz rfl (x:=.ref TI) rfl ?_);refine wpAny_bind (wpAny_seqItems hI rfl ?_)
 show wpAny _ _ (Builtin.SmallTypes.ownedTupleIsFree (.ref z) >>= _) _ _ _;refine wpAny_bind ?_;unfold Builtin.SmallTypes.ownedTupleIsFree
 refine wpAny_bind (wpAny_field hz rfl (x:=.none) rfl (wpAny_pure ?_));simp only[if_true];refine wpAny_bind (wpAny_rule ?_);refine wpAny_bind (wpAny_field hz rfl (x:=.ref TO) rfl ?_)
 refine wpAny_bind (wpAny_setField_rec hz (by simp) λg1 z1 m1=>?_);replace z1:IsZip g1 z TI TO .ellipsis:=z1
 refine wpAny_bind ?_;simp only[List.zipIdx_cons,List.zipIdx_nil,List.forIn_cons,List.forIn_nil];refine wpAny_bind (wpAny_bind (wpAny_onRaise ?_))
 show wpAny _ _ (Builtin.SmallTypes.nextOf (.ref i1) >>= _) _ _ _
 cases hx:xs[k1]? with
 |none =>
  refine wpAny_bind (Zkv hA (q1.ext m1.extBut D.i1z D.l1z) hx λg2 e m2 he=>?_)
  obtain⟨oe,e1,e2⟩:=he
  have z2:IsZip g2 z TI TO .ellipsis:=m2 _ _ D.i1z.symm z1
  have nz:e≠z:=λq=>by subst q;rw[z2]at e1;cases e1;simp at e2
  exact wpAny_setField_rec z2 (by simp) λg3 _ m3=>hE g3 e (λc o c1 _ c3 _ q=>m3.extBut _ _ c1 (m2 _ _ c3 (m1.extBut _ _ c1 q))) ⟨oe,m3.extBut _ _ nz e1,e2⟩
 |some x =>
  have hy:ys[k2]?=none:=by rcases hend with h|h;rw[hx]at h;cases h;exact h
  refine wpAny_bind (Zgh (q1.ext m1.extBut D.i1z D.l1z) D.l1i1 hx λg2 p1 m2=>wpAny_pure ?_)
  have o2:IsPair g2 TO a b:=m2.extBut _ _ D.TOi1 (m1.extBut _ _ D.TOz hO)
  refine wpAny_bind (wpAny_seqItems o2 rfl ?_);refine wpAny_bind (wpAny_updateSeq_pair o2 λg3 o3 m3=>?_);refine wpAny_bind (wpAny_letGo (wpAny_pure ?_));refine wpAny_bind (wpAny_bind (wpAny_onRaise ?_))
  show wpAny _ _ (Builtin.SmallTypes.nextOf (.ref i2) >>= _) _ _ _
  refine wpAny_bind (Zkv hA (((q2.ext m1.extBut D.i2z D.l2z).ext m2.extBut D.i12.symm D.l2i1).ext m3.extBut D.TOi2.symm D.l2TO) hy λg4 e m4 he=>?_)
  obtain⟨oe,e1,e2⟩:=he
  have z4:IsZip g4 z TI TO .ellipsis:=m4 _ _ D.i2z.symm (m3.extBut _ _ D.TOz.symm (m2.extBut _ _ D.i1z.symm z1))
  have nz:e≠z:=λq=>by subst q;rw[z4]at e1;cases e1;simp at e2
  exact wpAny_setField_rec z4 (by simp) λg5 _ m5=>hE g5 e (λc o c1 c2 c3 c4 q=>m5.extBut _ _ c1 (m4 _ _ c4 (m3.extBut _ _ c2 (m2.extBut _ _ c3 (m1.extBut _ _ c1 q))))) ⟨oe,m5.extBut _ _ nz e1,e2⟩
theorem Zmg {x y:Value}{Q:Option Value->Shared->Prop} (D:ZipApart z TI TO i1 i2 l1 l2) (hz:IsZip s.heap z TI TO .none) (hI:IsPair s.heap TI (.ref i1) (.ref i2)) (hO:IsPair s.heap TO a b)
  (q1:QIt s.heap i1 l1 k1 xs) (q2:QIt s.heap i2 l2 k2 ys) (hx:xs[k1]?=some x) (hy:ys[k2]?=some y)
  (hQ:∀h',IsZip h' z TI TO (rawInt s.heap.objs.size)->IsPair h' TO x y->QIt h' i1 l1 (k1+1) xs->QIt h' i2 l2 (k2+1) ys->IsPair h' s.heap.objs.size x y->Zmf z TO i1 i2 s.heap h'->Q (some (.ref s.heap.objs.size)) {s with heap:=h'}) :
  wpAny (model prog w) A (pyNext (.ref z)) Q E s:=by
 have ty:s.TypeIs (.ref z) "zip":=⟨_,hz,rfl⟩
 unfold pyNext
 exact wpAny_bind (wpAny_attempt (wpAny_callSpecial?_slot (name:=Str.ofString "__next__") ty F.slot_zip_next (wpAny_call_entry F.slot_zip_next ty F.entry_zip_next (Zpw D hz hI hO q1 q2 hx hy λh' a1 a2 a3 a4 a5 a6=>wpAny_pure (hQ h' a1 a2 a3 a4 a5 a6)) (F.args_zip_next_1 _))))
theorem ZnD {Q:Option Value->Shared->Prop} (hA:A.handled=none) (D:ZipApart z TI TO i1 i2 l1 l2) (hz:IsZip s.heap z TI TO .none) (hI:IsPair s.heap TI (.ref i1) (.ref i2)) (hO:IsPair s.heap TO a b)
  (q1:QIt s.heap i1 l1 k1 xs) (q2:QIt s.heap i2 l2 k2 ys) (hend:xs[k1]?=none\/ys[k2]?=none) (hQ:∀h',Zmf z TO i1 i2 s.heap h'->Q none {s with heap:=h'}):wpAny (model prog w) A (pyNext (.ref z)) Q E s:=by
 have ty:s.TypeIs (.ref z) "zip":=⟨_,hz,rfl⟩
 unfold pyNext
 refine wpAny_bind (wpAny_attempt (wpAny_callSpecial?_slot (name:=Str.ofString "__next__") ty F.slot_zip_next (wpAny_call_entry F.slot_zip_next ty F.entry_zip_next (ZrG hA D hz hI hO q1 q2 hend λh' e hk he=>?_) (F.args_zip_next_1 _))))
 obtain⟨o,e1,e2⟩:=he
 exact wpAny_bind (wpAny_isInstance (T:="StopIteration") (b:=true) ⟨o,e1,e2⟩ isSubtype_stop (wpAny_pure (hQ _ hk)))
noncomputable def SqH (h:Heap) (l:Addr) (xs:Array Value):Prop:=h.IsList l xs\/h.IsTuple l xs
theorem SqH.push {h:Heap}{l:Addr}{xs:Array Value} (q:SqH h l xs) (o:Obj):SqH (h.push o) l xs:=by
 rcases q with q|⟨u,hu,r⟩
 ·exact .inl (q.push o)
 ·exact .inr ⟨u,Heap.get?_push_of_some _ hu,r⟩
theorem SqH.obj {h:Heap}{l:Addr}{xs:Array Value} (q:SqH h l xs):∃o,h.get? l=some o:=by
 rcases q with⟨o,ho,_⟩|⟨o,ho,_⟩<;>exact⟨o,ho⟩
noncomputable def Zcc (h:Heap) (l:Addr):String:=match h.get? l with
 |some o=>if o.cls=.type "tuple" then "tuple_iterator" else "list_iterator"
 |none=>"list_iterator"
theorem iterQ {Q:Value->Shared->Prop} (q:SqH s.heap l1 xs) (h:Q (.ref s.heap.objs.size) {s with heap:=s.heap.push {cls:=.type (Zcc s.heap l1),data:=.fields #[.ref l1,.int 0 0]}}):wpAny (model prog w) A (pyIter (.ref l1)) Q E s:=by
 rcases q with q|q
 ·have e:Zcc s.heap l1="list_iterator":=by
   obtain⟨o,ho,hc,_⟩:=q
   unfold Zcc;rw[ho];dsimp only;rw[if_neg (by rw[hc];intro z;injection z with z;exact absurd z (by decide))]
  rw[e]at h;exact wpAny_pyIter_list q h
 ·have e:Zcc s.heap l1="tuple_iterator":=by
   obtain⟨o,ho,hc,_⟩:=q
   unfold Zcc;rw[ho];dsimp only;rw[if_pos hc]
  rw[e]at h;exact wpAny_pyIter_tuple q h
theorem itQ {h h':Heap}{i:Addr} (q:SqH h l1 xs) (ho:h'.get? i=some {cls:=.type (Zcc h l1),data:=.fields #[.ref l1,.int 0 0]}) (hl:∀o,h.get? l1=some o->h'.get? l1=some o):QIt h' i l1 0 xs:=by
 rcases q with q|q
 ·have e:Zcc h l1="list_iterator":=by
   obtain⟨o,ho,hc,_⟩:=q
   unfold Zcc;rw[ho];dsimp only;rw[if_neg (by rw[hc];intro z;injection z with z;exact absurd z (by decide))]
  rw[e]at ho
  obtain⟨o,q1,r⟩:=q
  exact .inl ⟨⟨_,ho,rfl,rfl⟩,⟨o,hl _ q1,r⟩⟩
 ·have e:Zcc h l1="tuple_iterator":=by
   obtain⟨o,ho,hc,_⟩:=q
   unfold Zcc;rw[ho];dsimp only;rw[if_pos hc]
  rw[e]at ho
  obtain⟨o,q1,r⟩:=q
  exact .inr ⟨⟨_,ho,rfl,rfl⟩,⟨o,hl _ q1,r⟩⟩
noncomputable abbrev zq1 (h:Heap) (l1:Addr):Heap:=h.push {cls:=.type (Zcc h l1),data:=.fields #[.ref l1,.int 0 0]}
noncomputable abbrev zq2 (h:Heap) (l1 l2:Addr):Heap:=(zq1 h l1).push {cls:=.type (Zcc (zq1 h l1) l2),data:=.fields #[.ref l2,.int 0 0]}
noncomputable abbrev zq3 (h:Heap) (l1 l2:Addr):Heap:=(zq2 h l1 l2).push {cls:=.type "tuple",data:=.seq #[.ref h.objs.size,.ref (zq1 h l1).objs.size]}
noncomputable abbrev zq4 (h:Heap) (l1 l2:Addr):Heap:=(zq3 h l1 l2).push {cls:=.type "tuple",data:=.seq #[.none,.none]}
noncomputable abbrev zq5 (h:Heap) (l1 l2:Addr):Heap:=(zq4 h l1 l2).push {cls:=.type "zip",data:=.fields #[.none,.bool false,.bool false,.ref (zq2 h l1 l2).objs.size,.ref (zq3 h l1 l2).objs.size]}
theorem ZnE (l1 l2:Addr) (xs ys:Array Value) :
  Meets (Builtin.«zip.__new__» ⟨[.type "zip",.ref l1,.ref l2],[]⟩) (λ_ R s=>SqH s.heap l1 xs/\SqH s.heap l2 ys/\R (.ok (.ret (.ref (zq4 s.heap l1 l2).objs.size))) {s with heap:=zq5 s.heap l1 l2}) :=
 .of_wp λprog w A R s h=>by
  obtain⟨hp,g,d,tk,os⟩:=s;obtain⟨b1,b2,h⟩:=h
  have hsub:=sub_zip
  have L1:SqH (Shared.heap ⟨hp,g,d,tk,os⟩) l1 xs:=b1
  have L2:SqH (Shared.heap ⟨zq1 hp l1,g,d,tk,os⟩) l2 ys:=SqH.push b2 _
  wp_walk using iterQ L1,iterQ L2
  exact⟨_,rfl,h⟩
theorem Zpx {Q:Value->Shared->Prop} (b1:SqH s.heap l1 xs) (b2:SqH s.heap l2 ys)
  (h:∀h',IsZip h' (s.heap.objs.size+4) (s.heap.objs.size+2) (s.heap.objs.size+3) .none->IsPair h' (s.heap.objs.size+2) (.ref s.heap.objs.size) (.ref (s.heap.objs.size+1))->IsPair h' (s.heap.objs.size+3) .none .none ->
   QIt h' s.heap.objs.size l1 0 xs->QIt h' (s.heap.objs.size+1) l2 0 ys->(∀c o,s.heap.get? c=some o->h'.get? c=some o)->Q (.ref (s.heap.objs.size+4)) {s with heap:=h'}) :
  wpAny (model prog w) A (call (.type "zip") [.ref l1,.ref l2]) Q E s:=by
 refine callType_new F.called_zip (by decide) (F.typeCall_zip_2 _ _) (F.newCall_zip_2 _ _) (λobj=>F.args_object_init_3 obj _ _) F.entry_zip_new (ZnE l1 l2 xs ys) ⟨b1,b2,?_⟩
 have z1:(zq1 s.heap l1).objs.size=s.heap.objs.size+1:=Heap.size_push ..
 have z2:(zq2 s.heap l1 l2).objs.size=s.heap.objs.size+2:=by rw[Heap.size_push,z1]
 have z3:(zq3 s.heap l1 l2).objs.size=s.heap.objs.size+3:=by rw[Heap.size_push,z2]
 have z4:(zq4 s.heap l1 l2).objs.size=s.heap.objs.size+4:=by rw[Heap.size_push,z3]
 have g5:(zq5 s.heap l1 l2).get? (zq4 s.heap l1 l2).objs.size=some _:=Heap.get?_push_size _ rfl
 have g4:(zq5 s.heap l1 l2).get? (zq3 s.heap l1 l2).objs.size=some _:=Heap.get?_push_of_some _ (Heap.get?_push_size _ rfl)
 have g3:(zq5 s.heap l1 l2).get? (zq2 s.heap l1 l2).objs.size=some _:=Heap.get?_push_of_some _ (Heap.get?_push_of_some _ (Heap.get?_push_size _ rfl))
 have g2:(zq5 s.heap l1 l2).get? (zq1 s.heap l1).objs.size=some _:=Heap.get?_push_of_some _ (Heap.get?_push_of_some _ (Heap.get?_push_of_some _ (Heap.get?_push_size _ rfl)))
 have g1:(zq5 s.heap l1 l2).get? s.heap.objs.size=some _:=Heap.get?_push_of_some _ (Heap.get?_push_of_some _ (Heap.get?_push_of_some _ (Heap.get?_push_of_some _ (Heap.get?_push_size _ rfl))))
 have up1:∀c o,(zq1 s.heap l1).get? c=some o->(zq5 s.heap l1 l2).get? c=some o:=λc o x=>Heap.get?_push_of_some _ (Heap.get?_push_of_some _ (Heap.get?_push_of_some _ (Heap.get?_push_of_some _ x)))
 have up:∀c o,s.heap.get? c=some o->(zq5 s.heap l1 l2).get? c=some o:=λc o x=>up1 c o (Heap.get?_push_of_some _ x)
 have r1:=itQ b1 g1 λo e=>up _ o e
 have r2:=itQ (b2.push _) g2 λo e=>up1 _ o e
 show _/\_
 rw[z2,z3,z4]at g5
 rw[z1,z2]at g3
 rw[z3]at g4
 rw[z1]at r2
 rw[z4]
 exact⟨⟨_,g5,rfl⟩,h _ g5 g3 g4 r1 r2 up⟩
end
section
variable {X:Cx}{pins:List (Addr×Obj)}{σ:St}{H:Hp}{s:Shared}
noncomputable def SqB (K:Frag) (t:Bool) (H:Hp) (a:Addr) (xs:List V):Prop:=match t with
 |true=>SqT K H a xs
 |false=>SqL K H a xs
noncomputable def ItB (t:Bool) (h:Heap) (i a:Addr) (k:Nat):Prop:=match t with
 |true=>h.IsTupleIter i a k
 |false=>h.IsListIter i a k
theorem SqB.of {K:Frag}{H:Hp}{a:Addr}{xs:List V} (h:SqL K H a xs\/SqT K H a xs):∃t,SqB K t H a xs:=by
 rcases h with h|h
 ·exact⟨false,h⟩
 ·exact⟨true,h⟩
theorem Zh.ZeZ {K:Frag}{t:Bool}{H H':Hp}{a:Addr}{xs:List V} (e:Zh H H') (h:SqB K t H a xs):SqB K t H' a xs:=by
 cases t
 ·exact e.seq h
 ·exact e.seqT h
theorem ItB.keep {t:Bool}{h h':Heap}{i a:Addr}{k:Nat} (q:ItB t h i a k) (e:∀o,h.get? i=some o->h'.get? i=some o):ItB t h' i a k:=by
 cases t
 ·obtain⟨o,ho,r⟩:=q;exact⟨o,e o ho,r⟩
 ·obtain⟨o,ho,r⟩:=q;exact⟨o,e o ho,r⟩
theorem ItB.obj {t:Bool}{h:Heap}{i a:Addr}{k:Nat} (q:ItB t h i a k):∃o,h.get? i=some o/\∃v,o.data=.fields v:=by
 cases t
 ·obtain⟨o,ho,_,d⟩:=q;exact⟨o,ho,_,d⟩
 ·obtain⟨o,ho,_,d⟩:=q;exact⟨o,ho,_,d⟩
theorem Inv.sqb (I:Inv X pins σ H s) {t:Bool}{a:Addr}{xs:List V} (q:SqB X.K t H a xs):∃its:List Value,Vals xs its/\SqH s.heap a its.toArray/\∀i k,ItB t s.heap i a k->QIt s.heap i a k its.toArray:=by
 cases t
 ·obtain⟨its,r,p,_⟩:=I.list q;exact⟨its,r,.inl p.isList,λi k h=>.inl ⟨h,p.isList⟩⟩
 ·obtain⟨its,r,p,_⟩:=I.tuple q;exact⟨its,r,.inr p,λi k h=>.inr ⟨h,p⟩⟩
theorem Inv.itb (I:Inv X pins σ H s) {t:Bool}{a i:Addr}{xs:List V}{h':Heap}{k:Nat}{us:Array Value} (q:SqB X.K t H a xs) (kp:∀o,s.heap.get? a=some o->h'.get? a=some o) (u:QIt h' i a k us):ItB t h' i a k:=by
 cases t
 ·obtain⟨its,r,p,_⟩:=I.list q
  obtain⟨o,ho,hc,_⟩:=p.isList
  rcases u with⟨u,_⟩|⟨_,⟨o',ho',hc',_⟩⟩
  ·exact u
  ·rw[kp o ho]at ho'
   cases ho'
   rw[hc]at hc';injection hc' with z;exact absurd z (by decide)
 ·obtain⟨its,r,p,_⟩:=I.tuple q
  obtain⟨o,ho,hc,_⟩:=p
  rcases u with⟨_,⟨o',ho',hc',_⟩⟩|⟨u,_⟩
  ·rw[kp o ho]at ho'
   cases ho'
   rw[hc]at hc';injection hc' with z;exact absurd z (by decide)
  ·exact u
theorem Inv.ZoM (I:Inv X pins σ H s) {t:Bool}{a:Addr}{xs ys:List V} (q:SqB X.K t H a xs) (r:SqB X.K t H a ys):xs=ys:=by
 cases t
 ·exact I.Zb4 q r
 ·exact I.Zhc q r
noncomputable def Itzq (K : Frag) (t u : Bool) (a b : Addr) : It :=
  ⟨fun i H => ∃ xs ys x y, SqB K t H a xs ∧ SqB K u H b ys ∧ xs[i]? = some x ∧ ys[i]? = some y,
   fun i H v H' => ∃ p x y, H p = none ∧ v = .ref p ∧ H' = upd H p (.tup [x, y]) ∧ (∀ xs, SqB K t H a xs → xs[i]? = some x) ∧ ∀ ys, SqB K u H b ys → ys[i]? = some y,
   fun i H => ∃ xs ys, SqB K t H a xs ∧ SqB K u H b ys ∧ (xs.length ≤ i ∨ ys.length ≤ i)⟩
theorem Zpy {P:Program}{w:World}{K:Frag}{elts:List Expr} {x1}{pos:Pos}{t u:Bool}{a b z TI TO i1 i2:Addr} (D:ZipApart z TI TO i1 i2 a b) :
  Turn P w K (.Tuple elts x1 pos) (Itzq K t u a b) [z,TI,TO,i1,i2] z (λi h=>IsZip h z TI TO .none/\IsPair h TI (.ref i1) (.ref i2)/\(∃u v,IsPair h TO u v)/\ItB t h i1 a i/\ItB u h i2 b i) where
 mem:=by simp
 obj:=λi h st c hc=>by
  obtain⟨q1,q2,⟨u,v,q3⟩,q4,q5⟩:=st
  simp at hc
  rcases hc with rfl|rfl|rfl|rfl|rfl
  ·exact⟨_,q1,λv z=>by cases z⟩
  ·exact⟨_,q2,λv z=>by cases z⟩
  ·exact⟨_,q3,λv z=>by cases z⟩
  ·obtain⟨o,ho,v,d⟩:=q4.obj;exact⟨_,ho,λv z=>by rw[d]at z;cases z⟩
  ·obtain⟨o,ho,v,d⟩:=q5.obj;exact⟨_,ho,λv z=>by rw[d]at z;cases z⟩
 keep:=λi h h' st k=>by
  obtain⟨q1,q2,⟨u,v,q3⟩,q4,q5⟩:=st
  exact⟨k z (by simp) _ q1,k TI (by simp) _ q2,⟨u,v,k TO (by simp) _ q3⟩,q4.keep λo e=>k i1 (by simp) o e,q5.keep λo e=>k i2 (by simp) o e⟩
 item:=by
  intro X hP hw hK hc i pins s σ H E I hf st hg
  subst hP hw hK
  obtain⟨xs,ys,x,y,qa,qb,hx,hy⟩:=hg
  obtain⟨q1,q2,⟨u0,v0,q3⟩,q4,q5⟩:=st
  obtain⟨is1,r1,p1,w1⟩:=I.sqb qa
  obtain⟨is2,r2,p2,w2⟩:=I.sqb qb
  obtain⟨u',hu,ru⟩:=r1.get hx
  obtain⟨v,hv,rv⟩:=r2.get hy
  have oa:=p1.obj
  have ob:=p2.obj
  refine Zmg D q1 q2 q3 (w1 _ _ q4) (w2 _ _ q5) (x:=u') (y:=v) (by simpa using hu) (by simpa using hv) λh' a1 a2 a3 a4 a5 a7=>?_
  refine⟨_,rfl,?_⟩
  refine wpAny_letOwnedTupleGo_zip (s:={s with heap:=h'}) a1 λh2 b1 b2=>?_
  have hfr:H s.heap.objs.size=none:=I.hok.fresh (Nat.le_refl _)
  have I1:Inv X pins σ (upd H s.heap.objs.size (.tup [x,y])) {s with heap:=s.heap.push {cls:=.type "tuple",data:=.seq #[u',v]}}:=by
   refine I.laid (t':=s.toks) (λb u e=>Heap.get?_push_of_some _ e) (Nat.le_refl _) ?_
   exact⟨by show 2<=sizeLine;decide,[u',v],.cons ru (.cons rv .nil),⟨_,Heap.get?_push_size _ rfl,rfl,_,rfl⟩⟩
  have nz:∀c∈[z,TI,TO,i1,i2],c≠s.heap.objs.size:=λc hc e=>by
   have:∃o,s.heap.get? c=some o:=by
    simp at hc
    rcases hc with rfl|rfl|rfl|rfl|rfl
    ·exact⟨_,q1⟩
    ·exact⟨_,q2⟩
    ·exact⟨_,q3⟩
    ·obtain⟨o,q,_⟩:=q4.obj;exact⟨o,q⟩
    ·obtain⟨o,q,_⟩:=q5.obj;exact⟨o,q⟩
   obtain⟨o,q⟩:=this
   exact absurd (Heap.lt_size q) (by rw[e];exact Nat.lt_irrefl _)
  have hf1:∀c∈[z,TI,TO,i1,i2],FpOk X pins (upd H s.heap.objs.size (.tup [x,y])) c:=λc hc=>by
   obtain⟨f0,f1,f2,f3,f4,f5⟩:=hf c hc
   exact⟨by rw[Zj (nz c hc)];exact f0,f1,f2,f3,f4,f5⟩
  have I2:Inv X pins σ (upd H s.heap.objs.size (.tup [x,y])) {s with heap:=h2}:=by
   refine Inv.ZgJ (s:={s with heap:=s.heap.push {cls:=.type "tuple",data:=.seq #[u',v]}}) (t':=s.toks) (fp:=[z,TI,TO,i1,i2]) I1 (λc o hc e=>?_) hf1
   simp only[List.mem_cons,List.not_mem_nil,or_false,not_or]at hc
   obtain⟨c1,c2,c3,c4,c5⟩:=hc
   refine b2.extBut _ _ c1 ?_
   by_cases hs:c=s.heap.objs.size
   ·subst hs
    have e':(s.heap.push {cls:=.type "tuple",data:=.seq #[u',v]}).get? s.heap.objs.size=some _:=Heap.get?_push_size _ rfl
    have ee:o={cls:=.type "tuple",data:=.seq #[u',v]}:=by
     have:=e.symm.trans e'
     exact Option.some.inj this
    rw[ee];exact a5
   ·have:s.heap.get? c=some o:=by
     rcases Heap.get?_push_cases e with⟨q,_⟩|q
     ·exact absurd q hs
     ·exact q
    exact a7 c o c1 c3 c4 c5 this
  have ka:∀o,s.heap.get? a=some o->h'.get? a=some o:=λo e=>a7 a o D.l1z D.l1TO D.l1i1 D.l1i2 e
  have kb:∀o,s.heap.get? b=some o->h'.get? b=some o:=λo e=>a7 b o D.l2z D.l2TO D.l2i1 D.l2i2 e
  refine⟨.ref s.heap.objs.size,_,I2,rfl,⟨_,x,y,hfr,rfl,rfl,λxs' q'=>?_,λys' q'=>?_⟩,⟨b1,?_,⟨u',v,?_⟩,?_,?_⟩,λc hc=>(hf1 c hc).1⟩
  ·rw[I.ZoM q' qa];exact hx
  ·rw[I.ZoM q' qb];exact hy
  ·exact b2.extBut _ _ D.TIz (a7 _ _ D.TIz D.TITO D.TIi1 D.TIi2 q2)
  ·exact b2.extBut _ _ D.TOz a2
  ·exact(I.itb qa ka a3).keep λo e=>b2.extBut _ _ D.i1z e
  ·exact(I.itb qb kb a4).keep λo e=>b2.extBut _ _ D.i2z e
 done:=by
  intro X hP hw hK hc i pins s σ H E I hf st hg
  subst hP hw hK
  obtain⟨xs,ys,qa,qb,hx⟩:=hg
  obtain⟨q1,q2,⟨u0,v0,q3⟩,q4,q5⟩:=st
  obtain⟨is1,r1,p1,w1⟩:=I.sqb qa
  obtain⟨is2,r2,p2,w2⟩:=I.sqb qb
  refine ZnD (I.ok.hd hc) D q1 q2 q3 (w1 _ _ q4) (w2 _ _ q5) ?_ λh' k=>⟨rfl,I.ZgJ (t':=s.toks) (fp:=[z,TI,TO,i1,i2]) (λc o hc e=>?_) hf⟩
  ·rcases hx with hx|hx
   ·left;simp;rw[<-r1.length];exact hx
   ·right;simp;rw[<-r2.length];exact hx
  ·simp only[List.mem_cons,List.not_mem_nil,or_false,not_or]at hc
   obtain⟨c1,c2,c3,c4,c5⟩:=hc
   exact k c o c1 c3 c4 c5 e
 self:=λ_ _ _ _ _ st h=>wpAny_pyIter_zip st.1 h
noncomputable def ZrH (K:Frag) (ta:TA):TI:=fun σ H R=>ta σ H λvs H1=>∃a b t u xs ys,vs=[.ref a,.ref b]/\SqB K t H1 a xs/\SqB K u H1 b ys/\R (Itzq K t u a b) H1
theorem Zli {K:Frag}{elts:List Expr} {x1}{tp:Pos}{e1 e2:Expr}{ta:TA}{p pos:Pos} (hK:X.K=K) (hg:Gl X "zip") (hm:X.mg "zip"=none) (ha:PA X [e1,e2] ta) (he:starEach [e1,e2] X.env=(false,eval e1 X.env)::starEach [e2] X.env:=by rfl) (hpl:(backTo pos (starEach [e2] X.env)).any (·.1)=false:=by rfl) :
  PI X (.Tuple elts x1 tp) (.Call (.Name "zip" p) [e1,e2] [] pos) (ZrH K ta):=by
 subst hK
 intro pins s σ H R I h
 refine wpAny_Call_Name_kw (ZbK I hg hm Zkm ?_)
 refine PyProof.Rows.callWith_type1 (thn (ha pos pins s σ H _ I h) λus s1 ⟨vs,H1,I1,r1,a,b,t,u,xs,ys,e1,qa,qb,q⟩=>?_) he hpl
 subst e1
 obtain⟨u',v,rfl,ru,rv⟩:=r1.two
 cases(show u'=Value.ref a from ru)
 cases(show v=Value.ref b from rv)
 obtain⟨is1,rr1,p1,_⟩:=I1.sqb qa
 obtain⟨is2,rr2,p2,_⟩:=I1.sqb qb
 refine Zpx p1 p2 λh' c1 c2 c3 c4 c5 c7=>?_
 refine wpAny_pyIter_zip c1 ?_
 have l1:a<s1.heap.objs.size:=by obtain⟨o,e⟩:=p1.obj;exact Heap.lt_size e
 have l2:b<s1.heap.objs.size:=by obtain⟨o,e⟩:=p2.obj;exact Heap.lt_size e
 have sm:∀b,s1.heap.objs.size<=b->FpOk X pins H1 b:=λb hb=>I1.Zo1 hb (I1.hok.fresh hb)
 refine⟨_,[s1.heap.objs.size+4,s1.heap.objs.size+2,s1.heap.objs.size+3,s1.heap.objs.size,s1.heap.objs.size+1],_,_,H1,rfl,I1.kept (t':=s1.toks) c7,Zpy (t:=t) (u:=u) (a:=a) (b:=b) ?_,⟨c1,c2,⟨_,_,c3⟩,I1.itb qa (λo e=>c7 _ o e) c4,I1.itb qb (λo e=>c7 _ o e) c5⟩,λc hc=>?_,q⟩
 ·exact Zrn _ _ _ l1 l2
 ·simp at hc
  rcases hc with rfl|rfl|rfl|rfl|rfl<;>exact sm _ (by omega)
end
theorem Zj2 {F:Nat->Int}{n k:Nat} (h:k<n):nth ((List.range n).map F) k=F k:=by simp[nth,List.getD_eq_getElem?_getD,h]
noncomputable def Zcd (T:List Int):Nat->Int->Prop
 |0,a=>a=-1
 |k+1,a=>a=-1\/(0<=a/\a<T.length/\Zcd T k (nth T a.toNat))
theorem ZnF (T:List Int) (k:Nat):Zcd T k (-1):=by cases k<;>simp[Zcd]
theorem ZhZ (T:List Int):∀k a,Zcd T k a->Zcd T (k+1) a
 |0,a,h=>.inl h
 |k+1,a,h=>by
  rcases h with h|⟨h1,h2,h3⟩
  ·exact .inl h
  ·exact .inr ⟨h1,h2,ZhZ T k _ h3⟩
theorem Zpz (T:List Int) {k m:Nat} (h:k<=m) {a:Int} (e:Zcd T k a):Zcd T m a:=by
 induction h with
 |refl=>exact e
 |step _ ih=>exact ZhZ T _ _ ih
theorem Zh0 {ns T:List Int} (hT:Zw ns T):∀d p,p<ns.length->dep (nth ns) ns.length p<=d->Zcd T (d+1) (p:Int)
 |d,p,hp,hd=>by
  have e:=hT.1
  refine .inr ⟨by omega,by omega,?_⟩
  have ep:((p:Int)).toNat=p:=by omega
  rw[ep]
  rcases ZA hT hp with z|⟨q,z,hq,_,hz⟩
  ·rw[z];exact ZnF T d
  ·rw[z]
   cases d with
   |zero=>omega
   |succ d=>exact Zh0 hT d q hq (by omega)
theorem ZiW {ns T:List Int} (hT:Zw ns T) {p:Nat} (hp:p<T.length):Zcd T T.length (nth T p):=by
 have e:=hT.1
 have h:=Zh0 hT (dep (nth ns) ns.length p) p (by omega) (Nat.le_refl _)
 rcases h with h|⟨_,_,h⟩
 ·omega
 ·have ep:((p:Int)).toNat=p:=by omega
  rw[ep]at h
  have:=ZiQ (f:=nth ns) (n:=ns.length) (p:=p) (by omega)
  exact Zpz T (by omega) h
noncomputable def CDivL (i j:Int):Prop:=0<j/\j<18446744073709551616
theorem ZgS {X:Cx}:OpR X (binaryOp .FloorDiv) (rI CDivL λi j=>.int (i / j)):=opI λi j _ _ _ _ _ hc q=>by
 have h1:(0:Int)<j:=hc.1
 have h2:j<18446744073709551616:=hc.2
 refine floordiv_int (by omega) (by rw[Int.fdiv_eq_ediv_of_nonneg i (by omega)];exact q) (.inl (PyProof.noPylong_of_log2 ?_))
 have h3:j.natAbs<2 ^ 64:=by omega
 have:j.natAbs.log2<64:=(Nat.log2_lt (by omega)).mpr h3
 omega
end L2
namespace L2
open PySem PySem.Spec PyProof.Rows PySem.W
noncomputable def sw (d:Int) (k:Nat):Int:=if d<=k then d else 0
theorem Zmh (f:Nat->Int) (p:Nat):(ZbN f p/\ZdU f p=0)\/∃q,Z7 f p q/\ZdU f p=(p:Int)-q:=by
 rcases Zix f p with h|⟨q,h⟩
 ·exact .inl ⟨h,by unfold ZdU;rw[ZtA h,if_neg (by omega)]⟩
 ·exact .inr ⟨q,h,by unfold ZdU;rw[Zpu h,if_pos (by omega)]⟩
theorem Zlj (f:Nat->Int) (p:Nat):0<=ZdU f p/\ZdU f p<=p:=by
 rcases Zmh f p with⟨_,e⟩|⟨q,h,e⟩
 ·omega
 ·have:=h.1;omega
theorem ZtB (f:Nat->Int) (p:Nat):sw (ZdU f p) p=ZdU f p:=if_pos (Zlj f p).2
noncomputable def KinD (f g:Nat->Int) (m:Nat):Prop:=∀i,i<m->ZdU f i=ZdU g i
noncomputable def Mt (f g:Nat->Int) (m p:Nat):Prop:=∀i,i<m->ZdU f i=sw (ZdU g (p-m+i)) i
theorem Mt.self (f:Nat->Int) (m:Nat):Mt f f m m:=λi hi=>by rw[Nat.sub_self,Nat.zero_add,ZtB]
noncomputable def ZiX (f:Nat->Int) (k m:Nat):Prop:=m<k/\Mt f f m k/\∀j,m<j->j<k->¬ Mt f f j k
theorem ZiX.unique {f:Nat->Int}{k m j:Nat} (h:ZiX f k m) (h':ZiX f k j):m=j:=by
 rcases Nat.lt_trichotomy m j with z|z|z
 ·exact absurd h'.2.1 (h.2.2 j z h'.1)
 ·exact z
 ·exact absurd h.2.1 (h'.2.2 m z h.1)
noncomputable def Walk (f:Nat->Int) (n s:Nat) (d:Int) (c:Nat):Prop:=c<=s/\Mt f f c s/\∀j,c<j->j<=s->Mt f f j s->¬ (j<n/\ZdU f j=sw d j)
theorem Walk.start (f:Nat->Int) (n s:Nat) (d:Int):Walk f n s d s:=⟨Nat.le_refl _,Mt.self f s,λj h1 h2=>absurd h1 (by omega)⟩
end L2
namespace L2
open PySem PySem.Spec PyProof.Rows PySem.W
noncomputable def RA (Z H:Hp) (l:Addr) (as:List Addr) (C:Nat):Prop:=H l=some (.lst (as.map V.ref))/\l∉as/\Z l=none/\∀a∈as,Z a=none/\∃ns:List Int,H a=some (.lst (ns.map V.int))/\ns.length<=C
theorem RA.same {Z H H':Hp}{l:Addr}{as:List Addr}{C:Nat} (R:RA Z H l as C) (s:Zh H H'):RA Z H' l as C :=
 ⟨s _ _ R.1,R.2.1,R.2.2.1,λa ha=>⟨(R.2.2.2 a ha).1,by
  obtain⟨z,ns,h,hl⟩:=R.2.2.2 a ha
  exact⟨ns,s _ _ h,hl⟩⟩⟩
theorem RA.mono {Z H:Hp}{l:Addr}{as:List Addr}{C D:Nat} (R:RA Z H l as C) (h:C<=D):RA Z H l as D :=
 ⟨R.1,R.2.1,R.2.2.1,λa ha=>⟨(R.2.2.2 a ha).1,by
  obtain⟨z,ns,e,hl⟩:=R.2.2.2 a ha
  exact⟨ns,e,by omega⟩⟩⟩
theorem RA.outer {Z H:Hp}{l:Addr}{as bs:List Addr}{C:Nat} (R:RA Z H l as C) (h:∀b∈bs,b∈as):RA Z (upd H l (.lst (bs.map V.ref))) l bs C :=
 ⟨Zd,λz=>R.2.1 (h _ z),R.2.2.1,λa ha=>⟨(R.2.2.2 a (h a ha)).1,by
  obtain⟨z,ns,e,hl⟩:=R.2.2.2 a (h a ha)
  exact⟨ns,by rw[Zj (λy=>R.2.1 (by rw[<-y];exact h a ha))];exact e,hl⟩⟩⟩
theorem RA.more {Z H:Hp}{l q:Addr}{as bs:List Addr}{C:Nat}{ns:List Int} (R:RA Z H l as C) (h:∀b∈bs,b∈as\/b=q) (hq:H q=some (.lst (ns.map V.int))) (zq:Z q=none) (hl:ns.length<=C) (nq:q≠l):RA Z (upd H l (.lst (bs.map V.ref))) l bs C :=
 ⟨Zd,λz=>(h _ z).elim R.2.1 (λy=>nq y.symm),R.2.2.1,λa ha=>by
  rcases h a ha with h1|rfl
  ·obtain⟨z,ns,e,hl⟩:=R.2.2.2 a h1
   exact⟨z,ns,by rw[Zj (λy=>R.2.1 (by rw[<-y];exact h1))];exact e,hl⟩
  ·exact⟨zq,ns,by rw[Zj nq];exact hq,hl⟩⟩
theorem RA.at {Z H:Hp}{l:Addr}{as:List Addr}{C i:Nat} (R:RA Z H l as C) (h:i<as.length):∃(a:Addr) (ns:List Int),a∈as/\as[i]?=some a/\atI (as.map V.ref) (i:Int)=some (.ref a)/\H a=some (.lst (ns.map V.int))/\ns.length<=C/\Z a=none/\a≠l:=by
 obtain⟨z,ns,e,hl⟩:=R.2.2.2 as[i] (List.getElem_mem _)
 refine⟨as[i],ns,List.getElem_mem _,List.getElem?_eq_getElem h,?_,e,hl,z,λy=>R.2.1 (by rw[<-y];exact List.getElem_mem _)⟩
 rw[Zef rfl (by simpa using h)];simp
theorem RA.from {Z H H':Hp}{l p:Addr}{as:List Addr}{C:Nat} (R:RA H H' l as C) (e:Exc p Z H) (hp:H p≠none):RA Z H' l as C :=
 ⟨R.1,R.2.1,e.free (λz=>hp (by rw[<-z];exact R.2.2.1)) R.2.2.1,λa ha=>⟨e.free (λz=>hp (by rw[<-z];exact(R.2.2.2 a ha).1)) (R.2.2.2 a ha).1,(R.2.2.2 a ha).2⟩⟩
theorem IsL.mono {K:Frag}{H H':Hp}{α:Type}{P P':V->α->Prop}{v:V}{as:List α} (h:IsL K H P v as) (s:Zh H H') (hp:∀x y,P x y->P' x y):IsL K H' P' v as:=by
 obtain⟨a,xs,e,q,l,r⟩:=h
 exact⟨a,xs,e,s.seq q,l,λj x y h1 h2=>hp _ _ (r j x y h1 h2)⟩
theorem IsL2.same {K:Frag}{H H':Hp}{v:V}{rs:List (List Int)} (h:IsL K H (IsL K H IsI) v rs) (s:Zh H H'):IsL K H' (IsL K H' IsI) v rs:=IsL.mono h s λx y q=>IsL.mono q s λ_ _ z=>z
noncomputable def ZbA (H:Hp) (l:Addr) (rs:List (List Int)):Prop:=∃as:List Addr,H l=some (.lst (as.map V.ref))/\as.length=rs.length/\∀i (h1:i<as.length) (h2:i<rs.length),H as[i]=some (.tup (rs[i].map V.int))
theorem ZbA.same {H H':Hp}{l:Addr}{rs:List (List Int)} (R:ZbA H l rs) (s:Zh H H'):ZbA H' l rs:=by
 obtain⟨as,h1,h2,h3⟩:=R
 exact⟨as,s _ _ h1,h2,λi i1 i2=>s _ _ (h3 i i1 i2)⟩
theorem ZbA.nil {H:Hp}{l:Addr} (h:H l=some (.lst [])):ZbA H l []:=⟨[],h,rfl,λi i1=>absurd i1 (by simp)⟩
noncomputable def Once (k:Nat) (ss ls:List Int):Prop:=ss=((List.range k).map λ(j:Nat)=>(j:Int)).filter (λj=>decide (j∉ls))/\ls=((List.range k).map λ(j:Nat)=>(j:Int)).filter (λj=>decide (j∈ls))
noncomputable instance (k:Nat) (ss ls:List Int):Decidable (Once k ss ls):=inferInstanceAs (Decidable (_/\_))
theorem KinD.trans {f g h:Nat->Int}{n:Nat} (a:KinD f g n) (b:KinD g h n):KinD f h n:=λi hi=>(a i hi).trans (b i hi)
section
variable {N:Nat}{k:Nat->Int}{cmp:Nat->Nat->(Bool->Shared->Prop)->Shared->Prop}{s:Shared}{p:Array Nat}
noncomputable def kk (k:Nat->Int) (p:Array Nat) (i:Nat):Int:=k (p.getD i 0)
noncomputable def SoT (k:Nat->Int) (p:Array Nat) (m:Nat):Prop:=∀i j,i<=j->j<m->kk k p i<=kk k p j
noncomputable def Bd (N:Nat) (p:Array Nat):Prop:=p.Perm (List.range N).toArray
theorem Bd.size (h:Bd N p):p.size=N:=by
 have:=(Array.perm_iff_toList_perm.mp h).length_eq
 simpa using this
theorem Bd.lt (h:Bd N p) (hN:0<N) (i:Nat):p.getD i 0<N:=by
 rw[Array.getD_eq_getD_getElem?]
 by_cases hi:i<p.size
 ·rw[getElem?_pos p i hi]
  have:=(Array.Perm.mem_iff h (a:=p[i])).mp (Array.getElem_mem hi)
  simpa using this
 ·rw[getElem?_neg p i hi];exact hN
noncomputable def ZrI (N:Nat) (k:Nat->Int) (cmp:Nat->Nat->(Bool->Shared->Prop)->Shared->Prop) (s:Shared):Prop:=∀i j C,i<N->j<N->C (decide (k i<k j)) s->cmp i j C s
end
section
variable {prog:Program}{w:World}{E:Value->Shared->Prop}{s:Shared}
noncomputable def Zh1 (vs:List Value) (p:Array Nat):Array Value:=List.toArray (p.toList.map λi=>vs.getD i Value.none)
noncomputable def Pr (h:Heap) (v:Value) (x y:Int):Prop:=∃a o n t u,v=.ref a/\h.get? a=some o/\o.cls=.type "tuple"/\o.data=.seq #[.int x t,.int y u] n
theorem Pr.keep {h h':Heap}{v:Value}{x y:Int} (p:Pr h v x y) (k:∀b o,h.get? b=some o->h'.get? b=some o):Pr h' v x y:=by
 obtain⟨a,o,n,t,u,e,g,r⟩:=p
 exact⟨a,o,n,t,u,e,k _ _ g,r⟩
theorem ZoN {h:Heap}:∀{vs:List Value},(∀v∈vs,∃x y,Pr h v x y)->∃fs,KatTups h vs fs/\fs.length=vs.length/\∀f∈fs,∃x t,f=Value.int x t
 |[],_=>⟨[],trivial,rfl,λf hf=>by cases hf⟩
 |v::vs,hv=>by
  obtain⟨fs,h1,h2,h3⟩:=ZoN (λu hu=>hv u (List.mem_cons_of_mem _ hu))
  obtain⟨x,y,a,o,n,t,u,rfl,e,c,d⟩:=hv v List.mem_cons_self
  refine⟨.int x t::fs,KatTups.cons e c d rfl h1,by simp[h2],λf hf=>?_⟩
  rcases List.mem_cons.mp hf with rfl|hf
  ·exact⟨x,t,rfl⟩
  ·exact h3 f hf
theorem ZnG {A:Around}{vs:List Value}{Q:SortKind->Shared->Prop} (h2:2<=vs.length) (hv:∀v∈vs,∃x y,Pr s.heap v x y) (h:Q (tuples' true) s):wpAny (model prog w) A (keyKind' vs.toArray) Q E s:=by
 obtain⟨fs,h1,hl,h3⟩:=ZoN hv
 refine kat_kind h1 (by omega) (T:=.type "int") (λf hf=>?_) (by decide) ?_
 ·obtain⟨x,t,rfl⟩:=h3 f hf
  exact .now
 ·rw[show(Value.type "int" != Value.type "tuple")=true by decide];exact h
theorem ZrJ {A:Around}{v v':Value}{x y x' y':Int}{C:Bool->Shared->Prop} (p:Pr s.heap v x y) (p':Pr s.heap v' x' y') (h:C (decide (x<x'\/(x=x'/\y<y'))) s):wpAny (model prog w) A (keyLt' (tuples' true) v v') C E s:=by
 obtain⟨a,o,n,t,u,rfl,e,c,d⟩:=p
 obtain⟨a',o',n',t',u',rfl,e',c',d'⟩:=p'
 refine kat_lt e d e' d' ?_
 show KatLex prog w A true _ C [(.int x t,.int x' t'),(.int y u,.int y' u')] 0 s
 refine kat_cons (wpAny_eqBool_int ?_)
 by_cases ex:x=x'
 ·rw[show(x==x')=true from beq_iff_eq.mpr ex]
  refine kat_yes (kat_cons (wpAny_eqBool_int ?_))
  by_cases ey:y=y'
  ·rw[show(y==y')=true from beq_iff_eq.mpr ey]
   refine kat_yes (kat_nil ?_)
   have:decide (x<x'\/(x=x'/\y<y'))=false:=decide_eq_false (by omega)
   rw[this]at h
   exact h
  ·rw[show(y==y')=false from beq_eq_false_iff_ne.mpr ey]
   refine kat_no (kat_one _ _ (PyProof.Rows.lt_int (show C (decide (y<y')) s from ?_)))
   have:decide (x<x'\/(x=x'/\y<y'))=decide (y<y'):=decide_eq_decide.mpr (by omega)
   rw[this]at h
   exact h
 ·rw[show(x==x')=false from beq_eq_false_iff_ne.mpr ex]
  refine kat_no (oneLt_int ?_)
  have:decide (x<x'\/(x=x'/\y<y'))=decide (x<x'):=decide_eq_decide.mpr (by omega)
  rw[this]at h
  exact h
end
section
variable {X:Cx}
noncomputable def ZeS (r:List Int):Int:=r.getD 0 0*100000+r.getD 1 0
end
theorem Zmi {f g:Nat->Int}{i p:Nat}{e:Int} (h:∀q,q<i->f q=g q) (hp:p<i) (he:ZN f i p e):ZN g i p e:=by
 have c1:ZbN f p->ZbN g p:=λz q hq=>by rw[<-h p hp,<-h q (by omega)];exact z q hq
 have c2:Zbx f i p->Zbx g i p:=λz r r1 r2=>by rw[<-h p hp,<-h r r2];exact z r r1 r2
 have c3:∀q,Z7 f p q->Z7 g p q:=λq ⟨z1,z2,z3⟩=>⟨z1,by rw[<-h p hp,<-h q (by omega)];exact z2,λr r1 r2=>by rw[<-h p hp,<-h r (by omega)];exact z3 r r1 r2⟩
 have c4:∀r,Zao f i p r->Zao g i p r:=λr ⟨z1,z2,z3,z4⟩=>⟨z1,z2,by rw[<-h p hp,<-h r z2];exact z3,λs s1 s2=>by rw[<-h p hp,<-h s (by omega)];exact z4 s s1 s2⟩
 rcases he with⟨a,b,c⟩|⟨q,a,b,c⟩|⟨r,a,b,c⟩|⟨q,r,a,b,c⟩
 ·exact .inl ⟨c1 a,c2 b,c⟩
 ·exact .inr (.inl ⟨q,c3 q a,c2 b,c⟩)
 ·exact .inr (.inr (.inl ⟨r,c1 a,c4 r b,c⟩))
 ·exact .inr (.inr (.inr ⟨q,r,c3 q a,c4 r b,by rw[<-h q (Nat.lt_trans a.1 hp),<-h r b.2.1];exact c⟩))
noncomputable def ZpA (n i:Nat) (S:List Nat) (es:List Int):Prop:=∃f:Nat->Int,ZiM f i S/\S.Pairwise (λq r=>f q+2 ^ (n-i)<=f r)/\∀p,p<i->ZN f i p (es.getD p 0)
theorem ZpA.lt {n i:Nat}{S:List Nat}{es:List Int} (h:ZpA n i S es):∀q∈S,q<i:=by
 obtain⟨f,hS,_⟩:=h
 exact λq hq=>((hS.2 q).mp hq).1
theorem ZpA.len {n i:Nat}{S:List Nat}{es:List Int} (h:ZpA n i S es):S.length<=i:=by
 have hl:=h.lt
 obtain⟨f,hS,_⟩:=h
 rcases Znw S i 0 hS.1 (λq hq=>⟨Nat.zero_le _,hl q hq⟩)with z|z
 ·omega
 ·rw[z];simp
theorem ZpA.tree {n:Nat}{S:List Nat}{es:List Int} (h:ZpA n n S es) (hl:es.length=n):∃ns,Zw ns es:=by
 obtain⟨f,_,_,hE⟩:=h
 refine⟨(List.range n).map f,by simp[hl],λp hp=>?_⟩
 have hp:p<n:=by simpa using hp
 have:=hE p hp
 rw[show((List.range n).map f).length=n by simp]
 exact Zmi (f:=f) (λq hq=>(Zj2 hq).symm) hp this
theorem ZbA.keep {H H':Hp}{l:Addr}{rs:List (List Int)} (R:ZbA H l rs) (h1:∀xs,H l=some (.lst xs)->H' l=some (.lst xs)) (h2:∀a xs,H a=some (.tup xs)->H' a=some (.tup xs)):ZbA H' l rs:=by
 obtain⟨as,e,hl,h⟩:=R
 exact⟨as,h1 _ e,hl,λi i1 i2=>h2 _ _ (h i i1 i2)⟩
theorem ZtC (f:Nat->Int) (n p:Nat):Zbx f n p\/∃r,Zao f n p r:=by
 by_cases h:∀j,j<n-(p+1)->f p<=f (p+1+j)
 ·exact .inl λr h1 h2=>by
   have:=h (r-(p+1)) (by omega)
   rwa [show p+1+(r-(p+1))=r by omega]at this
 ·obtain⟨j,hj,h1,h2⟩:=Zhp _ h
  refine .inr ⟨p+1+j,by omega,by omega,by omega,λs s1 s2=>?_⟩
  have:=h2 (s-(p+1)) (by omega)
  rwa [show p+1+(s-(p+1))=s by omega]at this
theorem ZbA.at {K:Frag}{H:Hp}{l:Addr}{rs:List (List Int)}{p:Nat} (R:ZbA H l rs) (h:p<rs.length):∃xs a,SqL K H l xs/\atI xs (p:Int)=some (V.ref a)/\H a=some (.tup (rs[p].map V.int)):=by
 obtain⟨as,e,hl,ht⟩:=R
 refine⟨as.map V.ref,as[p]'(by omega),SqL.of e,?_,ht p (by omega) h⟩
 rw[Zef rfl (by rw[List.length_map];omega)];simp
noncomputable def NextAt (f:Nat->Int) (p k:Nat):Prop:=p<k/\f k<f p/\∀s,p<s->s<k->f p<=f s
open Classical in
noncomputable def dropAt (f:Nat->Int) (k:Nat):Nat:=(List.range k).countP λp=>decide (NextAt f p k)
noncomputable def HungD (n i:Nat) (S:List Nat) (es:List Int) (ds:List Nat):Prop:=∃f:Nat->Int,ZiM f i S/\S.Pairwise (λq r=>f q+2 ^ (n-i)<=f r)/\(∀p,p<i->ZN f i p (es.getD p 0))/\∀k,k<i->dropAt f k=ds.getD k 0
theorem HungD.lt {n i:Nat}{S ds:List Nat}{es:List Int} (h:HungD n i S es ds):∀q∈S,q<i:=by
 obtain⟨f,hS,_⟩:=h
 exact λq hq=>((hS.2 q).mp hq).1
end L2
namespace L2
open PySem PySem.Spec PyProof.Rows PySem.W
end L2
namespace L2
noncomputable def Ok:Nat->List Nat->Prop
 |_,[]=>True
 |st,d::ds=>d<=st/\Ok (st-d+1) ds
end L2
namespace L2
open PySem PySem.Spec PyProof.Rows PySem.W
end L2
namespace L2
open PySem PySem.Spec PyProof.Rows PySem.W
end L2
namespace L2
open PySem PySem.Spec PyProof.Rows
section
variable {κ:Type} [DecidableEq κ]
noncomputable def ZiY (kvs:List (κ×V)) (k:κ):Option V:=(kvs.find? λkv=>decide (kv.1=k)).map (·.2)
noncomputable def putK (kvs:List (κ×V)) (k:κ) (v:V):List (κ×V) :=
 if (kvs.any λkv=>decide (kv.1=k))=true then kvs.map (λkv=>if kv.1=k then (kv.1,v)else kv)else kvs++[(k,v)]
noncomputable def dropK (kvs:List (κ×V)) (k:κ):List (κ×V):=kvs.filter λkv=>decide (kv.1≠k)
theorem Zmj {p:κ×V}{r:List (κ×V)}{k:κ} (e:p.1=k):ZiY (p::r) k=some p.2:=by simp[ZiY,List.find?_cons,e]
theorem Zmk {p:κ×V}{r:List (κ×V)}{k:κ} (e:¬ p.1=k):ZiY (p::r) k=ZiY r k:=by simp[ZiY,List.find?_cons,e]
theorem Znc.getD {o:Option V}{u:Option Value}{d:V}{d':Value} (r:Znc o u) (rd:RelV d d'):RelV (o.getD d) (u.getD d'):=by
 cases o with
 |none=>cases u with
  |none=>exact rd
  |some _=>exact(show False from r).elim
 |some _=>cases u with
  |none=>exact(show False from r).elim
  |some _=>exact r
theorem KV.val {kvs:List (κ×V)}{vs:List (κ×Value)} (r:KV kvs vs) (k:κ):Znc (ZiY kvs k) (valueAt vs k):=by
 unfold KV at r
 induction r with
 |nil=>exact True.intro
 |@cons p q ps qs h t ih =>
  obtain⟨h1,h2⟩:=h
  by_cases e:p.1=k
  ·have e':q.1=k:=h1.symm.trans e
   have b:valueAt (q::qs) k=some q.2:=by simp[valueAt,List.find?_cons,e']
   rw[Zmj e,b];exact h2
  ·have e':¬ q.1=k:=λz=>e (h1.trans z)
   have b:valueAt (q::qs) k=valueAt qs k:=by simp[valueAt,List.find?_cons,e']
   rw[Zmk e,b];exact ih
theorem KV.any {kvs:List (κ×V)}{vs:List (κ×Value)} (r:KV kvs vs) (k:κ):(kvs.any λkv=>decide (kv.1=k))=vs.any λkv=>decide (kv.1=k):=by
 unfold KV at r
 induction r with
 |nil=>rfl
 |cons h t ih=>rw[List.any_cons,List.any_cons,ih,h.1]
theorem KV.drop {kvs:List (κ×V)}{vs:List (κ×Value)} (r:KV kvs vs) (k:κ):KV (dropK kvs k) (without vs k):=by
 unfold KV at r⊢
 unfold dropK without
 induction r with
 |nil=>exact .nil
 |@cons p q ps qs h t ih =>
  obtain⟨h1,h2⟩:=h
  rw[List.filter_cons,List.filter_cons]
  by_cases e:p.1=k
  ·have a:¬ decide (p.1≠k)=true:=by simp[e]
   have b:¬ decide (q.1≠k)=true:=by simp[h1.symm.trans e]
   rw[if_neg a,if_neg b];exact ih
  ·have e':¬ q.1=k:=λz=>e (h1.trans z)
   have a:decide (p.1≠k)=true:=by simp[e]
   have b:decide (q.1≠k)=true:=by simp[e']
   rw[if_pos a,if_pos b];exact .cons ⟨h1,h2⟩ ih
theorem KV.length {kvs:List (κ×V)}{vs:List (κ×Value)} (r:KV kvs vs):kvs.length=vs.length:=Paired.length r
end
noncomputable abbrev KT (H:Hp):List (List Key×V)->List (List Key×Addr×Value)->Prop:=Paired λp q=>p.1=q.1/\H q.2.1=some (.tup (p.1.map kV))/\RelV p.2 q.2.2
theorem KT.val {H:Hp}{kvs:List (List Key×V)}{xs:List (List Key×Addr×Value)} (r:KT H kvs xs) (k:List Key):Znc (ZiY kvs k) ((atKey xs k).map (·.2)):=by
 induction r with
 |nil=>exact True.intro
 |@cons p q ps qs h t ih =>
  obtain⟨h1,_,h2⟩:=h
  by_cases e:p.1=k
  ·have e':q.1=k:=h1.symm.trans e
   have b:atKey (q::qs) k=some q.2:=by simp[atKey,List.find?_cons,e']
   rw[Zmj e,b];exact h2
  ·have e':¬ q.1=k:=λz=>e (h1.trans z)
   have b:atKey (q::qs) k=atKey qs k:=by simp[atKey,List.find?_cons,e']
   rw[Zmk e,b];exact ih
noncomputable def DGet (H:Hp) (a:Addr) (y:V) (r:Option V):Prop :=
 (∃kvs k,Rd H a (.dK kvs)/\y=kV k/\r=ZiY kvs k)\/∃kvs k b,Rd H a (.dT kvs)/\y=.ref b/\H b=some (.tup (k.map kV))/\r=ZiY kvs k
noncomputable def DPut (H:Hp) (a:Addr) (y v:V) (H':Hp):Prop :=
 (∃kvs k,H a=some (.dK kvs)/\y=kV k/\kvs.length<sizeLine/\H'=upd H a (.dK (putK kvs k v))) \/
 ∃kvs k b,H a=some (.dT kvs)/\y=.ref b/\H b=some (.tup (k.map kV))/\kvs.length<sizeLine/\H'=upd H a (.dT (putK kvs k v))
theorem DGet.k {H:Hp}{a:Addr}{kvs:List (Key×V)}{k:Key} (e:H a=some (.dK kvs)):DGet H a (kV k) (ZiY kvs k):=.inl ⟨kvs,k,.inl e,rfl,rfl⟩
theorem DGet.t {H:Hp}{a b:Addr}{kvs:List (List Key×V)}{k:List Key} (e:H a=some (.dT kvs)) (eb:H b=some (.tup (k.map kV))):DGet H a (.ref b) (ZiY kvs k):=.inr ⟨kvs,k,b,.inl e,rfl,eb,rfl⟩
theorem DPut.k {H:Hp}{a:Addr}{kvs:List (Key×V)}{k:Key}{v:V} (e:H a=some (.dK kvs)) (hl:kvs.length<sizeLine):DPut H a (kV k) v (upd H a (.dK (putK kvs k v))):=.inl ⟨kvs,k,e,rfl,hl,rfl⟩
theorem DPut.t {H:Hp}{a b:Addr}{kvs:List (List Key×V)}{k:List Key}{v:V} (e:H a=some (.dT kvs)) (eb:H b=some (.tup (k.map kV))) (hl:kvs.length<sizeLine) :
  DPut H a (.ref b) v (upd H a (.dT (putK kvs k v))):=.inr ⟨kvs,k,b,e,rfl,eb,hl,rfl⟩
end L2
namespace L2
open PySem PySem.Spec PyProof.Rows PySem.W PySem.Calls
end L2
namespace L2
open PySem PySem.Spec PyProof.Rows PySem.W
section
variable {X:Cx}
noncomputable def rSlV:V->Option Int->Option Int->Hp->VK->Prop:=λx lo hi H Q=>∃a xs,x=.ref a/\H a=some (.tup xs)/\∀p H',Zh H H'->H' p=some (.tup (Ze8 xs lo hi))->Q (.ref p) H'
theorem sl_v {K:Frag} (hK:X.K=K):SlR X rSlV:=by
 intro pins s σ H x v vl vu lo hi sl Q I rx hs pl pu h
 obtain⟨a,xs,rfl,hx,q⟩:=h
 refine sl_q hK pins s σ H _ v vl vu lo hi sl Q I rx hs pl pu ⟨a,xs,rfl,.inr ⟨SqT.of hx,λhw=>?_,λ_ p hp=>?_⟩⟩
 ·exact q a H (Zh.refl H) (by rw[Zpm hw];exact hx)
 ·exact q p _ ((Zh.refl H).upd hp) Zd
noncomputable def ZrK (K:Frag):R2:=λx y H Q=>∃(a b:Addr) (xs ys:List V),x=.ref a/\y=.ref b/\SqL K H a xs/\SqL K H b ys/\xs.length+ys.length<=sizeLine/\∀p,H p=none->Q (.ref p) (upd H p (.lst (xs++ys)))
theorem Zlk {K:Frag} (hK:X.K=K):OpR X (binaryOp .Add) (ZrK K):=by
 subst hK
 intro pins s σ H x y v u Q I rx ry h
 obtain⟨a,b,xs,ys,rfl,rfl,ha,hb,hz,q⟩:=h
 cases rx
 cases ry
 obtain⟨its,r1,p1,_⟩:=I.list ha
 obtain⟨its2,r2,p2,_⟩:=I.list hb
 obtain⟨⟨c1,d1,x1,l1⟩,e1,k1,n1,y1⟩:=p1.isList
 obtain⟨⟨c2,d2,x2,l2⟩,e2,k2,n2,y2⟩:=p2.isList
 simp only at k1 y1 k2 y2
 subst k1 y1 k2 y2
 refine concat_meets ⟨_,e1,rfl⟩ ⟨_,e2,rfl⟩ noFill_list_add seq_list_add PySem.F.slot_list_add PySem.F.entry_list_add (PySem.F.args_list_add_2 _ _) (list_addW a b its.toArray its2.toArray n1 n2 d1 d2 l1 l2 (by rw[List.size_toArray,List.size_toArray,<-r1.length,<-r2.length];exact hz)) ⟨e1,e2,?_⟩
 have ea:its.toArray++its2.toArray=(its++its2).toArray:=by simp
 rw[ea]
 exact⟨.ref _,_,I.lnew (t':=s.toks) (r1.append r2) (by rw[List.length_append];exact hz),rfl,q _ I.fresh⟩
end
noncomputable def sF (r:Addr) (f:Int) (t:Addr):List (Str×V):=putF "tree" (.ref t) (putF "first" (.int f) (putF "row" (.ref r) []))
noncomputable def Zkw (H:Hp) (as:List Addr) (L:List (List V)):Prop:=as.length=L.length/\∀i (h1:i<as.length) (h2:i<L.length),H as[i]=some (.tup L[i])
theorem Zkw.same {H H':Hp}{as:List Addr}{L:List (List V)} (h:Zkw H as L) (s:Zh H H'):Zkw H' as L:=⟨h.1,λi i1 i2=>s _ _ (h.2 i i1 i2)⟩
theorem Zkw.nil {H:Hp}:Zkw H [] []:=⟨rfl,λi h=>absurd h (by simp)⟩
noncomputable def ZnH (H:Hp) (c:Addr) (L:List (List V)):Prop:=∃as:List Addr,H c=some (.lst (as.map V.ref))/\Zkw H as L
theorem ZnH.same {H H':Hp}{c:Addr}{L:List (List V)} (h:ZnH H c L) (s:Zh H H'):ZnH H' c L:=by
 obtain⟨as,h1,h2⟩:=h
 exact⟨as,s _ _ h1,h2.same s⟩
noncomputable def ChB (f:Nat->Int) (N p:Nat):Prop:=Zbx f N p/\f N<f p/\∀q,Z7 f p q->f q<=f N
theorem ChB.unique {f:Nat->Int}{N p p':Nat} (hp:p<N) (hp':p'<N) (h:ChB f N p) (h':ChB f N p'):p=p':=by
 have key:∀{p p':Nat},p<p'->p'<N->ChB f N p->ChB f N p'->False:=λ{p p'} hlt hN h h'=>by
  rcases Zix f p' with z|⟨q,z⟩
  ·have:=z p hlt;have:=h.1 p' hlt hN;omega
  ·have h1:=h'.2.2 q z
   have h2:=h.2.1
   rcases Nat.lt_trichotomy q p with w|w|w
   ·have:=z.2.2 p w hlt;have:=h.1 p' hlt hN;omega
   ·rw[w]at h1;omega
   ·have:=h.1 q w (by have:=z.1;omega);omega
 rcases Nat.lt_trichotomy p p' with w|w|w
 ·exact(key w hp' h h').elim
 ·exact w
 ·exact(key w hp h' h).elim
noncomputable def ChA (f:Nat->Int) (N p:Nat):Prop:=ZbN (λi=>f (i+1)) p/\f 0<=f (p+1)/\∀r,Zao (λi=>f (i+1)) N p r->f (r+1)<f 0
noncomputable def up1 (e:Int):Int:=if e<0 then e else e+1
theorem ChA.unique {f:Nat->Int}{N p p':Nat} (hp:p<N) (hp':p'<N) (h:ChA f N p) (h':ChA f N p'):p=p':=by
 have key:∀{p p':Nat},p<p'->p'<N->ChA f N p->ChA f N p'->False:=λ{p p'} hlt hN h h'=>by
  rcases ZtC (λi=>f (i+1)) N p with z|⟨r,z⟩
  ·have:=z p' hlt hN;have:=h'.1 p hlt;dsimp only at *;omega
  ·have h1:=h.2.2 r z
   have h2:=h'.2.1
   rcases Nat.lt_trichotomy r p' with w|w|w
   ·have:=h'.1 r w;dsimp only at *;omega
   ·rw[w]at h1;omega
   ·have:=z.2.2.2 p' hlt w;have:=h'.1 p hlt;dsimp only at *;omega
 rcases Nat.lt_trichotomy p p' with w|w|w
 ·exact(key w hp' h h').elim
 ·exact w
 ·exact(key w hp h' h).elim
section
variable {prog:Program}{w:World}{A:Around}{E:Value->Shared->Prop}{s:Shared}{z TI TO i1 i2 l1 l2:Addr}{k1 k2:Nat}{xs ys:Array Value}{a b:Value}
noncomputable def ZrL (h:Heap) (z TI TO:Addr):Prop:=∃f0 f1:Value,(f0=.none\/∃T:Nat,f0=rawInt T)/\h.get? z=some {cls:=.type "zip",dict:=none,data:=.fields #[f0,f1,.bool false,.ref TI,.ref TO],slots:=#[]}
theorem ZrL.type (hz:ZrL s.heap z TI TO):s.TypeIs (.ref z) "zip":=by obtain⟨f0,f1,_,e⟩:=hz;exact⟨_,e,rfl⟩
end
section
variable {X:Cx}
theorem pe_bmK {K:Frag}{T:String}{id:String}{name:Str}{r:V->List V->Hp->VK->Prop}{o e:Expr}{es:List Expr}{to:TE}{t:TA}{apos cpos:Pos} (hK:X.K=K) (pa:PlainAttrs T) (slot:Slot T name id) (hty:typeOf (.builtin id)=pure (.type "method_descriptor")) (hm:MtM X id r) (ho:PE X o to) (ha:PA X (e::es) t)
  (hbase:attributeBase o name X.env (eval o X.env)=eval o X.env:=by rfl)
  (hfew:((backTo cpos (starEach (e::es) X.env)).all (λx=>!x.1)&&(backToKw cpos (keywordEach [] X.env)).all (λx=>x.1.isSome)
   && decide ((e::es).length+([]:List Keyword).length+(if ([]:List Keyword).isEmpty then 0 else 1)<30))=true:=by rfl)
  (hline:(apos.endLine==cpos.line)=true:=by rfl) (hs:starEach (e::es) X.env=(false,eval e X.env)::starEach es X.env:=by rfl) (hplain:(backTo cpos (starEach es X.env)).any (·.1)=false:=by rfl) :
  PE X (.Call (.Attribute o name apos) (e::es) [] cpos) (tBM K T r to t):=by
 subst hK
 exact ZeR pa slot hty hm ho ha hbase hfew hline hs hplain
end
end L2
namespace L2
open PySem PySem.Spec PyProof.Rows PySem.W PySem.Calls
noncomputable def ZrM (h:Heap) (d:Addr) (vs:List Value) (ep:Nat):Prop:=∃(o:Obj) (es:Array DictEntry),h.get? d=some o/\o.cls=.type "dict"/\o.data=.dict es ep/\es.toList.map (·.val)=vs
theorem ZrM.lt {h:Heap}{d:Addr}{vs:List Value}{ep:Nat} (x:ZrM h d vs ep):d<h.objs.size:=let ⟨_,_,a,_⟩:=x;Heap.lt_size a
end L2
namespace L2
open PySem PySem.Spec PyProof.Rows PySem.W
noncomputable def ZpB (K:Frag) (f:Addr):Option Addr:=match K.lookup f with
 |some ⟨_,_,.func fd,_⟩=>(match fd.code with|.ref c=>some c|_=>none)
 |_=>none
noncomputable def tabOf (K:Frag) (c:Addr):Addr:=match K.lookup c with
 |some ⟨_,_,.fields vs,_⟩=>(match (vs[11]?:Option Value)with|some (.ref P)=>P|_=>0)
 |_=>0
noncomputable def Zgi (K:Frag) (mg:Str->Option Value) (x:Str):Addr:=match mg x with
 |some (.ref f)=>(match ZpB K f with|some c=>tabOf K c|none=>0)
 |_=>0
noncomputable def ZiZ (q:Str):HO:=.tbl #[.str q 0]
noncomputable def BM (mg:Str->Option Value) (base:Heap):Prop :=
 ∃bm o,mg "__builtins__"=some (.ref bm)/\bm≠builtinsNs/\bm≠mainGlobals/\base.get? bm=some o/\o.cls=.type "module"/\o.dict=some builtinsNs/\o.data=.plain
noncomputable def Zll (env:Env) (P:Addr) (q:Str) (params:Arguments) (body:Expr) (scope:Scope) (H:Hp) (f:Addr):Prop :=
 ∃c oc vs t cl pm ctv,H f=some (.frz (kla_obj "<lambda>" q params body scope cl pm c ctv) (.own f))/\H c=some (.frz oc (.own P))/\oc.data=.fields vs/\vs[1]?=some (.str q t) /\
  (∀x c,cl.lookup x=some c->env.cells.lookup x=some c)/\(∀y∈scope.names,y.2=.free->∃c,cl.lookup y.1=some c/\env.cells.lookup y.1=some c)
theorem Zll.same {env:Env}{P:Addr}{q:Str}{params:Arguments}{body:Expr}{scope:Scope}{H H':Hp}{f:Addr} (h:Zll env P q params body scope H f) (s:Zh H H'):Zll env P q params body scope H' f:=by
 obtain⟨c,oc,vs,t,cl,pm,ctv,e1,e2,r⟩:=h
 exact⟨c,oc,vs,t,cl,pm,ctv,s _ _ e1,s _ _ e2,r⟩
structure LamIn (X:Cx) (P:Addr) (q:Str):Prop where
 code:∃c,X.env.code=.ref c/\codeHdIn X.K c P=true
 bm:BM X.mg X.base
 ql:X.env.qual++"<lambda>"=q
theorem ZnI {pos:Pos}{a b:Int}{c cv:Value}:∀(l:List Value),TriplesOk l->codeAmong pos (l++[rawInt a,rawInt b,c])=some cv->codeAmong pos l=some cv\/cv=c:=by
 intro l h e
 fun_induction TriplesOk l with
 |case1 =>
  simp only[List.nil_append,codeAmong,rawInt]at e
  split at e
  ·cases e;exact .inr rfl
  ·cases e
 |case2 a' t b' u x rest ih =>
  simp only[List.cons_append,codeAmong]at e⊢
  split at e
  ·rename_i hc;rw[if_pos hc];exact .inl e
  ·rename_i hc;rw[if_neg hc];exact ih h e
 |case3 l h1 h2=>exact h.elim
section
variable {X:Cx}
theorem Inv.lam {pins:List (Addr×Obj)}{σ:St}{H:Hp}{s:Shared}{h':Heap}{t':Nat}{P c f:Addr}{q:Str}{oc fo:Obj}{ts:Array Value}{vs:Array Value}{tq:Tok}
  (I:Inv X pins σ H s) (hP:H P=some (ZiZ q)) (k:∀b o,b≠P->s.heap.get? b=some o->h'.get? b=some o) (hts:h'.get? P=some (tabObj ts)) (h3:TriplesOk ts.toList)
  (hc:H c=some (.frz oc (.own P))\/s.heap.objs.size<=c) (hcP:c≠P) (hoc:h'.get? c=some oc) (hd:oc.data=.fields vs) (hv:vs[1]?=some (.str q tq)) (hf:s.heap.objs.size<=f) (hfc:f≠c) (hfo:h'.get? f=some fo)
  (hcodes:∀pos cv,codeAmong pos ts.toList=some cv->cv=.ref c\/∃c2 oc vs t t',cv=.ref c2/\H c2=some (.frz oc (.own P))/\oc.data=.fields vs/\vs[1]?=some (.str q t)/\t'=(0:Tok)) :
  Inv X pins σ (upd (upd H c (.frz oc (.own P))) f (.frz fo (.own f))) {s with heap:=h',toks:=t'}:=by
 have hPlt:P<s.heap.objs.size:=I.hok.lt hP
 have hfP:f≠P:=λz=>by rw[z]at hf;exact absurd (Nat.lt_of_lt_of_le hPlt hf) (Nat.lt_irrefl _)
 have hfn:H f=none:=I.hok.fresh hf
 have up:∀b o,H b=some o->upd (upd H c (.frz oc (.own P))) f (.frz fo (.own f)) b=some o:=λb o e=>by
  have nf:b≠f:=Zx e hfn
  rw[Zj nf]
  rcases hc with hc|hc
  ·by_cases z:b=c
   ·subst z;rw[Zd,<-e,hc]
   ·rw[Zj z];exact e
  ·rw[Zj (Zx e (I.hok.fresh hc))];exact e
 have un:Un X.fs [] H (upd (upd H c (.frz oc (.own P))) f (.frz fo (.own f))) s.heap h':=by
  have nP:∀b,H b=none->b≠P:=λb n z=>by rw[z,hP]at n;cases n
  refine⟨λb o e n _ _=>k b o (nP b n) e,λb o e n _ _=>⟨o.slots,k b o (nP b n) e⟩,λb o e n _=>?_,λb o e _=>?_,λb xs e=>up _ _ e,λb o u e=>up _ _ e,λb ps e=>⟨#[],by rw[up _ _ e];simp⟩⟩
  ·have lt:=Heap.lt_size e
   have nf:b≠f:=λz=>by rw[z]at lt;exact absurd (Nat.lt_of_lt_of_le lt hf) (Nat.lt_irrefl _)
   have nc:b≠c:=λz=>by
    rcases hc with hc|hc
    ·rw[z,hc]at n;cases n
    ·rw[z]at lt;exact absurd (Nat.lt_of_lt_of_le lt hc) (Nat.lt_irrefl _)
   rw[Zj nf,Zj nc];exact n
  ·by_cases z:b=P
   ·subst z;exact⟨_,hts⟩
   ·exact⟨o,k b o z e⟩
 refine I.un un λb o e=>?_
 by_cases zf:b=f
 ·subst zf
  rw[Zd]at e;cases e
  exact⟨hfo,_,hfo⟩
 rw[Zj zf]at e
 by_cases zc:b=c
 ·subst zc
  rw[Zd]at e;cases e
  exact⟨hoc,_,hoc⟩
 rw[Zj zc]at e
 by_cases zP:b=P
 ·subst zP
  rw[hP]at e;cases e
  refine⟨ts,hts,h3,λpos cv hcv=>?_⟩
  rcases hcodes pos cv hcv with rfl|⟨c2,oc2,vs2,t2,t2',e1,e2,e3,e4,_⟩
  ·exact⟨c,oc,vs,q,0,tq,rfl,by rw[Zj (Ne.symm hfc),Zd],hd,rfl,hv⟩
  ·exact⟨c2,oc2,vs2,q,0,t2,e1,up _ _ e2,e3,rfl,e4⟩
 ·refine(I.hok b o e).Zih (λb2 u hb z=>k b2 u ?_ z) (λb2 z=>up _ _ z) (λb2 xs z=>up _ _ z) λb2 o2 u2 z=>up _ _ z
  rcases hb with rfl|hb
  ·exact zP
  ·intro z;rw[z,hP]at hb;cases hb
noncomputable def tLam (env:Env) (P:Addr) (q:Str) (params:Arguments) (body:Expr) (scope:Scope):TE:=λ_ H Q=>H P=some (ZiZ q)/\∀f H',H f=none->Zh H H'->Zll env P q params body scope H' f->Q (.ref f) H'
theorem ZnJ {P:Addr}{q:Str}{params:Arguments}{body:Expr}{scope:Scope}{pos:Pos} (L:LamIn X P q) (hok:compOk X.env.scope scope=true) (hdef:defaultsOf params X.env=([],[]):=by rfl) :
  PE X (.Lambda params body scope pos) (tLam X.env P q params body scope):=by
 intro pins s σ H Q I h
 obtain⟨hP,h⟩:=h
 obtain⟨c0,hc0,hcd⟩:=L.code
 have C:CodeHd s.heap c0 P:=codeHd_of_K I.kIn hcd
 obtain⟨bm,ob,b1,b2,b3,b4,b5,b6,b7⟩:=L.bm
 have hbm:=I.bs bm ob b4
 have bP:bm≠P:=λz=>by rw[z,hP]at hbm;cases hbm.2
 have gP:mainGlobals≠P:=λz=>by
  obtain⟨o,es,ep,e,_⟩:=I.ok.mod.glob
  have:=(I.bs _ _ e).2
  rw[z,hP]at this;cases this
 have hg:s.heap.Ns mainGlobals X.mg:=I.ok.mod.glob.keeps I.bk
 have hb:s.heap.BuiltinsAt X.mg P:=⟨bm,ob,b1,b2,b3,bP,hbm.1,b5,b6,b7⟩
 obtain⟨ts,hts,h3,hco⟩:=I.hok P _ hP
 obtain⟨cl,hcl,up,hfr⟩:=ZiG (env:=X.env) (scope:=scope) λy hy hf=>I.ok.has y.1 ((Zdg hok y hy hf).elim (λz=>.inl z) λz=>.inr z)
 have hco':∀pos cv,codeAmong pos ts.toList=some cv->∃c2 oc vs t t',cv=.ref c2/\H c2=some (.frz oc (.own P))/\oc.data=.fields vs/\vs[1]?=some (.str q t)/\t'=(0:Tok):=λpos cv e=>by
  obtain⟨c,oc,vs,q',t,t',e1,e2,e3,e4,e5⟩:=hco pos cv e
  have e4':some (Value.str q (0:Tok))=some (Value.str q' t):=e4
  cases e4'
  exact⟨c,oc,vs,t',0,e1,e2,e3,e5,rfl⟩
 refine kla_eval hdef ?_
 rw[L.ql]
 cases hca:codeAmong pos ts.toList with
 |some cv =>
  obtain⟨c,oc,vs,tq,t',rfl,e2,e3,e4,_⟩:=hco' pos cv hca
  refine kla_makeFunctionHit (mg:=X.mg) hcl I.ok.glob hg hc0 C hts h3 hca hb λctv h' tk hk hsz=>?_
  have hoc:s.heap.get? c=some oc:=(I.hok c _ e2).1
  have hcP:c≠P:=λz=>by rw[z,hP]at e2;cases e2
  have lt:=Heap.lt_size hoc
  have kk:∀b o,s.heap.get? b=some o->(h'.push {cls:=.type "function",data:=.func (kla_fn "<lambda>" q params body scope cl ((X.mg "__name__").getD .none) (.ref c) ctv)}).get? b=some o:=λb o e=>Heap.get?_push_of_some _ (hk b o e)
  have J:=I.lam (t':=tk) (f:=h'.objs.size) hP (λb o _ e=>kk b o e) (kk _ _ hts) h3 (.inl e2) hcP (kk _ _ hoc) e3 e4 hsz (λz=>by rw[<-z]at lt;exact absurd (Nat.lt_of_lt_of_le lt hsz) (Nat.lt_irrefl _)) (Heap.get?_push_size _ rfl) λp2 cv2 z=>.inr (hco' p2 cv2 z)
  have hfn:H h'.objs.size=none:=I.hok.fresh hsz
  have ne:c≠h'.objs.size:=Nat.ne_of_lt (Nat.lt_of_lt_of_le lt hsz)
  refine⟨.ref h'.objs.size,_,J,rfl,h _ _ hfn (λb o e=>?_) ⟨c,oc,vs,tq,cl,_,ctv,Zd,by rw[Zj ne,Zd],e3,e4,up,hfr⟩⟩
  rw[Zj (Zx e hfn)]
  by_cases z:b=c
  ·subst z;rw[Zd,<-e,e2]
  ·rw[Zj z];exact e
 |none =>
  refine kla_makeFunction (mg:=X.mg) hcl I.ok.glob hg hc0 C hts h3 hca gP hb λc ctv h' tk hx hge hlt hrec htb=>?_
  obtain⟨c2,oc,vs,tq,e2,hoc,e3,e4⟩:=hrec
  cases e2
  have hsz:s.heap.objs.size<=h'.objs.size:=Nat.le_trans hge (Nat.le_of_lt hlt)
  have kk:∀b o,h'.get? b=some o->(h'.push (kla_obj "<lambda>" q params body scope cl ((X.mg "__name__").getD .none) c ctv)).get? b=some o:=λb o e=>Heap.get?_push_of_some _ e
  have hPlt:P<s.heap.objs.size:=I.hok.lt hP
  have hcP:c≠P:=λz=>by rw[z]at hge;exact absurd (Nat.lt_of_lt_of_le hPlt hge) (Nat.lt_irrefl _)
  have tl:(ts++#[rawInt pos.line,rawInt pos.col,Value.ref c]).toList=ts.toList++[rawInt pos.line,rawInt pos.col,Value.ref c]:=by simp
  have J:=I.lam (t':=tk) (f:=h'.objs.size) (ts:=ts++#[rawInt pos.line,rawInt pos.col,.ref c]) hP (λb o nb e=>kk b o (hx b o nb e)) (kk _ _ htb) (by rw[tl];exact TriplesOk_snoc _ _ _ _ h3) (.inr hge) hcP (kk _ _ hoc) e3 e4 hsz (Nat.ne_of_gt hlt) (Heap.get?_push_size _ rfl) λp2 cv2 z=>by
   rw[tl]at z
   rcases ZnI ts.toList h3 z with y|y
   ·exact .inr (hco' p2 cv2 y)
   ·exact .inl y
  have hfn:H h'.objs.size=none:=I.hok.fresh hsz
  have hcn:H c=none:=I.hok.fresh hge
  refine⟨.ref h'.objs.size,_,J,rfl,h _ _ hfn (λb o e=>?_) ⟨c,oc,vs,tq,cl,_,ctv,Zd,by rw[Zj (Nat.ne_of_lt hlt),Zd],e3,e4,up,hfr⟩⟩
  rw[Zj (Zx e hfn),Zj (Zx e hcn)];exact e
end
noncomputable def Zi0 (X:Cx) (A':Around) (Nc:List Str) (q:Str) (scope:Scope) (cl:List (Str×Addr)) (L f c:Addr) (s:Shared) (H:Hp):Cx where
 prog:=X.prog
 w:=X.w
 K:=X.K
 mg:=X.mg
 base:=X.base
 A:=A'.deeper (envX q scope L f (.ref c) cl)
 N:=Nc
 s₀:=s
 H₀:=H
 env:=envX q scope L f (.ref c) cl
 outer:=X.stack
 stack:=envX q scope L f (.ref c) cl::X.stack
 ex:=[]
 fn:=λ_=>false
 calm:=X.calm
 pn:=[]
 xe:=λ_ _=>False
section
variable {X:Cx}
theorem ZpC {pins:List (Addr×Obj)}{σ:St}{H:Hp}{s:Shared}{A':Around}{Nc:List Str}{js:List (Option Nat)}{q pn:Str}{scope:Scope}{cl:List (Str×Addr)}{h1:Heap}{tk:Nat}{f c:Addr}{v:V}{u:Value}
  (I:Inv X pins σ H s) (hA:A'.frames=some X.stack) (hh:X.calm=true->A'.handled=none) (hok:compOk X.env.scope scope=true) (htk:takesC X.N Nc scope js 0=true) (hp0:Nc[0]?=some pn) (hj0:js[0]?=some none) (hpl:scope.names.lookup pn=some .local)
  (up:∀x c,cl.lookup x=some c->X.env.cells.lookup x=some c) (hfr:∀y∈scope.names,y.2=.free->∃c,cl.lookup y.1=some c/\X.env.cells.lookup y.1=some c)
  (r:RelV v u) (old:∀b o,s.heap.get? b=some o->h1.get? b=some o) (hns:h1.Ns s.heap.objs.size λy=>[(pn,u)].reverse.lookup y) :
  Inv (Zi0 X A' Nc q scope cl s.heap.objs.size f c s H) [] ((ZW js σ).set 0 (some v)) H {s with heap:=h1,toks:=tk}:=by
 have noA:∀b:Addr,b∉(Zi0 X A' Nc q scope cl s.heap.objs.size f c s H).ex:=λb z=>absurd (show b∈([]:List Addr)from z) (by simp)
 have kf:∀x,((envX q scope s.heap.objs.size f (.ref c) cl).kindOf x=some .cell\/(envX q scope s.heap.objs.size f (.ref c) cl).kindOf x=some .free)->∃c,cl.lookup x=some c:=λx hx=>by
  rcases hx with z|z
  ·exact absurd rfl (Zdf hok _ (lookup_mem (show scope.names.lookup x=some .cell from z)))
  ·obtain⟨c,q,_⟩:=hfr _ (lookup_mem (show scope.names.lookup x=some .free from z)) rfl
   exact⟨c,q⟩
 refine⟨⟨I.ok.mod,Zde hok,rfl,rfl,Nat.le_refl _,λx y c e1 e2=>I.ok.inj x y c (up _ _ e1) (up _ _ e2),λx hx=>kf x hx,(λx c e=>nomatch e),hh,Around.frames_deeper hA,.inr ⟨rfl,rfl⟩,λb z=>absurd z (noA b),I.bs,Nat.le_trans I.ok.bsz I.sz,λb _ _=>noA b,λb z=>absurd z (noA b),I.stack,I.ZgC⟩,
  rfl,I.bare,Un.kept old,⟨_,hns,λi x v' e1 e2 e3=>?_⟩,λx c e=>?_,I.hok.fresh (Nat.le_refl _),λx c e=>I.freeC x c (up _ _ e),λp hp=>absurd (show p∈([]:List (Addr×Obj))from hp) (by simp),I.hok.kept old,?_⟩
 ·by_cases hi:i=0
  ·subst hi
   have ex:x=pn:=Option.some.inj ((show Nc[0]?=some x from e1).symm.trans hp0)
   subst ex
   have hl:0<(ZW js σ).length:=by
    unfold ZW
    rw[List.length_map]
    exact(List.getElem?_eq_some_iff.mp hj0).1
   rw[List.getElem?_set_self hl]at e2
   cases e2
   exact⟨u,r,.inl ⟨hpl,by simp⟩⟩
  ·rw[List.getElem?_set_ne (Ne.symm hi)]at e2
   have e2':(ZW js σ)[i]?=some (some v'):=e2
   unfold ZW at e2'
   rw[List.getElem?_map]at e2'
   cases hq:js[i]? with
   |none=>rw[hq]at e2';cases e2'
   |some j0 =>
    cases j0 with
    |none=>rw[hq]at e2';cases e2'
    |some j =>
     rw[hq]at e2'
     simp only[Option.map_some,Option.some.injEq]at e2'
     have e4:σ[j]?=some (some v'):=by
      cases z:σ[j]? with
      |none=>rw[z]at e2';cases e2'
      |some o=>rw[z]at e2';simp only[Option.join_some]at e2';rw[e2']
     obtain⟨y,y1,y2,y3⟩:=ZdP htk hq
     rw[Nat.zero_add]at y1
     have:x=y:=Option.some.inj ((show Nc[i]?=some x from e1).symm.trans y1)
     subst this
     have hm:=lookup_mem y3
     obtain⟨c1,h1',h2'⟩:=hfr _ hm rfl
     have hk:=Zdg hok _ hm rfl
     obtain⟨m0,hn0,hl0⟩:=I.loc
     obtain⟨u',r',l⟩:=hl0 j x v' y2 e4 (hk.elim (λz=>.inr (.inl z)) λz=>.inr (.inr z))
     refine⟨u',r',.inr ⟨.inr y3,c1,h1',?_⟩⟩
     rcases l with⟨lk,_⟩|⟨_,c',c3,c4⟩
     ·rcases hk with z|z
      ·rw[show X.env.kindOf x=some .cell from z]at lk;cases lk
      ·rw[show X.env.kindOf x=some .free from z]at lk;cases lk
     ·rw[h2']at c3;cases c3
      obtain⟨oc,w1,w2⟩:=c4
      exact⟨oc,old _ _ w1,w2⟩
 ·obtain⟨v,oc,w1,w2⟩:=I.cell x c (up _ _ e)
  exact⟨v,oc,old _ _ w1,w2⟩
 ·show((ZW js σ).set 0 (some v)).length=Nc.length
  unfold ZW
  have:=ZcQ htk
  rw[List.length_set,List.length_map]
  omega
structure LamSc (X:Cx) (Nc:List Str) (js:List (Option Nat)) (params:Arguments) (body:Expr) (scope:Scope) (pn:Str):Prop where
 ok:compOk X.env.scope scope=true
 tk:takesC X.N Nc scope js 0=true
 p0:Nc[0]?=some pn
 j0:js[0]?=some none
 pl:scope.names.lookup pn=some .local
 co:scope.isCoroutine=false
 gen:scope.isGenerator=false
 bd:∀(q:Str) (cl:List (Str×Addr)) (pm cd ctv u:Value),bindArgs (kla_fn "<lambda>" q params body scope cl pm cd ctv) ⟨[u],[]⟩=pure [(pn,u)]
theorem Zml {pins:List (Addr×Obj)}{σ:St}{H:Hp}{s:Shared}{A':Around}{Nc:List Str}{js:List (Option Nat)}{q pn:Str}{params:Arguments}{body:Expr}{scope:Scope}{P f:Addr}{v:V}{u:Value}{tb:TE}{Q:VK}{E:Value->Shared->Prop}
  (S:LamSc X Nc js params body scope pn) (hbody:∀cl L f c s H,PE (Zi0 X A' Nc q scope cl L f c s H) body tb) (I:Inv X pins σ H s) (hA:A'.frames=some X.stack) (hh:X.calm=true->A'.handled=none) (hroom:A'.depth<recursionLimit) (L:Zll X.env P q params body scope H f)
  (r:RelV v u) (h:tb ((ZW js σ).set 0 (some v)) H Q):wpAny (model X.prog X.w) A' (call (.ref f) [u]) (EP X pins σ Q) E s:=by
 obtain⟨c,oc,vs,t,cl,pm,ctv,e1,e2,e3,e4,up,hfr⟩:=L
 have hfo:=(I.hok f _ e1).1
 have hoc:=(I.hok c _ e2).1
 refine wpAny_call (codeAny_mono (R:=λr s'=>∃u',r=.ok (.ret u')/\EP X pins σ Q u' s') (kla_callFunE hroom hfo rfl S.co S.gen rfl ⟨c,oc,vs,t,rfl,hoc,e3,e4⟩ ?_) λr s' ⟨u',hr,z⟩=>by subst hr;exact z)
 show wpAny _ _ (bindArgs (kla_fn "<lambda>" q params body scope cl pm (.ref c) ctv) ⟨[u],[]⟩) _ _ _
 rw[S.bd]
 refine wpAny_pure (wpAny_newFunctionEnv (λx hx=>Zdf S.ok x hx) (λx hx=>?_) (λh₁ hns hsb=>⟨I.nolimit.fresh _ hsb,?_⟩) (Zde S.ok))
 ·have:x=(pn,u):=by simpa using hx
  subst this;exact S.pl
 show codeAny _ _ (.expr body (envX q scope s.heap.objs.size f (.ref c) cl)) _ _
 have old:∀b o,s.heap.get? b=some o->h₁.get? b=some o:=λb o e=>hsb.extBut b o (Nat.ne_of_lt (Heap.lt_size e)) (Heap.get?_push_of_some _ e)
 have J:=ZpC (q:=q) (f:=f) (c:=c) (tk:=s.toks+[(pn,u)].length) I hA hh S.ok S.tk S.p0 S.j0 S.pl up hfr r old hns
 refine kla_codeExpr (wpAny_mono (hbody cl _ f c s H [] _ _ H Q J h) (λv' s' ⟨x,H',J',r',q'⟩=>⟨v',rfl,x,H',?_,r',q'⟩) λ_ _ z=>z.elim)
 exact I.Zq4 (ch:=[]) J'.os J'.base J'.hok J'.bare λb z=>absurd z (by simp)
end
section
variable {prog:Program}{w:World}{A:Around}{E:Value->Shared->Prop}{s:Shared}
noncomputable def ZrN (b:Bool) (st:SortSt):Array Value:=if b then ((arrOf st).map (·.2)).reverse else (arrOf st).map (·.2)
noncomputable def ZnK (h:Heap) (kS a:Addr) (out:Array Value):Heap:=(h.update kS (Obj.mapSeq λ_=>(#[]:Array Value))).update a (Obj.mapSeq λ_=>out)
theorem ZtD {a kS:Addr}{b:Bool}{e e1:Nat}{keys:Array Value}{st:SortSt}{R:PySem.Fin->Shared->Prop} (ok:s.heap.get? kS=some (seqObj "list" keys e)) (oa:s.heap.get? a=some (seqObj "list" #[] e1)) (ne:a≠kS) (z1:keys.size<=1000) (z2:(arrOf st).size<=1000) (hf:failedOf st=none)
  (h:R (.done (.ret .none)) {s with heap:=ZnK s.heap kS a (ZrN b st)}):wpAny (model prog w) A (ksk_tail a b e1 (.ref kS) st) R E s:=by
 have oa1:(s.heap.update kS (Obj.mapSeq λ_=>(#[]:Array Value))).get? a=some (seqObj "list" #[] e1):=(Heap.get?_update_ne _ _ _ _ ne).trans oa
 have zo:(ZrN b st).size<=sizeLine+1:=by
  unfold ZrN
  cases b
  ·rw[if_neg Bool.false_ne_true,Array.size_map];exact Nat.le_succ_of_le (Nat.le_trans z2 (by decide))
  ·rw[if_pos rfl,Array.size_reverse,Array.size_map];exact Nat.le_succ_of_le (Nat.le_trans z2 (by decide))
 unfold ksk_tail
 dsimp only
 refine wpAny_bind (listUpdate_at ok rfl (wpAny_bind (wpAny_letGo (wpAny_bind (seqEpoch_at oa1 rfl (wpAny_bind (listUpdate_at oa1 rfl ?_ (Nat.zero_le _) zo)))))) (Nat.le_trans z1 (by decide)) (Nat.zero_le _))
 rw[hf]
 simp only[bne_self_eq_false,Bool.false_eq_true,if_false]
 exact wpAny_pure h
theorem sk_end {a kS:Addr}{b:Bool}{e e1:Nat}{keys:Array Value}{vs:List Value}{kz:List Int}{R:PySem.Fin->Shared->Prop} (ok:s.heap.get? kS=some (seqObj "list" keys e)) (oa:s.heap.get? a=some (seqObj "list" #[] e1)) (ne:a≠kS) (hk:IntsAre keys.toList kz) (hl:kz.length=vs.length) (h64:vs.length<64)
  (h:∀out:Array Value,KskOut b kz vs out.toList->R (.done (.ret .none)) {s with heap:=ZnK s.heap kS a out}):wpAny (model prog w) A (ksk_end a b vs.toArray e1 (.ref kS) keys) R E s:=by
 have hz:keys.size=vs.length:=by
  have q:=hk.length
  rw[Array.length_toList]at q;omega
 have hzz:(keys.zip vs.toArray).size=vs.length:=by rw[Array.size_zip,hz,List.size_toArray,Nat.min_self]
 have go:∀t:Sem PySem.Fin,wpAny (model prog w) A t R E s->wpAny (model prog w) A (if b=true then (rule "list.sort.reverse" >>= λ_=>t)else t) R E s:=λt ht=>by
  cases b
  ·exact ht
  ·exact wpAny_bind (wpAny_rule ht)
 have hst:(if b=true then (keys.zip vs.toArray).reverse else keys.zip vs.toArray).Perm (keys.zip vs.toArray):=by
  cases b
  ·exact .refl _
  ·exact Array.perm_iff_toList_perm.mpr (by rw[if_pos rfl,Array.toList_reverse];exact List.reverse_perm _)
 have done:∀st:SortSt,(arrOf st).Perm (keys.zip vs.toArray)->failedOf st=none->SortedTo (arrOf st) (arrOf st).size->wpAny (model prog w) A (ksk_tail a b e1 (.ref kS) st) R E s:=λst q1 q2 q3 =>
  ZtD ok oa ne (by omega) (by rw[q1.size_eq,hzz];omega) q2 (h _ (ksk_out hk q1 q3))
 unfold ksk_end
 refine go _ ?_
 by_cases h2:vs.length<2
 ·have h2':vs.toArray.size<2:=by rw[List.size_toArray];exact h2
  rw[if_pos h2',if_pos h2']
  refine wpAny_bind (wpAny_pure ?_)
  dsimp only
  rw[StateT.run_pure]
  refine wpAny_bind (wpAny_pure (done (SortSt.mk' general' (if b=true then (keys.zip vs.toArray).reverse else keys.zip vs.toArray) #[] 7 none) hst rfl λi j hij hj=>?_))
  have hj':j<(if b=true then (keys.zip vs.toArray).reverse else keys.zip vs.toArray).size:=hj
  rw[hst.size_eq,hzz]at hj'
  rw[show i=j by omega]
  exact Int.le_refl _
 ·have h2':¬ vs.toArray.size<2:=by rw[List.size_toArray];exact h2
  rw[if_neg h2',if_neg h2',ksk_kind hk (by omega)]
  refine wpAny_bind (wpAny_pure (wpAny_bind (wpAny_mono (wpS_sortRuns (a₀:=keys.zip vs.toArray) (st:=SortSt.mk' oneType' (if b=true then (keys.zip vs.toArray).reverse else keys.zip vs.toArray) #[] 7 none)
   (Q:=λ_ st=>(arrOf st).Perm (keys.zip vs.toArray)/\failedOf st=none/\SortedTo (arrOf st) (keys.zip vs.toArray).size) (ksk_intKeys hk) ⟨hst,rfl,rfl,rfl⟩ (by omega) (by omega) λst q1 q2 q3=>⟨q1,q2,q3⟩) ?_ λ_ _ z=>z)))
  rintro⟨⟨⟩,st⟩ s' ⟨rfl,q1,q2,q3⟩
  exact done st q1 q2 (by rw[q1.size_eq];exact q3)
end
section
variable {X:Cx}
theorem Inv.track {pins:List (Addr×Obj)}{σ:St}{H:Hp}{s:Shared}{a:Addr}{o:HO} (I:Inv X pins σ H s) (hn:H a=none) (hL:a≠X.env.locals) (h1:a∈X.ex\/X.s₀.heap.objs.size<=a) (h2:∀x c,X.env.cells.lookup x=some c->c≠a) (h3:∀p∈X.pn++pins,p.1≠a)
  (new:Zau X.prog X.w (upd H a o) s.heap a o):Inv X pins σ (upd H a o) s:=by
 have up:∀b u,H b=some u->upd H a o b=some u:=λb u e=>by rw[Zj (Zx e hn)];exact e
 have J:=I.step (g':=s.gens) (d':=s.drawn) (t':=s.toks) (h':=s.heap) (H':=upd H a o) (ch:=[a]) (λb hb=>?_) (λb o _ _ _ e _=>e) (λb o _ _ _ e _=>⟨o.slots,e⟩) (λb o hb e n=>?_) (λb o _ e=>⟨o,e⟩) (λb xs e=>up _ _ e) (λb o u e=>up _ _ e) (λb ps e=>⟨#[],by rw[up _ _ e];simp⟩) (λm hm=>hm) (λb u e=>?_) I.bare
 ·exact J
 ·have e:b=a:=by simpa using hb
  subst e
  exact⟨h1,hL,h2,h3⟩
 ·rw[Zj (λz=>hb (by simp[z]))];exact n
 ·by_cases z:b=a
  ·subst z;rw[Zd]at e;cases e;exact new
  ·rw[Zj z]at e
   exact(I.hok b u e).Zih (λc v _ q=>q) (λc q=>up _ _ q) (λc xs q=>up _ _ q) λc o' u' q=>up _ _ q
theorem ZtE {pins:List (Addr×Obj)}{σ:St}{H:Hp}{s:Shared}{A':Around}{E:Value->Shared->Prop}{f:Value}{b:Bool}{a kS:Addr}{e1:Nat}{vs:List Value}{ns:List Int}{kz:Int->Int}{R:PySem.Fin->Shared->Prop}
  (I:Inv X ((kS,seqObj "list" #[] 0)::(a,seqObj "list" #[] e1)::pins) σ H s) (hk0:X.s₀.heap.objs.size<=kS) (ha0:X.s₀.heap.objs.size<=a) (ne:a≠kS) (hp:∀p∈X.pn++pins,p.1≠kS/\p.1≠a) (hv:IntsAre vs ns) (h64:vs.length<64)
  (turn:∀(H':Hp) (s':Shared) (pins':List (Addr×Obj)) (n:Int) (u:Value),n∈ns->Inv X pins' σ H' s'->Zh H H'->RelV (.int n) u->wpAny (model X.prog X.w) A' (call f [u]) (EP X pins' σ λv H2=>v=.int (kz n)/\Zh H' H2) (λ_ _=>False) s')
  (fin:∀(H':Hp) (s':Shared) (out:Array Value) (c:Nat),Inv X pins σ H' s'->Zh H H'->H' a=none->s'.heap.get? a=some (seqObj "list" out c)->KskOut b (ns.map kz) vs out.toList->R (.done (.ret .none)) s') :
  wpAny (model X.prog X.w) A' (ksk_rest a f b vs.toArray e1 (.ref kS)) R E s:=by
 have hlen:vs.length=ns.length:=hv.length
 have facts:∀{H':Hp}{s':Shared}{ps:List (Addr×Obj)}{x:Addr}{xs:Array Value}{c:Nat},Inv X ps σ H' s'->(x,seqObj "list" xs c)∈ps->s'.heap.get? x=some (seqObj "list" xs c)/\H' x=none/\x≠X.env.locals/\x∉X.fs/\∀y cc,X.env.cells.lookup y=some cc->cc≠x:=λ{H' s' ps x xs c} J hm=>by
  obtain⟨q1,q2,q3,q4,_⟩:=J.pin _ (List.mem_append_right _ hm)
  refine⟨q1,q2,q3,q4,λy cc hc z=>?_⟩
  obtain⟨v,oc,w1,w2⟩:=J.cell y cc hc
  rw[z,q1]at w1;cases w1;cases w2
 unfold ksk_rest
 refine wpAny_bind (wpAny_rule ?_)
 first
  |rw[List.forIn_toArray]
  |(rw[<-Array.forIn_toList];simp only[List.toList_toArray])
 refine wpAny_bind (ksk_fold (λi s'=>∃H' kA e,Inv X ((kS,seqObj "list" kA e)::(a,seqObj "list" #[] e1)::pins) σ H' s'/\Zh H H'/\IntsAre kA.toList ((ns.take i).map kz)) vs 0 s ⟨H,#[],0,I,Zh.refl H,by simpa using IntsAre.nil⟩ ?step ?done)
 case step =>
  rintro j x s' hx ⟨H',kA,e,J,sm,hk⟩
  simp only[Nat.zero_add]at hk⊢
  have hj:j<vs.length:=(List.getElem?_eq_some_iff.mp hx).1
  have hnj:ns[j]?=some ns[j]:=List.getElem?_eq_getElem (by omega)
  obtain⟨t,ht⟩:=hv.get j _ hnj
  rw[hx]at ht
  cases ht
  have hz:kA.size<=64:=by
   have h1:=hk.length
   rw[Array.length_toList,List.length_map,List.length_take]at h1
   omega
  refine wpAny_bind (wpAny_attempt (wpAny_mono (turn H' s' _ ns[j] _ (List.getElem_mem _) J sm ⟨t,rfl⟩) (λv s'' he=>?_) λ_ _ hF=>hF.elim))
  obtain⟨x2,H2,J2,r2,rfl,sm2⟩:=he
  obtain⟨t2,rfl⟩:=r2
  obtain⟨o1,n1,l1,_,c1⟩:=facts J2 (List.mem_cons_self ..)
  try dsimp only
  obtain⟨c2,hc2⟩:∃c2,(s''.heap.update kS (Obj.mapSeq (·.push (.int (kz ns[j]) t2)))).get? kS=some (seqObj "list" (kA.push (.int (kz ns[j]) t2)) c2):=⟨_,get?_update_seq o1 (·.push (.int (kz ns[j]) t2))⟩
  refine wpAny_bind (listUpdate_at o1 rfl ?_ (Nat.le_trans hz (by decide)) (Nat.le_trans (Nat.le_of_eq (Array.size_push ..)) (Nat.le_succ_of_le (Nat.le_trans (Nat.succ_le_succ hz) (by decide)))))
  have J3:Inv X ((a,seqObj "list" #[] e1)::pins) σ H2 s'':=J2.ZX λp hp'=>by
   obtain⟨q1,q2,q3,q4,q5⟩:=J2.pin p (List.mem_append_right _ (List.mem_cons_of_mem _ hp'))
   exact⟨q1,q2,q3,q4,q5⟩
  have J4:=J3.turned (t':=s''.toks) (h':=s''.heap.update kS (Obj.mapSeq (·.push (.int (kz ns[j]) t2)))) (it:=kS) (λb o nb e=>(Heap.get?_update_ne _ _ _ _ nb).trans e) n1 l1 (.inr hk0) c1 (λp hp'=>by
   rcases List.mem_append.mp hp' with z|z
   ·exact(hp p (List.mem_append_left _ z)).1
   ·rcases List.mem_cons.mp z with rfl|z
    ·exact ne
    ·exact(hp p (List.mem_append_right _ z)).1)
  have o1f:=(facts J2 (List.mem_cons_self ..)).2.2.2.1
  have J5:Inv X ((kS,seqObj "list" (kA.push (.int (kz ns[j]) t2)) c2)::(a,seqObj "list" #[] e1)::pins) σ H2 {s'' with heap:=s''.heap.update kS (Obj.mapSeq (·.push (.int (kz ns[j]) t2)))}:=J4.ZX λp hp'=>by
   rcases List.mem_cons.mp hp' with rfl|hp'
   ·exact⟨hc2,n1,l1,o1f,λv z=>by cases z⟩
   ·exact J4.pin p (List.mem_append_right _ hp')
  refine wpAny_pure ⟨rfl,H2,_,_,J5,sm.trans sm2,?_⟩
  have ek:(ns.take (j+1)).map kz=(ns.take j).map kz++[kz ns[j]]:=by rw[List.take_add_one,hnj,List.map_append];rfl
  have ea:(kA.push (Value.int (kz ns[j]) t2)).toList=kA.toList++[Value.int (kz ns[j]) t2]:=by simp
  rw[ea,ek];exact ksk_snoc hk
 case done =>
  rintro s' ⟨H',kA,e,J,sm,hk⟩
  have hk':IntsAre kA.toList (ns.map kz):=by
   rw[List.take_of_length_le (by omega)]at hk
   exact hk
  obtain⟨o1,n1,l1,f1,c1⟩:=facts J (List.mem_cons_self ..)
  obtain⟨o2,n2,l2,f2,c2⟩:=facts J (List.mem_cons_of_mem _ (List.mem_cons_self ..))
  refine wpAny_bind (listItems_at o1 rfl ?_)
  refine sk_end o1 o2 ne hk' (by rw[List.length_map];exact hlen.symm) h64 λout ho=>?_
  have J3:Inv X pins σ H' s':=J.ZX λp hp'=>J.pin p (List.mem_append_right _ (List.mem_cons_of_mem _ (List.mem_cons_of_mem _ hp')))
  have J4:=J3.turned (t':=s'.toks) (h':=s'.heap.update kS (Obj.mapSeq λ_=>(#[]:Array Value))) (it:=kS) (λb o nb e=>(Heap.get?_update_ne _ _ _ _ nb).trans e) n1 l1 (.inr hk0) c1 λp hp'=>(hp p hp').1
  have J5:=J4.turned (t':=s'.toks) (h':=ZnK s'.heap kS a out) (it:=a) (λb o nb e=>(Heap.get?_update_ne _ _ _ _ nb).trans e) n2 l2 (.inr ha0) c2 λp hp'=>(hp p hp').2
  have o3:(s'.heap.update kS (Obj.mapSeq λ_=>(#[]:Array Value))).get? a=some (seqObj "list" #[] e1):=(Heap.get?_update_ne _ _ _ _ ne).trans o2
  exact fin H' _ out _ J5 sm n2 (get?_update_seq o3 λ_=>out) ho
theorem ZtF {pins:List (Addr×Obj)}{σ:St}{H:Hp}{s:Shared}{A':Around}{E:Value->Shared->Prop}{f:Value}{b:Bool}{a:Addr}{e0:Nat}{vs:List Value}{ns:List Int}{kz:Int->Int}{R:PySem.Fin->Shared->Prop}
  (I:Inv X ((a,seqObj "list" vs.toArray e0)::pins) σ H s) (ha0:X.s₀.heap.objs.size<=a) (hp:∀p∈X.pn++pins,p.1≠a) (hv:IntsAre vs ns) (h64:vs.length<64)
  (turn:∀(H':Hp) (s':Shared) (pins':List (Addr×Obj)) (n:Int) (u:Value),n∈ns->Inv X pins' σ H' s'->Zh H H'->RelV (.int n) u->wpAny (model X.prog X.w) A' (call f [u]) (EP X pins' σ λv H2=>v=.int (kz n)/\Zh H' H2) (λ_ _=>False) s')
  (fin:∀(H':Hp) (s':Shared) (out:Array Value) (c:Nat),Inv X pins σ H' s'->Zh H H'->H' a=none->s'.heap.get? a=some (seqObj "list" out c)->KskOut b (ns.map kz) vs out.toList->R (.done (.ret .none)) s') :
  wpAny (model X.prog X.w) A' (ksk_tree a f b) R E s:=by
 obtain⟨oa,na,la,fa,da⟩:=I.pin _ (List.mem_append_right _ (List.mem_cons_self ..))
 have ca:∀y cc,X.env.cells.lookup y=some cc->cc≠a:=λy cc hc z=>by
  obtain⟨v,oc,w1,w2⟩:=I.cell y cc hc
  rw[z,oa]at w1;cases w1;cases w2
 have lt:=Heap.lt_size oa
 obtain⟨e1,oa1⟩:∃e1,(s.heap.update a (Obj.mapSeq λ_=>(#[]:Array Value))).get? a=some (seqObj "list" #[] e1):=⟨_,get?_update_seq oa λ_=>#[]⟩
 have I0:Inv X pins σ H s:=I.ZX λp hp'=>I.pin p (List.mem_append_right _ (List.mem_cons_of_mem _ hp'))
 have I1:=I0.turned (t':=s.toks) (h':=s.heap.update a (Obj.mapSeq λ_=>(#[]:Array Value))) (it:=a) (λb o nb e=>(Heap.get?_update_ne _ _ _ _ nb).trans e) na la (.inr ha0) ca hp
 have sz:(s.heap.update a (Obj.mapSeq λ_=>(#[]:Array Value))).objs.size=s.heap.objs.size:=Heap.size_update ..
 have I2:=I1.kept (h':=((s.heap.update a (Obj.mapSeq λ_=>(#[]:Array Value))).push (seqObj "tuple" vs.toArray 0)).push (seqObj "list" #[] 0)) (t':=s.toks) λb o e=>Heap.get?_push_of_some _ (Heap.get?_push_of_some _ e)
 have sz2:((s.heap.update a (Obj.mapSeq λ_=>(#[]:Array Value))).push (seqObj "tuple" vs.toArray 0)).objs.size=s.heap.objs.size+1:=(size_push' ..).trans (congrArg (·+1) sz)
 have hge:X.s₀.heap.objs.size<=s.heap.objs.size:=I.sz
 have hkL:X.env.locals<s.heap.objs.size:=I.lt
 have nk:H (s.heap.objs.size+1)=none:=I.hok.fresh (Nat.le_succ _)
 unfold ksk_tree
 refine wpAny_bind (listItems_at oa rfl (wpAny_bind (listUpdate_at oa rfl (wpAny_bind (seqEpoch_at oa1 rfl (wpAny_bind (wpAny_newTuple (wpAny_bind (wpAny_newList (wpAny_holding ?_) (Nat.zero_le _))) ?_)))) ?_ (Nat.zero_le _))))
 ·rw[sz2]
  refine ZtE (kS:=s.heap.objs.size+1) (e1:=e1) (I2.ZX λp hp'=>?_) (Nat.le_succ_of_le hge) ha0 (Nat.ne_of_lt (Nat.lt_succ_of_lt lt)) (λp hp'=>⟨?_,hp p hp'⟩) hv h64 turn fin
  ·rcases List.mem_cons.mp hp' with rfl|hp'
   ·exact⟨by rw[<-sz2];exact Heap.get?_push_size _ rfl,nk,Nat.ne_of_gt (Nat.lt_succ_of_lt hkL),I.Znd (Nat.le_succ _),λv z=>by cases z⟩
   ·rcases List.mem_cons.mp hp' with rfl|hp'
    ·exact⟨Heap.get?_push_of_some _ (Heap.get?_push_of_some _ oa1),na,la,fa,λv z=>by cases z⟩
    ·exact I2.pin p (List.mem_append_right _ hp')
  ·have:=Heap.lt_size (I0.pin p hp').1
   exact Nat.ne_of_lt (Nat.lt_succ_of_lt this)
 ·exact Nat.le_trans (show vs.length<=64 by omega) (by decide)
 ·rw[List.size_toArray];exact Nat.le_trans (show vs.length<=64 by omega) (by decide)
end
theorem ZrO {prog:Program}{w:World}{A:Around}{R:Result->Shared->Prop}{s:Shared}{r S:Addr}{a b c:Int}{t u v:Tok}{n c₀:Nat} (hh:A.handled=none) (hr:IsRange s.heap r a b c t u v) (hsmall:Builtin.Range.small a b c=true)
  (hn:Builtin.Range.rangeSize a b c=n) (hlen:n<=2 ^ 24) (hS:s.heap.get? S=some {cls:=.type "list",data:=.seq #[] c₀})
  (hR:∀h' tk acc' c',(∀b o,b≠S->s.heap.get? b=some o->h'.get? b=some o)->h'.get? S=some {cls:=.type "list",dict:=none,data:=.seq acc' c',slots:=#[]}->ItemsOf (λi v=>∃t,v=.int (a+i*c) t) acc' n->R (.ok (.ret (.ref S))) {s with heap:=h',toks:=tk}) :
  codeAny (model prog w) A (.builtin "list.__iadd__" ⟨[.ref S,.ref r],[]⟩) R s :=
 codeAny_builtin entry_list_iadd' (wpAny_extend_range hh hr hsmall hn hlen S (.ref S) c₀ hS hR)
theorem Zmm {prog:Program}{w:World}{A:Around}{E:Value->Shared->Prop}{s:Shared}{r:Addr}{a b c:Int}{t u v:Tok}{n:Nat}{Q:List Value->Shared->Prop} (hh:A.handled=none) (hr:IsRange s.heap r a b c t u v) (hsmall:Builtin.Range.small a b c=true)
  (hn:Builtin.Range.rangeSize a b c=n) (hlen:n<=2 ^ 24) (h:∀(h':Heap) (tk:Nat) (acc:Array Value),(∀b o,s.heap.get? b=some o->h'.get? b=some o)->ItemsOf (λi v=>∃t,v=.int (a+i*c) t) acc n->Q acc.toList {s with heap:=h',toks:=tk}) :
  wpAny (model prog w) A (collect (.ref r)) Q E s:=by
 unfold collect
 refine wpAny_bind (wpAny_runValue (codeAny_builtin entry_proto_collect' ?_))
 show wpAny _ _ (newList [] >>= λl=>again (.builtin "list.__iadd__" ⟨[l,.ref r],[]⟩)) _ _ s
 refine wpAny_bind (wpAny_newList (wpAny_pure ⟨Code.quiet_builtin _ (by decide +kernel),?_⟩))
 refine ZrO (s:={s with heap:=s.heap.push (seqObj "list" #[] 0)}) hh (Heap.get?_push_of_some _ hr) hsmall hn hlen (Heap.get?_push_size _ rfl) λh' tk acc c' hk hS hacc=>?_
 refine wpAny_bind (wpAny_load hS (wpAny_pure (h h' tk acc (λb o e=>hk b o (Nat.ne_of_lt (Heap.lt_size e)) (Heap.get?_push_of_some _ e)) hacc)))
theorem Zmn (g:Int->Int):∀vs:List Value,((vs.map numOf).map g).zip vs=vs.map λv=>(g (numOf v),v)
 |[]=>rfl
 |v::vs=>by
  simp only[List.map_cons,List.zip_cons_cons]
  rw[Zmn g vs]
theorem ZnL {b:Bool}{g:Int->Int}{vs out:List Value}{ns:List Int} (hv:IntsAre vs ns) (h:KskOut b (ns.map g) vs out):∃ns',IntsAre out ns'/\ns'.Perm ns/\ns'.Pairwise λx y=>if b then g y<=g x else g x<=g y:=by
 obtain⟨ps,hp,rfl,hs⟩:=h
 have en:ns=vs.map numOf:=hv.nums.symm
 rw[en,Zmn]at hp
 have mem:∀p∈ps,p.1=g (numOf p.2)/\p.2∈vs:=λp hp'=>by
  obtain⟨v,hv',rfl⟩:=List.mem_map.mp (hp.mem_iff.mp hp')
  exact⟨rfl,hv'⟩
 refine⟨(ps.map Prod.snd).map numOf,intsAre_map _ λv hv'=>?_,?_,?_⟩
 ·obtain⟨p,hp',rfl⟩:=List.mem_map.mp hv'
  exact hv.all _ (mem p hp').2
 ·have:=(hp.map Prod.snd).map numOf
  rw[List.map_map (l:=vs),show(Prod.snd ∘ λv=>(g (numOf v),v))=(id:Value->Value)from rfl,List.map_id]at this
  rw[en];exact this
 ·rw[List.pairwise_map,List.pairwise_map]
  refine hs.imp_of_mem λ{p q} hp' hq' hr=>?_
  rw[<-(mem p hp').1,<-(mem q hq').1]
  exact hr
noncomputable def nats (n:Int):List Int:=(List.range n.toNat).map λ(i:Nat)=>(i:Int)
section
variable {X:Cx}
theorem Zi1 {pins:List (Addr×Obj)}{σ:St}{H:Hp}{s:Shared}{kw:List (Str×Value)}{f:Value}{b:Bool}{p:Addr}{n:Int}{kz:Int->Int}{Q:VK} (I:Inv X pins σ H s) (hc:X.calm=true) (hp:H p=some (.rng 0 n)) (h0:0<=n) (h64:n<64)
  (ha1:argsOk "sorted" ⟨[.ref p],kw⟩) (ha2:∀x,argsOk "list.sort" ⟨[.ref x],kw⟩) (ht:∀x,Builtin.«list.sort» ⟨[.ref x],kw⟩=ksk_tree x f b)
  (turn:∀(H':Hp) (s':Shared) (pins':List (Addr×Obj)) (i:Int) (u:Value),0<=i->i<n->Inv X pins' σ H' s'->Zh H H'->RelV (.int i) u->wpAny (model X.prog X.w) X.A.in1.in1 (call f [u]) (EP X pins' σ λv H2=>v=.int (kz i)/\Zh H' H2) (λ_ _=>False) s')
  (fin:∀(ns:List Int) (l:Addr) (H':Hp),ns.Perm (nats n)->(ns.Pairwise λx y=>if b then kz y<=kz x else kz x<=kz y)->Zh H H'->H l=none->H' l=some (.lst (ns.map V.int))->Q (.ref l) H') :
  wpAny (model X.prog X.w) X.A (call (.builtin "sorted") [.ref p] kw) (EP X pins σ Q) X.xe s:=by
 obtain⟨t,u,v,hob⟩:=(show ∃t u v,s.heap.get? p=some {cls:=.type "range",data:=.fields #[.int 0 t,.int n u,.int 1 v]}from I.hok p _ hp)
 refine call_function_entry_kw kind_sorted plain_sorted entry_sorted ha1 ?_
 unfold Builtin.«sorted»
 refine wpAny_bind (m:=checkCount "sorted" 1 1 _) (wpAny_pure (wpAny_bind (Zmm (n:=n.toNat) (I.ok.hd hc) hob (small_one (by omega) (by omega) (by omega) (by omega)) (by rw[rangeSize_one];split<;>omega) (by omega) λh1 tk acc k1 hacc=>wpAny_bind (wpAny_newList ?_ ?_))))
 case refine_2=>rw[Array.length_toList,hacc.1];exact Nat.le_trans (show n.toNat<=1000 by omega) (by decide)
 have hia:IntsAre acc.toList (nats n):=by
  have hv:Vals ((nats n).map V.int) acc.toList:=by
   unfold nats
   rw[List.map_map]
   exact ZoH (g:=λ(i:Nat)=>V.int (i:Int)) (P:=λ(i:Nat) v=>∃t,v=.int (0+(i:Int)*1) t) (λi v h=>by obtain⟨t,e⟩:=h;exact⟨t,by rw[e];simp⟩) _ _ (by rw[Array.length_toList];exact hacc.1) λk v hk=>hacc.2 k v (by simpa using hk)
  exact intsAre_of hv
 have I1:=I.kept (t':=tk) k1
 show wpAny _ _ _ _ _ {s with heap:=h1.push (seqObj "list" acc.toList.toArray 0),toks:=tk}
 have oa:(h1.push (seqObj "list" acc.toList.toArray 0)).get? h1.objs.size=some (seqObj "list" acc.toList.toArray 0):=Heap.get?_push_size _ rfl
 have I2:=I1.kept (h':=h1.push (seqObj "list" acc.toList.toArray 0)) (t':=tk) λb o e=>Heap.get?_push_of_some _ e
 have na:H h1.objs.size=none:=I1.hok.fresh (Nat.le_refl _)
 have la:h1.objs.size≠X.env.locals:=Nat.ne_of_gt I1.lt
 have a0:X.s₀.heap.objs.size<=h1.objs.size:=I1.sz
 have hl:acc.toList.length<64:=by rw[Array.length_toList,hacc.1];omega
 refine wpAny_bind (wpAny_holding (wpAny_call_entry_kw slot_list_sort ⟨_,oa,rfl⟩ entry_list_sort ?body (ha2 _)))
 case body =>
  show wpAny (model X.prog X.w) X.A.in1.in1 (Builtin.«list.sort» ⟨[.ref h1.objs.size],kw⟩) _ _ _
  rw[ht]
  refine ZtF (e0:=0) (pins:=pins) (ns:=nats n) (kz:=kz) (I2.ZX λq hq=>?_) a0 (λq hq=>?_) hia hl (λH' s' pins' i u hi J sm r=>?_) λH' s' out c J sm n2 o2 ko=>⟨_,rfl,wpAny_pure ⟨_,rfl,?_⟩⟩
  ·rcases List.mem_cons.mp hq with rfl|hq
   ·exact⟨oa,na,la,I1.Znd (Nat.le_refl _),λv z=>by cases z⟩
   ·exact I2.pin q (List.mem_append_right _ hq)
  ·exact Nat.ne_of_lt (Heap.lt_size (I1.pin q hq).1)
  ·obtain⟨k,hk,rfl⟩:=List.mem_map.mp hi
   have:=List.mem_range.mp hk
   exact turn H' s' pins' _ u (by omega) (by omega) J sm r
  ·obtain⟨ns,hi,hpm,hpw⟩:=ZnL hia ko
   have ca:∀y cc,X.env.cells.lookup y=some cc->cc≠h1.objs.size:=λy cc hc' z=>by
    obtain⟨v,oc,w1,w2⟩:=I1.cell y cc hc'
    exact absurd (Heap.lt_size w1) (by rw[z];exact Nat.lt_irrefl _)
   have K:=J.track (a:=h1.objs.size) (o:=.lst (ns.map V.int)) n2 la (.inr a0) ca (λq hq=>Nat.ne_of_lt (Heap.lt_size (I1.pin q hq).1)) ⟨?_,out.toList,c,Zhg hi,by rw[Array.toArray_toList];exact o2⟩
   ·exact⟨.ref h1.objs.size,_,K,rfl,fin ns _ _ hpm hpw (λb o e=>by rw[Zj (Zx e na)];exact sm _ _ e) na Zd⟩
   ·rw[List.length_map,hpm.length_eq]
    unfold nats
    rw[List.length_map,List.length_range]
    exact Nat.le_trans (show n.toNat<=1000 by omega) (by decide)
noncomputable def Zlm (ta td:TA) (tb:TE) (js:List (Option Nat)) (env:Env) (P:Addr) (q:Str) (params:Arguments) (body:Expr) (scope:Scope):TE:=fun σ H Q=>ta σ H λvs H1=>td σ H1 λzs H2=>∃(p f:Addr) (n:Int) (kz:Int->Int),
 vs=[.ref p]/\zs=[.ref f]/\H2 p=some (.rng 0 n)/\0<=n/\n<64/\Zll env P q params body scope H2 f /\
 (∀i H3,0<=i->i<n->Zh H2 H3->tb ((ZW js σ).set 0 (some (.int i))) H3 λv H4=>v=.int (kz i)/\Zh H3 H4) /\
 ∀(ns:List Int) (l:Addr) (H3:Hp),ns.Perm (nats n)->(ns.Pairwise λx y=>kz x<=kz y)->Zh H2 H3->H2 l=none->H3 l=some (.lst (ns.map V.int))->Q (.ref l) H3
noncomputable def Zln (ta td:TA) (tb:TE) (js:List (Option Nat)) (env:Env) (P:Addr) (q:Str) (params:Arguments) (body:Expr) (scope:Scope):TE:=fun σ H Q=>ta σ H λvs H1=>td σ H1 λzs H2=>∃(p f:Addr) (n:Int) (kz:Int->Int),
 vs=[.ref p]/\zs=[.ref f,.bl true]/\H2 p=some (.rng 0 n)/\0<=n/\n<64/\Zll env P q params body scope H2 f /\
 (∀i H3,0<=i->i<n->Zh H2 H3->tb ((ZW js σ).set 0 (some (.int i))) H3 λv H4=>v=.int (kz i)/\Zh H3 H4) /\
 ∀(ns:List Int) (l:Addr) (H3:Hp),ns.Perm (nats n)->(ns.Pairwise λx y=>kz y<=kz x)->Zh H2 H3->H2 l=none->H3 l=some (.lst (ns.map V.int))->Q (.ref l) H3
theorem Zmo {pins':List (Addr×Obj)}{σ:St}{H':Hp}{s':Shared}{Nc:List Str}{js:List (Option Nat)}{q pn:Str}{params:Arguments}{body:Expr}{scope:Scope}{P f:Addr}{tb:TE}{Q:VK}{m:Nat}{i:Int}{u:Value} (hr:Room m X.A)
  (S:LamSc X Nc js params body scope pn) (hbody:∀cl L f c s H,PE (Zi0 X X.A.in1.in1 Nc q scope cl L f c s H) body tb) (J:Inv X pins' σ H' s') (L:Zll X.env P q params body scope H' f) (r:RelV (.int i) u)
  (h:tb ((ZW js σ).set 0 (some (.int i))) H' Q):wpAny (model X.prog X.w) X.A.in1.in1 (call (.ref f) [u]) (EP X pins' σ Q) (λ_ _=>False) s' :=
 Zml S hbody J J.ok.frames J.ok.hd hr.depth L r h
theorem ZpD {Nc:List Str}{js:List (Option Nat)}{q pn:Str}{params:Arguments}{body:Expr}{scope:Scope}{P:Addr}{ta td:TA}{tb:TE}{m:Nat}{e:Expr}{p pos lpos kp1:Pos} (hc:X.calm=true) (hr:Room m X.A) (S:LamSc X Nc js params body scope pn)
  (hbody:∀cl L f c s H,PE (Zi0 X X.A.in1.in1 Nc q scope cl L f c s H) body tb) (hg:Gl X "sorted") (hm:X.mg "sorted"=none) (ha:PA X [e] ta) (hd:PK X [⟨some (Str.ofString "key"),.Lambda params body scope lpos,kp1⟩] td)
  (hpl:(backTo pos (starEach [e] X.env)).any (·.1)=false:=by rfl) (hall:(backToKw pos (keywordEach [⟨some (Str.ofString "key"),.Lambda params body scope lpos,kp1⟩] X.env)).all (·.1.isSome)=true:=by rfl)
  (hnn:(backToKw pos (keywordEach [⟨some (Str.ofString "key"),.Lambda params body scope lpos,kp1⟩] X.env)).any (·.1.isNone)=false:=by rfl) (hks:(backToKw pos (keywordEach [⟨some (Str.ofString "key"),.Lambda params body scope lpos,kp1⟩] X.env)).filterMap (·.1)=[Str.ofString "key"]:=by rfl) (hb:backTo pos (starEach [e] X.env)=(false,eval e X.env)::backTo pos (starEach [] X.env):=by rfl) :
  PE X (.Call (.Name "sorted" p) [e] [⟨some (Str.ofString "key"),.Lambda params body scope lpos,kp1⟩] pos) (Zlm ta td tb js X.env P q params body scope):=by
 intro pins s σ H Q I h
 refine wpAny_Call_Name_kw (ZbK I hg hm Zhq ?_)
 refine PyProof.Rows.callWith_kw (thn (ha pos pins s σ H _ I h) λus s1 ⟨vs,H1,I1,r1,q1⟩=>?_) hb hpl hall hnn
 refine thn (hd pos pins s1 σ H1 _ I1 q1) λws s2 ⟨zs,H2,I2,r2,pp,f,n,kz,e1,e2,hp,h0,h64,L,tn,fin⟩=>?_
 subst e1 e2
 obtain⟨u,rfl,ru⟩:=r1.one
 cases(show u=Value.ref pp from ru)
 rw[hks]
 obtain⟨v,rfl,rv⟩:=r2.one
 cases(show v=Value.ref f from rv)
 exact Zi1 (f:=.ref f) (b:=false) (kz:=kz) I2 hc hp h0 h64 (ksk_s1 _ _) (λx=>ksk_l1 _ _) (λx=>ksk_t1 _ _) (λH' s' pins' i u hi0 hi1 J sm r=>Zmo hr S hbody J (L.same sm) r (tn i H' hi0 hi1 sm)) (λns l H' a1 a2=>fin ns l H' a1 a2)
theorem ZpE {Nc:List Str}{js:List (Option Nat)}{q pn:Str}{params:Arguments}{body:Expr}{scope:Scope}{P:Addr}{ta td:TA}{tb:TE}{m:Nat}{e:Expr}{e2:Expr}{p pos lpos kp1 kp2:Pos} (hc:X.calm=true) (hr:Room m X.A) (S:LamSc X Nc js params body scope pn)
  (hbody:∀cl L f c s H,PE (Zi0 X X.A.in1.in1 Nc q scope cl L f c s H) body tb) (hg:Gl X "sorted") (hm:X.mg "sorted"=none) (ha:PA X [e] ta) (hd:PK X [⟨some (Str.ofString "key"),.Lambda params body scope lpos,kp1⟩,⟨some (Str.ofString "reverse"),e2,kp2⟩] td)
  (hpl:(backTo pos (starEach [e] X.env)).any (·.1)=false:=by rfl) (hall:(backToKw pos (keywordEach [⟨some (Str.ofString "key"),.Lambda params body scope lpos,kp1⟩,⟨some (Str.ofString "reverse"),e2,kp2⟩] X.env)).all (·.1.isSome)=true:=by rfl)
  (hnn:(backToKw pos (keywordEach [⟨some (Str.ofString "key"),.Lambda params body scope lpos,kp1⟩,⟨some (Str.ofString "reverse"),e2,kp2⟩] X.env)).any (·.1.isNone)=false:=by rfl) (hks:(backToKw pos (keywordEach [⟨some (Str.ofString "key"),.Lambda params body scope lpos,kp1⟩,⟨some (Str.ofString "reverse"),e2,kp2⟩] X.env)).filterMap (·.1)=[Str.ofString "key",Str.ofString "reverse"]:=by rfl) (hb:backTo pos (starEach [e] X.env)=(false,eval e X.env)::backTo pos (starEach [] X.env):=by rfl) :
  PE X (.Call (.Name "sorted" p) [e] [⟨some (Str.ofString "key"),.Lambda params body scope lpos,kp1⟩,⟨some (Str.ofString "reverse"),e2,kp2⟩] pos) (Zln ta td tb js X.env P q params body scope):=by
 intro pins s σ H Q I h
 refine wpAny_Call_Name_kw (ZbK I hg hm Zhq ?_)
 refine PyProof.Rows.callWith_kw (thn (ha pos pins s σ H _ I h) λus s1 ⟨vs,H1,I1,r1,q1⟩=>?_) hb hpl hall hnn
 refine thn (hd pos pins s1 σ H1 _ I1 q1) λws s2 ⟨zs,H2,I2,r2,pp,f,n,kz,e1,e2,hp,h0,h64,L,tn,fin⟩=>?_
 subst e1 e2
 obtain⟨u,rfl,ru⟩:=r1.one
 cases(show u=Value.ref pp from ru)
 rw[hks]
 obtain⟨v,v2,rfl,rv,rv2⟩:=r2.two
 cases(show v=Value.ref f from rv)
 cases(show v2=Value.bool true from rv2)
 exact Zi1 (f:=.ref f) (b:=true) (kz:=kz) I2 hc hp h0 h64 (ksk_s2 _ _ _) (λx=>ksk_l2 _ _ _) (λx=>ksk_t2 _ _ _) (λH' s' pins' i u hi0 hi1 J sm r=>Zmo hr S hbody J (L.same sm) r (tn i H' hi0 hi1 sm)) (λns l H' a1 a2=>fin ns l H' a1 a2)
end
noncomputable def Zi2 (x:Str):Str:=(x++".<locals>.")++"<lambda>"
noncomputable def Z6 (K:Frag) (mg:Str->Option Value) (x:Str) (H:Hp):Prop:=H (Zgi K mg x)=some (ZiZ (Zi2 x))
theorem Z6.same {K:Frag}{mg:Str->Option Value}{x:Str}{H H':Hp} (h:Z6 K mg x H) (s:Zh H H'):Z6 K mg x H':=s _ _ h
noncomputable def ZnM (K:Frag) (mg:Str->Option Value) (x:Str) (f:Addr):Prop:=∃c,ZpB K f=some c/\codeHdIn K c (Zgi K mg x)=true
section
variable {P:Program}{w:World}{K:Frag}{mg:Str->Option Value}{base:Heap}
theorem Fun.okL {x qual:Str}{st:Stmt}{f:Addr}{fd:FuncData}{N ps:List Str}{k:Nat}{sp:Sp} (F:Fun K x qual st f fd) (L:ZnM K mg qual f) (B:BM mg base) (S:FnScope N ps (defScope st)) (len:∀vs H Q E,sp vs H Q E->vs.length=ps.length)
  (hbody:∀(cdv:Value) (A:Around) (outer:List Env) (s:Shared) (H:Hp) (vs:List V) (Q:VK) (E:XK),LamIn (Zgd (CXE P w) P w K mg base N qual (defScope st) f cdv A outer s H E) (Zgi K mg qual) (Zi2 qual)->Room k (A.deeper (envOfC qual (defScope st) s.heap.objs.size f cdv))->sp vs H Q E ->
   ∃t,PSs (Zgd (CXE P w) P w K mg base N qual (defScope st) f cdv A outer s H E) (defBody st) t/\t {nx:=λ_ H'=>Q .non H',rt:=Q} (start N vs) H):FnOk P w K mg base (CXE P w) (k+1) f fd ps sp:=by
 obtain⟨oc,od,kV,doc,pm,an,cdv,ct,osl,rfl,lk,hcd⟩:=F.ex
 obtain⟨c,h1,h2⟩:=L
 have e:cdv=.ref c:=by
  unfold ZpB at h1
  rw[lk]at h1
  dsimp only at h1
  cases cdv<;>first|(cases h1;rfl)|(cases h1;done)
 exact Zre lk hcd S len λA outer s H vs Q E hr hsp=>hbody cdv A outer s H vs Q E ⟨⟨c,e,h2⟩,B,rfl⟩ hr hsp
end
theorem ZrP {b:Addr}{q:Str}:∀{l:List (Addr×Str)},l.lookup b=some q->(b,q)∈l
 |[],e=>by cases e
 |(c,y)::r,e=>by
  rw[List.lookup_cons]at e
  cases hb:b==c with
  |true=>rw[hb]at e;cases e;rw[eq_of_beq hb];exact List.mem_cons_self
  |false=>rw[hb]at e;exact List.mem_cons_of_mem _ (ZrP e)
theorem Zlo {K:Frag}{mg:Str->Option Value}{x:Str}{f c T:Addr}{oc1 oc2:Value}{od1 od2:Option Addr}{fd:FuncData}{sl1 sl2:Array (Option Value)}{vs:Array Value} (hm:mg x=some (.ref f)) (l1:K.lookup f=some ⟨oc1,od1,.func fd,sl1⟩) (e:fd.code=.ref c) (l2:K.lookup c=some ⟨oc2,od2,.fields vs,sl2⟩) (h11:vs[11]?=some (.ref T)):Zgi K mg x=T/\ZpB K f=some c:=by
 have h1:ZpB K f=some c:=by
  unfold ZpB
  rw[l1]
  dsimp only
  rw[e]
 refine⟨?_,h1⟩
 unfold Zgi
 rw[hm]
 dsimp only
 rw[h1]
 dsimp only
 unfold tabOf
 rw[l2]
 dsimp only
 rw[h11]
theorem ZpF {P:Program}{w:World}{K:Frag}{mg mb:Str->Option Value}{CX:CXT}{k:Nat}{fa a:Addr}{fd:FuncData}{x:Str}{sp:Sp}{s₁:Shared}{vs:List Value}{ns:List Int}{tabs:List (Addr×Str)}
  (KX:K.In s₁.heap) (hns:s₁.heap.Ns mainGlobals mg) (hb:s₁.heap.Ns builtinsNs mb) (hbb:∀x:Str,x≠"__name__"->mb x=bootBuiltins x) (hlim:s₁.heap.NoLimit) (hg:s₁.gens=#[]) (hbm:BM mg s₁.heap)
  (ha:s₁.heap.get? a=some {cls:=.type "list",data:=.seq vs.toArray}) (hi:IntsAre vs ns) (hl:ns.length<=sizeLine) (hr:Room k callerA)
  (hT:∀p∈tabs,s₁.heap.get? p.1=some (tabObj #[])/\K.lookup p.1=none/\∃c,codeHdIn K c p.1=true) (nd:(tabs.map (·.1)).Nodup)
  (F:∀base:Heap,K.In base->base.Ns mainGlobals mg->BM mg base->FnOk P w K mg base CX k fa fd [x] sp) (hbind:∀(s:Shared) (u:Value),BindsTo s fd ⟨[u],[]⟩ [(x,u)])
  (hsp:∀H:Hp,SqL K H a (ns.map V.int)->(∀p∈tabs,H p.1=some (ZiZ p.2))->sp [.ref a] H (λv _=>v=.bl true) λ_ _ _=>False)
  (hCX:∀H e s',CX [] H s₁ (λ_ _ _=>False) e s'->False) :
  codeAny (model P w) callerA (.call (.ref fa) ⟨[.ref a],[]⟩) (λr s'=>r=.ok (.ret (.bool true))/\OldK s₁.heap s'.heap/\s'.os=s₁.os/\AllBare s'.gens) s₁:=by
 have rv:=Zhg hi
 have lenV:=hi.length
 have tmem:∀b q,tabs.lookup b=some q->(b,q)∈tabs:=λb q e=>ZrP e
 have tlook:∀p∈tabs,tabs.lookup p.1=some p.2:=by
  clear hT hsp tmem
  induction tabs with
  |nil=>intro p hp;cases hp
  |cons t r ih =>
   intro p hp
   rw[List.map_cons,List.nodup_cons]at nd
   rcases List.mem_cons.mp hp with rfl|hp
   ·rw[List.lookup_cons,beq_self_eq_true]
   ·have:(p.1==t.1)=false:=beq_eq_false_iff_ne.mpr λz=>nd.1 (List.mem_map.mpr ⟨p,hp,z⟩)
    rw[List.lookup_cons,this]
    exact ih nd.2 p hp
 have core:∀H:Hp,SqL K H a (ns.map V.int)->HOk P w H s₁.heap->(∀b,H b=none\/(b=a/\K.lookup a=none/\∃o xs,H b=some (.frz o (.lst xs)))\/∃q,(b,q)∈tabs/\H b=some (ZiZ q))->(∀p∈tabs,H p.1=some (ZiZ p.2)) ->
   codeAny (model P w) callerA (.call (.ref fa) ⟨[.ref a],[]⟩) (λr s'=>r=.ok (.ret (.bool true))/\OldK s₁.heap s'.heap/\s'.os=s₁.os/\AllBare s'.gens) s₁:=by
  intro H hS hok hA hTb
  have base_of:∀{b:Addr}{o:Obj},s₁.heap.get? b=some o->H b=none->(ZjX s₁.heap H).get? b=some o:=λe n=>Zq3 e n
  have noA:∀{b:Addr}{o:Obj},s₁.heap.get? b=some o->o.cls≠.type "list"->o.cls≠.none->H b=none:=λ{b o} e d1 d2=>by
   rcases hA b with z|⟨z,_⟩|⟨q,z,_⟩
   ·exact z
   ·subst z;rw[ha]at e;cases e;exact absurd rfl d1
   ·rw[(hT _ z).1]at e;cases e;exact absurd rfl d2
  have noD:∀{b:Addr}{o:Obj}{es:Array DictEntry}{ep:Nat},s₁.heap.get? b=some o->o.data=.dict es ep->H b=none:=λ{b o es ep} e d=>by
   rcases hA b with z|⟨z,_⟩|⟨q,z,_⟩
   ·exact z
   ·subst z;rw[ha]at e;cases e;cases d
   ·rw[(hT _ z).1]at e;cases e;cases d
  have nsK:∀{b:Addr}{m:Str->Option Value},s₁.heap.Ns b m->(ZjX s₁.heap H).Ns b m:=λ{b m} ⟨o,es,ep,e,d,r⟩=>⟨o,es,ep,base_of e (noD e d),d,r⟩
  have hKb:K.In (ZjX s₁.heap H):=λb o e=>base_of (KX b o e) (by
   rcases hA b with z|⟨z,zk,_⟩|⟨q,z,_⟩
   ·exact z
   ·subst z;rw[zk]at e;cases e
   ·rw[(hT _ z).2.1]at e;cases e)
  have hM:Mod K mg (ZjX s₁.heap H):=⟨hKb,nsK hns,⟨mb,nsK hb,hbb⟩,let ⟨mc,h1,h2⟩:=hlim;⟨mc,nsK h1,h2⟩⟩
  have hB:BM mg (ZjX s₁.heap H):=by
   obtain⟨bm,ob,b1,b2,b3,b4,b5,b6,b7⟩:=hbm
   exact⟨bm,ob,b1,b2,b3,base_of b4 (noA b4 (by rw[b5];decide) (by rw[b5];nofun)),b5,b6,b7⟩
  have e0:Env0 P w K mg (ZjX s₁.heap H) callerA [] s₁ H:=⟨rfl,hM,λb o e=>Ztk e,Nat.le_of_eq (ZoY _ _),trivial,λb hb=>absurd (show b∈([]:List Addr)from hb) (by simp),hok,.of_eq hg⟩
  refine codeAny_mono ((F _ hKb (nsK hns) hB).run callerA [] s₁ H ⟨[.ref a],[]⟩ [.ref a] [.ref a] _ _ hr e0 (hbind s₁ (.ref a)) (.cons rfl .nil) (hsp H hS hTb)) λr s' h=>?_
  cases r with
  |error e=>exact(hCX H e s' h).elim
  |ok fl =>
   cases fl with
   |next=>exact False.elim h
   |brk=>exact False.elim h
   |cont=>exact False.elim h
   |ret u =>
    obtain⟨v,H',os,bare,un,hok',r',q⟩:=h
    have q':v=.bl true:=q
    subst q'
    obtain rfl:u=Value.bool true:=r'
    have old:∀b o,s₁.heap.get? b=some o->asItWas s₁.heap s'.heap b o/\∃o',s'.heap.get? b=some o':=λb o e=>by
     rcases hA b with z|⟨_,_,ob,xs,z⟩|⟨q,zm,z⟩
     ·have:=un.keep b o e z (by intro y;exact absurd (show b∈([]:List Addr)from y) (by simp)) (by simp)
      exact⟨.inl this,o,this⟩
     ·have z2:=un.frzs b ob _ z
      obtain⟨e1,_⟩:=hok b _ z
      obtain⟨e2,_⟩:=hok' b _ z2
      rw[e]at e1;cases e1
      exact⟨.inl e2,o,e2⟩
     ·obtain⟨more,z2⟩:=un.tbls b _ z
      obtain⟨ts,e2,_⟩:=hok' b _ z2
      obtain⟨t1,_,c,t3⟩:=hT _ zm
      have t1':s₁.heap.get? b=some (tabObj #[]):=t1
      rw[e]at t1';cases t1'
      refine⟨.inr (.inl ⟨((codeHd_of_K KX t3).tab t1).isCodeTable,rfl,#[],ts,rfl,by rw[Array.empty_append];exact e2⟩),_,e2⟩
    exact⟨rfl,⟨λb o e=>(old b o e).1,λb o e=>(old b o e).2⟩,os,bare⟩
 have neA:∀q,(a,q)∉tabs:=λq z=>by
  have:=(hT _ z).1
  rw[show((a,q):Addr×Str).1=a from rfl,ha]at this;cases this
 have tabok:∀(H:Hp) (b:Addr) (q:Str),(b,q)∈tabs->Zau P w H s₁.heap b (ZiZ q):=λH b q z=>⟨#[],(hT _ z).1,trivial,λpos cv e=>by cases e⟩
 cases hk:K.lookup a with
 |some o =>
  have e:=KX a o hk
  rw[ha]at e
  cases e
  refine core (λb=>(tabs.lookup b).map ZiZ) (.inr ⟨_,vs.toArray,_,hk,rfl,rfl,rfl,by rw[List.size_toArray,lenV];exact hl,by simpa using rv⟩) (λb u z=>?_) (λb=>?_) λp hp=>by rw[tlook p hp];rfl
  ·dsimp only at z
   cases q:tabs.lookup b with
   |none=>rw[q]at z;cases z
   |some y=>rw[q]at z;cases z;exact tabok _ b y (tmem b y q)
  ·cases q:tabs.lookup b with
   |none=>exact .inl rfl
   |some y=>exact .inr (.inr ⟨y,tmem b y q,rfl⟩)
 |none =>
  refine core (λb=>if b=a then some (.frz {cls:=.type "list",data:=.seq vs.toArray} (.lst (ns.map V.int)))else (tabs.lookup b).map ZiZ) (.inl (.inr ⟨{cls:=.type "list",data:=.seq vs.toArray},if_pos rfl⟩)) (λb u z=>?_) (λb=>?_) λp hp=>?_
  ·by_cases hb:b=a
   ·have z':=(if_pos hb).symm.trans z
    cases z'
    subst hb
    exact⟨ha,by rw[List.length_map];exact hl,vs,_,rv,ha⟩
   ·have z':=(if_neg hb).symm.trans z
    cases q:tabs.lookup b with
    |none=>rw[q]at z';cases z'
    |some y=>rw[q]at z';cases z';exact tabok _ b y (tmem b y q)
  ·by_cases hb:b=a
   ·exact .inr (.inl ⟨hb,hk,_,_,if_pos hb⟩)
   ·cases q:tabs.lookup b with
    |none=>exact .inl (by rw[if_neg hb];rfl)
    |some y=>exact .inr (.inr ⟨y,tmem b y q,by rw[if_neg hb];rfl⟩)
  ·have:p.1≠a:=λz=>neA p.2 (by rw[<-z];exact hp)
   rw[if_neg this,tlook p hp];rfl
theorem ZrQ {l:OpenLaw}{n k:Nat}{q:Program}{loose:List Str}{XP:(Str->Option Value)->Heap->Prop}{YP:World->Heap->Prop}{d:DefRec}{K:Params->Frag}{CX:World->CXT}{sp:World->(Str->Option Value)->Sp}{x:Str}{ts:List Addr}{tabs:Frag->(Str->Option Value)->List (Addr×Str)}
  (hn:l.most=some n) (hn2:n<=sizeLine) (hdf:d.params.defaults=[]) (hr:Room k callerA)
  (hY:∀(w:World) (h:Heap),YP w h->(K w.params).In h) (hY2:∀(w:World) (h:Heap),YP w h->∀P∈ts,h.get? P=some (tabObj #[]))
  (F:∀(w:World) (mg:Str->Option Value) (fa:Addr) (h:Heap),(K w.params).In h->h.Ns mainGlobals mg->mg d.name=some (.ref fa) ->
   ∃fd:FuncData,(∀(s:Shared) (u:Value),BindsTo s fd ⟨[u],[]⟩ [(x,u)])/\(∀p∈tabs (K w.params) mg,p.1∈ts/\(K w.params).lookup p.1=none/\∃c,codeHdIn (K w.params) c p.1=true)/\((tabs (K w.params) mg).map (·.1)).Nodup /\
    ∀base:Heap,(K w.params).In base->base.Ns mainGlobals mg->BM mg base->FnOk l.prog w (K w.params) mg base (CX w) k fa fd [x] (sp w mg))
  (hsp:∀(w:World) (mg:Str->Option Value) (H:Hp) (a:Addr) (ns:List Int),ns.length<=n->SqL (K w.params) H a (ns.map V.int)->(∀p∈tabs (K w.params) mg,H p.1=some (ZiZ p.2))->sp w mg [.ref a] H (λv _=>v=.bl true) λ_ _ _=>False)
  (hCX:∀(w:World) (H:Hp) (s:Shared) (e:Value) (s':Shared),CX w [] H s (λ_ _ _=>False) e s'->False) :
  WalkO q loose XP YP l.row.toRowW d [] (λf vs=>PySem.call f vs):=by
 refine Att.ZlZ hn hdf λw s₀ s₁ mg mb fa o pm cd doc a vs ns G Y ho hd hcd hmg hobj hints hlen hg=>?_
 have KX:=hY w _ Y
 have TX:=hY2 w _ Y
 obtain⟨fd,hb,hT,nd,hF⟩:=F w mg fa _ KX G.T.g hmg
 have hbm:BM mg s₁.heap:=by
  obtain⟨bm,ob,b1,b2,b3,b4,b5,b6⟩:=G.T.bmain
  have bG:bm≠mainGlobals:=λz=>by
   obtain⟨o,es,ep,e,hd,_⟩:=G.T.g
   rw[z,e]at b3;cases b3;rw[hd]at b6;cases b6
  exact⟨bm,ob,b1,b2,bG,b3,b4,b5,b6⟩
 exact ZpF KX G.T.g G.T.b G.T.builtins G.T.nolimit hg hbm hobj hints (Nat.le_trans hlen hn2) hr (λp hp=>⟨TX _ (hT p hp).1,(hT p hp).2⟩) nd hF hb (λH hS hTb=>hsp w mg H a ns hlen hS hTb) λH e s'=>hCX w H s₁ e s'
theorem ZnN (a v d:Value):argsOk "max" ⟨[a],[(Str.ofString "key",v),(Str.ofString "default",d)]⟩:=by unfold argsOk;kernel_rfl
noncomputable def Zkx (kz:Int->Int) (ns:List Int) (m i:Nat):Prop:=∀j,j<m->kz (nth ns j)<=kz (nth ns i)/\(j<i->kz (nth ns j)<kz (nth ns i))
theorem Zkx.take {kz:Int->Int}{ns:List Int}{m i:Nat} (h:Zkx kz ns m i) (hi:i<m) (c:kz (nth ns m)>kz (nth ns i)):Zkx kz ns (m+1) m:=λj hj=>by
 by_cases e:j=m
 ·subst e;exact⟨Int.le_refl _,λh=>absurd h (by omega)⟩
 ·have:=(h j (by omega)).1
  exact⟨by omega,λ_=>by omega⟩
theorem Zkx.keep {kz:Int->Int}{ns:List Int}{m i:Nat} (h:Zkx kz ns m i) (hi:i<m) (c:¬ kz (nth ns m)>kz (nth ns i)):Zkx kz ns (m+1) i:=λj hj=>by
 by_cases e:j=m
 ·subst e;exact⟨by omega,λz=>absurd z (by omega)⟩
 ·exact h j (by omega)
section
variable {X:Cx}
theorem ZaQ {σ:St}{H':Hp}{s':Shared}{ps:List (Addr×Obj)}{x:Addr}{o:Obj} (J:Inv X ps σ H' s') (hm:(x,o)∈ps):s'.heap.get? x=some o/\H' x=none/\x≠X.env.locals/\x∉X.fs/\(∀v,o.data≠.cell v)/\∀y cc,X.env.cells.lookup y=some cc->cc≠x:=by
 obtain⟨q1,q2,q3,q4,q5⟩:=J.pin _ (List.mem_append_right _ hm)
 refine⟨q1,q2,q3,q4,q5,λy cc hc z=>?_⟩
 obtain⟨v,oc,w1,w2⟩:=J.cell y cc hc
 rw[z,q1]at w1;cases w1;exact q5 _ w2
end
noncomputable def Zhs (kz:Int->Int) (ns:List Int) (m i:Nat):Prop:=∀j,j<m->kz (nth ns i)<=kz (nth ns j)/\(j<i->kz (nth ns i)<kz (nth ns j))
theorem Zhs.take {kz:Int->Int}{ns:List Int}{m i:Nat} (h:Zhs kz ns m i) (hi:i<m) (c:kz (nth ns m)<kz (nth ns i)):Zhs kz ns (m+1) m:=λj hj=>by
 by_cases e:j=m
 ·subst e;exact⟨Int.le_refl _,λh=>absurd h (by omega)⟩
 ·have:=(h j (by omega)).1
  exact⟨by omega,λ_=>by omega⟩
theorem Zhs.keep {kz:Int->Int}{ns:List Int}{m i:Nat} (h:Zhs kz ns m i) (hi:i<m) (c:¬ kz (nth ns m)<kz (nth ns i)):Zhs kz ns (m+1) i:=λj hj=>by
 by_cases e:j=m
 ·subst e;exact⟨by omega,λz=>absurd z (by omega)⟩
 ·exact h j (by omega)
section
variable {prog:Program}{w:World}{A:Around}{E:Value->Shared->Prop}{s:Shared}{κ:SortKind}{P:Keyed->Prop}{ky:Keyed->Int}
noncomputable def Zfc (prog:Program) (w:World) (A:Around) (s:Shared) (κ:SortKind) (P:Keyed->Prop) (ky:Keyed->Int):Prop :=
 ∀x y,P x->P y->∀C:Bool->Shared->Prop,C (decide (ky x<ky y)) s->wpAny (model prog w) A (keyLt' κ x.1 y.1) C (λ_ _=>False) s
theorem Zmp (hc:Zfc prog w A s κ P ky) {x y:Keyed}{st:SortSt}{Q:Option Bool->SortSt->Prop} (hk:PyProof.Rows.kindOf st=κ) (hx:P x) (hy:P y) (h:Q (some (decide (ky x<ky y))) st):wpS (model prog w) A E s (lt' x y) Q st:=by
 rw[lt'_eq]
 refine wpS_bind (wpS_get ?_)
 refine wpS_bind (wpS_lift ?_)
 refine wpAny_attempt ?_
 rw[hk]
 refine wpAny_mono (hc x y hx hy (λb s'=>s'=s/\b=decide (ky x<ky y)) ⟨rfl,rfl⟩) ?_ (λ_ _ z=>z.elim)
 rintro b s' ⟨rfl,rfl⟩
 exact⟨rfl,wpS_pure h⟩
theorem ZP {arr:Array Keyed}{i:Nat}{st:SortSt}{Q:Keyed->SortSt->Prop} (hi:i<arr.size) (h:Q (arr[i]'hi) st):wpS (model prog w) A E s (elem' arr i) Q st:=by
 rw[elem'_eq,getElem?_pos arr i hi]
 exact wpS_pure h
noncomputable def ZtG:Bool->Keyed->Array Keyed->Nat->Nat->Nat->StateT SortSt Sem (Option Nat):=sortPriv% PySem.Builtin.gallop
theorem ZcG {left:Bool}{key:Keyed}{arr:Array Keyed}{base n hint:Nat}{st:SortSt}{Q:Option Nat->SortSt->Prop}{f:Nat->Bool}
  (hc:Zfc prog w A s κ P ky) (hk:PyProof.Rows.kindOf st=κ) (hkey:P key) (hP:∀i,(h:i<arr.size)->P arr[i]) (hn:base+n<=arr.size) (hh:hint<n)
  (hf:∀i,(h:base+i<arr.size)->f i=if left then decide (ky arr[base+i]<ky key)else !decide (ky key<ky arr[base+i]))
  (hm:∀i j,i<=j->j<n->f j=true->f i=true)
  (hQ:∀r,r<=n->(∀i,i<r->f i=true)->(∀i,r<=i->i<n->f i=false)->Q (some r) st) :
  wpS (model prog w) A E s (ZtG left key arr base n hint) Q st:=by
 have hb:∀i,i<n->∀{R:Option Bool->SortSt->Prop},R (some (f i)) st->wpS (model prog w) A E s (do
   let x <-elem' arr (base+i)
   if left=true then lt' x key else do
    let c <-lt' key x
    pure (Option.map (λx=>!x) c)) R st:=by
  intro i hi R hR
  have hlt:base+i<arr.size:=by omega
  refine wpS_bind (ZP hlt ?_)
  rw[hf i hlt]at hR
  cases left with
  |true=>exact Zmp hc hk (hP _ hlt) hkey hR
  |false=>exact wpS_bind (Zmp hc hk hkey (hP _ hlt) (wpS_pure hR))
 have hbin:∀lo hi,lo<=hi->hi<=n->(∀i,i<lo->f i=true)->(∀i,hi<=i->i<n->f i=false)->∀(body:Nat->Option (Option Nat)×Nat×Nat->StateT SortSt Sem (ForInStep (Option (Option Nat)×Nat×Nat))) (R:Option (Option Nat)×Nat×Nat->SortSt->Prop),
   (∀x c,body x c=if c.2.1 ≥ c.2.2 then pure (ForInStep.done (none,c.2.1,c.2.2))else do
    let r <-(do
     let x <-elem' arr (base+(c.2.1+(c.2.2-c.2.1) / 2))
     if left=true then lt' x key else do
      let c <-lt' key x
      pure (Option.map (λx=>!x) c))
    match r with
    |some more=>if more=true then pure (ForInStep.yield (none,c.2.1+(c.2.2-c.2.1) / 2+1,c.2.2))else pure (ForInStep.yield (none,c.2.1,c.2.1+(c.2.2-c.2.1) / 2))
    |x=>pure (ForInStep.done (some none,c.2.1,c.2.2))) ->
   (∀r,r<=n->(∀i,i<r->f i=true)->(∀i,r<=i->i<n->f i=false)->R (none,r,r) st)->wpS (model prog w) A E s (forIn [:n] (none,lo,hi) body) R st:=by
  intro lo hi hlh hhn h1 h2 body R hbody hR
  refine wpS_forRange (λt c st'=>st'=st/\c.1=none/\c.2.1<=c.2.2/\c.2.2<=n/\(∀i,i<c.2.1->f i=true)/\(∀i,c.2.2<=i->i<n->f i=false)/\c.2.2-c.2.1<=n-t) ?_ ?_ ⟨rfl,rfl,hlh,hhn,h1,h2,by show hi-lo<=n-0;omega⟩
  ·rintro t ⟨r,lo,hi⟩ st' _ ht ⟨rfl,e,a1,a2,a3,a4,a5⟩
   rw[hbody]
   simp only at e a1 a2 a3 a4 a5⊢
   by_cases hge:lo ≥ hi
   ·rw[if_pos hge]
    have:lo=hi:=by omega
    subst this
    exact wpS_pure (hR lo a2 a3 a4)
   ·rw[if_neg hge]
    refine wpS_bind (hb _ (by omega) ?_)
    cases hv:f (lo+(hi-lo) / 2)with
    |true =>
     refine wpS_pure ⟨rfl,rfl,?_,a2,?_,a4,?_⟩
     ·show lo+(hi-lo) / 2+1<=hi;omega
     ·intro i hi2;exact hm i (lo+(hi-lo) / 2) (by simp only at hi2;omega) (by omega) hv
     ·show hi-(lo+(hi-lo) / 2+1)<=n-(t+1);omega
    |false =>
     refine wpS_pure ⟨rfl,rfl,?_,?_,a3,?_,?_⟩
     ·show lo<=lo+(hi-lo) / 2;omega
     ·show lo+(hi-lo) / 2<=n;omega
     ·intro i hi2 hi3
      cases hz:f i with
      |false=>rfl
      |true=>rw[hm (lo+(hi-lo) / 2) i hi2 hi3 hz]at hv;cases hv
     ·show lo+(hi-lo) / 2-lo<=n-(t+1);omega
  ·rintro⟨r,lo,hi⟩ st' ⟨rfl,e,a1,a2,a3,a4,a5⟩
   simp only at e a1 a2 a3 a4 a5
   have:lo=hi:=by
    have:max 0 n=n:=by omega
    rw[this]at a5;omega
   subst this;subst e
   exact hR lo a2 a3 a4
 refine wpS_bind (hb hint hh ?_)
 cases hv:f hint with
 |true =>
  refine wpS_bind (wpS_mono (Q:=λ(c:Option (Option Nat)×Nat×Nat) (st':SortSt)=>st'=st/\c.1=none/\hint+c.2.1<n/\c.2.1<c.2.2/\f (hint+c.2.1)=true/\(n-hint<=c.2.2\/(hint+c.2.2<n/\f (hint+c.2.2)=false))) (wpS_forRange (λ(t:Nat) (c:Option (Option Nat)×Nat×Nat) (st':SortSt)=>st'=st/\c.1=none/\c.2.1<c.2.2/\hint+c.2.1<n/\f (hint+c.2.1)=true/\t+1<=c.2.2) ?_ ?_ ⟨rfl,rfl,Nat.zero_lt_one,by show hint+0<n;omega,hv,Nat.le_refl _⟩) ?_)
  ·rintro t ⟨r,lo,of⟩ st' _ ht ⟨rfl,e,a1,a2,a3,a4⟩
   simp only at e a1 a2 a3 a4⊢
   split
   ·rename_i hge
    exact wpS_pure ⟨rfl,rfl,a2,a1,a3,.inl hge⟩
   ·rename_i hge
    refine wpS_bind (hb (hint+of) (by omega) ?_)
    cases hw:f (hint+of)with
    |true=>exact wpS_pure ⟨rfl,rfl,by show of<2*of+1;omega,by show hint+of<n;omega,hw,by show t+1+1<=2*of+1;omega⟩
    |false=>exact wpS_pure ⟨rfl,rfl,a2,a1,a3,.inr ⟨by show hint+of<n;omega,hw⟩⟩
  ·rintro⟨r,lo,of⟩ st' ⟨rfl,e,a1,a2,a3,a4⟩
   simp only at e a1 a2 a3 a4
   exact⟨rfl,e,a2,a1,a3,.inl (by show n-hint<=of;omega)⟩
  ·rintro⟨r,lo,of⟩ st' ⟨rfl,e,a1,a2,a3,a4⟩
   simp only at e a1 a2 a3 a4⊢
   subst e
   refine wpS_bind (hbin (hint+lo+1) (hint+min of (n-hint)) (by omega) (by omega) ?_ ?_ _ _ (λx c=>rfl) ?_)
   ·intro i hi;exact hm i (hint+lo) (by omega) a1 a3
   ·intro i h1 h2
    cases hz:f i with
    |false=>rfl
    |true =>
     rcases a4 with a4|⟨a4,a5⟩
     ·omega
     ·rw[hm (hint+of) i (by omega) h2 hz]at a5;cases a5
   ·intro r h1 h2 h3
    exact wpS_pure (hQ r h1 h2 h3)
 |false =>
  refine wpS_bind (wpS_mono (Q:=λ(c:Option (Option Nat)×Nat×Nat) (st':SortSt)=>st'=st/\c.1=none/\c.2.1<=hint/\c.2.1<c.2.2/\f (hint-c.2.1)=false/\(hint+1<=c.2.2\/(c.2.2<=hint/\f (hint-c.2.2)=true))) (wpS_forRange (λ(t:Nat) (c:Option (Option Nat)×Nat×Nat) (st':SortSt)=>st'=st/\c.1=none/\c.2.1<c.2.2/\c.2.1<=hint/\f (hint-c.2.1)=false/\t+1<=c.2.2) ?_ ?_ ⟨rfl,rfl,Nat.zero_lt_one,Nat.zero_le _,hv,Nat.le_refl _⟩) ?_)
  ·rintro t ⟨r,lo,of⟩ st' _ ht ⟨rfl,e,a1,a2,a3,a4⟩
   simp only at e a1 a2 a3 a4⊢
   split
   ·rename_i hge
    exact wpS_pure ⟨rfl,rfl,a2,a1,a3,.inl hge⟩
   ·rename_i hge
    refine wpS_bind (hb (hint-of) (by omega) ?_)
    cases hw:f (hint-of)with
    |false=>exact wpS_pure ⟨rfl,rfl,by show of<2*of+1;omega,by show of<=hint;omega,hw,by show t+1+1<=2*of+1;omega⟩
    |true=>exact wpS_pure ⟨rfl,rfl,a2,a1,a3,.inr ⟨by show of<=hint;omega,hw⟩⟩
  ·rintro⟨r,lo,of⟩ st' ⟨rfl,e,a1,a2,a3,a4⟩
   simp only at e a1 a2 a3 a4
   exact⟨rfl,e,a2,a1,a3,.inl (by show hint+1<=of;omega)⟩
  ·rintro⟨r,lo,of⟩ st' ⟨rfl,e,a1,a2,a3,a4⟩
   simp only at e a1 a2 a3 a4⊢
   subst e
   refine wpS_bind (hbin (hint+1-min of (hint+1)) (hint-lo) (by omega) (by omega) ?_ ?_ _ _ (λx c=>rfl) ?_)
   ·intro i hi
    rcases a4 with a4|⟨a4,a5⟩
    ·omega
    ·exact hm i (hint-of) (by omega) (by omega) a5
   ·intro i h1 h2
    cases hz:f i with
    |false=>rfl
    |true=>rw[hm (hint-lo) i (by omega) h2 hz]at a3;cases a3
   ·intro r h1 h2 h3
    exact wpS_pure (hQ r h1 h2 h3)
end
section
variable {ky:Keyed->Int}
noncomputable def Srt (ky:Keyed->Int) (l:List Keyed):Prop:=l.Pairwise (λx y=>ky x<=ky y)
structure Mg (ky:Keyed->Int) (a b:List Keyed) (out:List Keyed) (ia ib:Nat):Prop where
 perm:out.Perm (a.take ia++b.take ib)
 srt:Srt ky out
 le:∀x,x∈out->∀y,y∈a.drop ia\/y∈b.drop ib->ky x<=ky y
variable {a b out:List Keyed}{ia ib:Nat}
theorem Mg.swap (h:Mg ky a b out ia ib):Mg ky b a out ib ia:=⟨h.perm.trans List.perm_append_comm,h.srt,λx hx y hy=>h.le x hx y hy.symm⟩
theorem Mg.ZoO (ha:Srt ky a) (h:Mg ky a b out ia ib) (hia:ia<a.length) (hle:∀y,y∈b.drop ib->ky a[ia]<=ky y):Mg ky a b (out++[a[ia]]) (ia+1) ib:=by
 have e:a.drop ia=a[ia]::a.drop (ia+1):=List.drop_eq_getElem_cons hia
 have hs:∀y,y∈a.drop (ia+1)->ky a[ia]<=ky y:=by
  have:Srt ky (a.drop ia):=List.Pairwise.sublist (List.drop_sublist _ _) ha
  rw[e]at this
  exact(List.pairwise_cons.mp this).1
 refine⟨?_,?_,?_⟩
 ·have et:a.take (ia+1)=a.take ia++[a[ia]]:=by rw[List.take_add_one,List.getElem?_eq_getElem hia];rfl
  rw[et,List.append_assoc]
  refine(List.Perm.append_right [a[ia]] h.perm).trans ?_
  rw[List.append_assoc]
  exact List.Perm.append_left _ List.perm_append_comm
 ·refine List.pairwise_append.mpr ⟨h.srt,List.pairwise_singleton _ _,?_⟩
  intro x hx y hy
  rw[List.mem_singleton]at hy;subst hy
  exact h.le x hx _ (.inl (by rw[e];exact List.mem_cons_self))
 ·intro x hx y hy
  rcases List.mem_append.mp hx with hx|hx
  ·refine h.le x hx y ?_
   rcases hy with hy|hy
   ·exact .inl (by rw[e];exact List.mem_cons_of_mem _ hy)
   ·exact .inr hy
  ·rw[List.mem_singleton]at hx;subst hx
   rcases hy with hy|hy
   ·exact hs y hy
   ·exact hle y hy
theorem Mg.ZoP (ha:Srt ky a) (h:Mg ky a b out ia ib):∀k,ia+k<=a.length->(∀i,(hi:ia+i<a.length)->i<k->∀y,y∈b.drop ib->ky a[ia+i]<=ky y)->Mg ky a b (out++(a.drop ia).take k) (ia+k) ib
 |0,_,_=>by simpa using h
 |k+1,hk,hle=>by
  have h2:=(Mg.ZoP ha h k (by omega) λi hi hik=>hle i hi (by omega)).ZoO ha (by omega) (hle k (by omega) (by omega))
  have:(a.drop ia).take (k+1)=(a.drop ia).take k++[a[ia+k]]:=by
   rw[List.take_add_one,List.getElem?_drop,List.getElem?_eq_getElem (by omega:ia+k<a.length)];rfl
  rw[this,<-List.append_assoc]
  exact h2
theorem Mg.stepB (hb:Srt ky b) (h:Mg ky a b out ia ib) (hib:ib<b.length) (hle:∀y,y∈a.drop ia->ky b[ib]<=ky y):Mg ky a b (out++[b[ib]]) ia (ib+1):=(h.swap.ZoO hb hib hle).swap
theorem Mg.bulkB (hb:Srt ky b) (h:Mg ky a b out ia ib) (k:Nat) (hk:ib+k<=b.length) (hle:∀i,(hi:ib+i<b.length)->i<k->∀y,y∈a.drop ia->ky b[ib+i]<=ky y):Mg ky a b (out++(b.drop ib).take k) ia (ib+k):=(h.swap.ZoP hb k hk hle).swap
theorem Zi3 (ha:Srt ky a) (hi:ia<a.length) {y:Keyed} (hy:y∈a.drop ia):ky a[ia]<=ky y:=by
 have:Srt ky (a.drop ia):=List.Pairwise.sublist (List.drop_sublist _ _) ha
 rw[List.drop_eq_getElem_cons hi]at this hy
 rcases List.mem_cons.mp hy with hy|hy
 ·subst hy;exact Int.le_refl _
 ·exact(List.pairwise_cons.mp this).1 y hy
noncomputable def Gd (ky:Keyed->Int) (a b res:List Keyed):Prop:=res.Perm (a++b)/\Srt ky res
theorem Mg.Zmq (ha:Srt ky a) (h:Mg ky a b out ia ib) (hib:b.length<=ib):Gd ky a b (out++a.drop ia):=by
 refine⟨?_,List.pairwise_append.mpr ⟨h.srt,List.Pairwise.sublist (List.drop_sublist _ _) ha,λx hx y hy=>h.le x hx y (.inl hy)⟩⟩
 refine(List.Perm.append_right _ h.perm).trans ?_
 rw[List.take_of_length_le hib,List.append_assoc]
 refine(List.Perm.append_left _ List.perm_append_comm).trans ?_
 rw[<-List.append_assoc,List.take_append_drop]
theorem Mg.ZoQ (hb:Srt ky b) (h:Mg ky a b out ia ib) (hia:a.length<=ia):Gd ky a b (out++b.drop ib):=by
 have:=h.swap.Zmq hb hia
 exact⟨this.1.trans List.perm_append_comm,this.2⟩
theorem Mg.lastA (ha:Srt ky a) (hb:Srt ky b) (h:Mg ky a b out ia ib) (hl:∀y,y∈b.drop ib->∀z,z∈a.drop ia->ky y<=ky z):Gd ky a b (out++b.drop ib++a.drop ia):=by
 refine⟨?_,?_⟩
 ·refine(List.Perm.append_right _ (List.Perm.append_right _ h.perm)).trans ?_
  rw[List.append_assoc,List.append_assoc]
  have e1:a++b=a.take ia++(a.drop ia++(b.take ib++b.drop ib)):=by rw[<-List.append_assoc,List.take_append_drop,List.take_append_drop]
  rw[e1]
  refine List.Perm.append_left _ ?_
  rw[<-List.append_assoc]
  exact List.perm_append_comm
 ·refine List.pairwise_append.mpr ⟨List.pairwise_append.mpr ⟨h.srt,List.Pairwise.sublist (List.drop_sublist _ _) hb,λx hx y hy=>h.le x hx y (.inr hy)⟩,List.Pairwise.sublist (List.drop_sublist _ _) ha,?_⟩
  intro x hx y hy
  rcases List.mem_append.mp hx with hx|hx
  ·exact h.le x hx y (.inl hy)
  ·exact hl x hx y hy
variable {prog:Program}{w:World}{A:Around}{E:Value->Shared->Prop}{s:Shared}{κ:SortKind}{P:Keyed->Prop}
theorem Zt {σ α:Type}{c:Prop} [Decidable c] {m1 m2:StateT σ Sem α}{Q:α->σ->Prop}{st:σ}{M:Model} (h1:c->wpS M A E s m1 Q st) (h2:¬c->wpS M A E s m2 Q st):wpS M A E s (if c then m1 else m2) Q st:=by
 by_cases h:c
 ·rw[if_pos h];exact h1 h
 ·rw[if_neg h];exact h2 h
noncomputable def ZrR:Array Keyed->Array Keyed->StateT SortSt Sem (Array Keyed):=sortPriv% PySem.Builtin.mergeLo
theorem ZnO {a b:Array Keyed}{arr:Array Keyed}{pd:Array (Nat×Nat×Nat)}{g:Nat}{fl:Option Value}{Q:Array Keyed->SortSt->Prop}
  (hc:Zfc prog w A s κ P ky) (hPa:∀i,(h:i<a.size)->P a[i]) (hPb:∀i,(h:i<b.size)->P b[i]) (ha:Srt ky a.toList) (hb:Srt ky b.toList)
  (ha0:0<a.size) (hb0:0<b.size) (h0:ky b[0]<=ky a[0]) (hl:∀j,(h:j<b.size)->ky b[j]<=ky (a[a.size-1]'(by omega)))
  (hQ:∀res g',Gd ky a.toList b.toList res.toList->Q res (SortSt.mk' κ arr pd g' fl)) :
  wpS (model prog w) A E s (ZrR a b) Q (SortSt.mk' κ arr pd g fl):=by
 refine wpS_bind (wpS_lift (wpAny_rule ⟨rfl,?_⟩))
 refine wpS_bind (ZP hb0 ?_)
 have m0:Mg ky a.toList b.toList [] 0 0:=⟨by simp,List.Pairwise.nil,λx hx=>by cases hx⟩
 have hdA:∀i,(h:i<a.size)->∀y,y∈a.toList.drop i->ky a[i]<=ky y:=λi h y hy=>Zi3 ha (by simpa using h) hy
 have hdB:∀i,(h:i<b.size)->∀y,y∈b.toList.drop i->ky b[i]<=ky y:=λi h y hy=>Zi3 hb (by simpa using h) hy
 have m1:Mg ky a.toList b.toList #[b[0]].toList 0 1:=by
  have:=m0.stepB hb (by simpa using hb0) (λy hy=>Int.le_trans h0 (hdA 0 ha0 y hy))
  simpa using this
 have exA:∀i,(a.extract i).toList=a.toList.drop i:=λi=>by simp[Array.toList_extract,List.extract];exact List.take_of_length_le (by simp)
 have exB:∀i,(b.extract i).toList=b.toList.drop i:=λi=>by simp[Array.toList_extract,List.extract];exact List.take_of_length_le (by simp)
 have exA2:∀i k,(a.extract i (i+k)).toList=(a.toList.drop i).take k:=λi k=>by simp[Array.toList_extract,List.extract]
 have exB2:∀i k,(b.extract i (i+k)).toList=(b.toList.drop i).take k:=λi k=>by simp[Array.toList_extract,List.extract]
 have hdone:∀(out:Array Keyed) ia ib,Mg ky a.toList b.toList out.toList ia ib->b.size<=ib->Gd ky a.toList b.toList (out++a.extract ia++b.extract ib).toList:=by
  intro out ia ib m h
  rw[Array.toList_append,Array.toList_append,exA,exB,List.drop_of_length_le (l:=b.toList) (by simpa using h),List.append_nil]
  exact m.Zmq ha (by simpa using h)
 have hdone2:∀(out:Array Keyed) ia ib,Mg ky a.toList b.toList out.toList ia ib->a.size<=ia->Gd ky a.toList b.toList (out++a.extract ia++b.extract ib).toList:=by
  intro out ia ib m h
  rw[Array.toList_append,Array.toList_append,exA,exB,List.drop_of_length_le (by simpa using h),List.append_nil]
  exact m.ZoQ hb (by simpa using h)
 have hlast:∀(out:Array Keyed) ia ib,Mg ky a.toList b.toList out.toList ia ib->ia+1=a.size->Gd ky a.toList b.toList (out++b.extract ib++a.extract ia).toList:=by
  intro out ia ib m h
  rw[Array.toList_append,Array.toList_append,exA,exB]
  refine m.lastA ha hb ?_
  intro y hy z hz
  have hz2:z=a[ia]'(by omega):=by
   rw[List.drop_eq_getElem_cons (by simp;omega),List.drop_of_length_le (by simp;omega)]at hz
   simpa using hz
  subst hz2
  obtain⟨j,hj,e⟩:=List.mem_iff_getElem.mp (List.mem_of_mem_drop hy)
  rw[<-e]
  have:=hl j (by simpa using hj)
  have e2:a.size-1=ia:=by omega
  simp only[e2]at this
  simpa using this
 have sA:∀(out:Array Keyed) ia ib,Mg ky a.toList b.toList out.toList ia ib->(h:ia<a.size)->(∀y,y∈b.toList.drop ib->ky a[ia]<=ky y)->Mg ky a.toList b.toList (out.push a[ia]).toList (ia+1) ib:=λout ia ib m h hle=>by
  rw[Array.toList_push];exact m.ZoO ha (by simpa using h) hle
 have sB:∀(out:Array Keyed) ia ib,Mg ky a.toList b.toList out.toList ia ib->(h:ib<b.size)->(∀y,y∈a.toList.drop ia->ky b[ib]<=ky y)->Mg ky a.toList b.toList (out.push b[ib]).toList ia (ib+1):=λout ia ib m h hle=>by
  rw[Array.toList_push];exact m.stepB hb (by simpa using h) hle
 have bA:∀(out:Array Keyed) ia ib k,Mg ky a.toList b.toList out.toList ia ib->ia+k<=a.size->(∀i,(h:ia+i<a.size)->i<k->∀y,y∈b.toList.drop ib->ky a[ia+i]<=ky y)->Mg ky a.toList b.toList (out++a.extract ia (ia+k)).toList (ia+k) ib:=λout ia ib k m h hle=>by
  rw[Array.toList_append,exA2];exact m.ZoP ha k (by simpa using h) (λi hi hik=>hle i (by simpa using hi) hik)
 have bB:∀(out:Array Keyed) ia ib k,Mg ky a.toList b.toList out.toList ia ib->ib+k<=b.size->(∀i,(h:ib+i<b.size)->i<k->∀y,y∈a.toList.drop ia->ky b[ib+i]<=ky y)->Mg ky a.toList b.toList (out++b.extract ib (ib+k)).toList ia (ib+k):=λout ia ib k m h hle=>by
  rw[Array.toList_append,exB2];exact m.bulkB hb k (by simpa using h) (λi hi hik=>hle i (by simpa using hi) hik)
 have moA:∀i j,(hij:i<=j)->(h:j<a.size)->ky (a[i]'(by omega))<=ky a[j]:=λi j hij h=>hdA i (by omega) _ (by rw[List.mem_drop_iff_getElem];exact⟨j-i,by simp;omega,by simp;congr 1;omega⟩)
 have moB:∀i j,(hij:i<=j)->(h:j<b.size)->ky (b[i]'(by omega))<=ky b[j]:=λi j hij h=>hdB i (by omega) _ (by rw[List.mem_drop_iff_getElem];exact⟨j-i,by simp;omega,by simp;congr 1;omega⟩)
 refine Zt (λh1=>?_) (λh1=>Zt (λh2=>?_) (λh2=>?_))
 ·exact wpS_pure (hQ _ _ (hdone _ 0 1 m1 (by simp at h1⊢;omega)))
 ·exact wpS_pure (hQ _ _ (hlast _ 0 1 m1 (by simpa using h2)))
 ·have h1':b.size≠1:=λz=>h1 (by simp[z])
  have h2':a.size≠1:=λz=>h2 (by simp[z])
  refine wpS_bind (wpS_get ?_)
  refine wpS_bind (wpS_mono (Q:=λ(c:Option (Array Keyed)×Array Keyed×Nat×Nat×Nat) (st':SortSt)=>(∃g',st'=SortSt.mk' κ arr pd g' fl)/\∃res,c.1=some res/\Gd ky a.toList b.toList res.toList) (wpS_forRange (λ(t:Nat) (c:Option (Array Keyed)×Array Keyed×Nat×Nat×Nat) (st':SortSt)=>(∃g',st'=SortSt.mk' κ arr pd g' fl)/\c.1=none/\Mg ky a.toList b.toList c.2.1.toList c.2.2.1 c.2.2.2.1/\c.2.2.1+1<a.size/\c.2.2.2.1<b.size/\t<c.2.2.1+c.2.2.2.1) ?_ ?_ ⟨⟨g,rfl⟩,rfl,m1,by show 0+1<a.size;omega,by show 1<b.size;omega,by show 0<0+1;omega⟩) ?_)
  ·rintro t ⟨r,out,ia,ib,mg⟩ st' _ ht ⟨⟨g1,rfl⟩,e,m,hia,hib,hti⟩
   simp only at e m hia hib hti
   subst e
   refine wpS_bind (wpS_mono (Q:=λ(c:Option (Array Keyed)×Array Keyed×Nat×Nat×Nat×Nat) (st':SortSt)=>(∃g',st'=SortSt.mk' κ arr pd g' fl)/\((∃res,c.1=some res/\Gd ky a.toList b.toList res.toList)\/(c.1=none/\Mg ky a.toList b.toList c.2.1.toList c.2.2.1 c.2.2.2.1/\c.2.2.1+1<a.size/\c.2.2.2.1<b.size/\t<c.2.2.1+c.2.2.2.1))) (wpS_forRange (λ(u:Nat) (c:Option (Array Keyed)×Array Keyed×Nat×Nat×Nat×Nat) (st':SortSt)=>(∃g',st'=SortSt.mk' κ arr pd g' fl)/\c.1=none/\Mg ky a.toList b.toList c.2.1.toList c.2.2.1 c.2.2.2.1/\c.2.2.1+1<a.size/\c.2.2.2.1<b.size/\t<c.2.2.1+c.2.2.2.1) ?_ ?_ ⟨⟨g1,rfl⟩,rfl,m,hia,hib,hti⟩) ?_)
   ·rintro u ⟨r,out,ia,ib,ac,bc⟩ st' _ hu ⟨⟨g1,rfl⟩,e,m,hia,hib,hti⟩
    simp only at e m hia hib hti
    subst e
    refine wpS_bind (ZP hib ?_)
    refine wpS_bind (ZP (by omega:ia<a.size) ?_)
    refine wpS_bind (Zmp hc rfl (hPb _ _) (hPa _ _) ?_)
    refine Zt (λhv=>?_) (λhv=>?_)
    ·have hv:=of_decide_eq_true hv
     refine wpS_bind (ZP hib ?_)
     have m2:=sB _ _ _ m hib (λy hy=>Int.le_trans (Int.le_of_lt hv) (hdA ia (by omega) y hy))
     refine Zt (λh3=>?_) (λh3=>?_)
     ·exact wpS_pure ⟨⟨_,rfl⟩,.inl ⟨_,rfl,hdone _ _ _ m2 (by simp at h3⊢;omega)⟩⟩
     ·have h3':ib+1≠b.size:=λz=>h3 (by simp[z])
      refine Zt (λh4=>?_) (λh4=>?_)
      ·exact wpS_pure ⟨⟨_,rfl⟩,.inr ⟨rfl,m2,hia,by simp only;omega,by simp only;omega⟩⟩
      ·exact wpS_pure ⟨⟨_,rfl⟩,rfl,m2,hia,by simp only;omega,by simp only;omega⟩
    ·have hv:¬ ky b[ib]<ky a[ia]:=λz=>hv (decide_eq_true z)
     refine wpS_bind (ZP (by omega:ia<a.size) ?_)
     have m2:=sA _ _ _ m (by omega) (λy hy=>Int.le_trans (Int.not_lt.mp hv) (hdB ib hib y hy))
     refine Zt (λh3=>?_) (λh3=>?_)
     ·exact wpS_pure ⟨⟨_,rfl⟩,.inl ⟨_,rfl,hlast _ _ _ m2 (by simpa using h3)⟩⟩
     ·have h3':ia+1+1≠a.size:=λz=>h3 (by simp[z])
      refine Zt (λh4=>?_) (λh4=>?_)
      ·exact wpS_pure ⟨⟨_,rfl⟩,.inr ⟨rfl,m2,by simp only;omega,hib,by simp only;omega⟩⟩
      ·exact wpS_pure ⟨⟨_,rfl⟩,rfl,m2,by simp only;omega,hib,by simp only;omega⟩
   ·rintro⟨r,out,ia,ib,ac,bc⟩ st' ⟨hg,e,m,hia,hib,hti⟩
    exact⟨hg,.inr ⟨e,m,hia,hib,hti⟩⟩
   ·rintro⟨r,out,ia,ib,ac,bc⟩ st' ⟨⟨g2,rfl⟩,hor⟩
    rcases hor with⟨res,e,hgd⟩|⟨e,m,hia,hib,hti⟩
    ·simp only at e
     subst e
     exact wpS_pure ⟨⟨_,rfl⟩,res,rfl,hgd⟩
    ·simp only at e m hia hib hti
     subst e
     refine wpS_bind (wpS_lift (wpAny_rule ⟨rfl,?_⟩))
     refine wpS_bind (wpS_mono (Q:=λ(c:Option (Array Keyed)×Array Keyed×Nat×Nat×Nat×Nat×Nat) (st':SortSt)=>(∃g',st'=SortSt.mk' κ arr pd g' fl)/\((∃res,c.1=some res/\Gd ky a.toList b.toList res.toList)\/(c.1=none/\Mg ky a.toList b.toList c.2.1.toList c.2.2.1 c.2.2.2.1/\c.2.2.1+1<a.size/\c.2.2.2.1<b.size/\t+1<c.2.2.1+c.2.2.2.1))) (wpS_forRange (λ(u:Nat) (c:Option (Array Keyed)×Array Keyed×Nat×Nat×Nat×Nat×Nat) (st':SortSt)=>(∃g',st'=SortSt.mk' κ arr pd g' fl)/\c.1=none/\Mg ky a.toList b.toList c.2.1.toList c.2.2.1 c.2.2.2.1/\c.2.2.1+1<a.size/\c.2.2.2.1<b.size/\t+u<c.2.2.1+c.2.2.2.1) ?_ ?_ ⟨⟨g2,rfl⟩,rfl,m,hia,hib,hti⟩) ?_)
     ·rintro u c st' _ hu ⟨⟨g1,rfl⟩,e,m,hia,hib,hti⟩
      refine Zt (λ_=>?_) (λ_=>?_)
      all_goals
       refine wpS_bind (wpS_modify ?_)
       refine wpS_bind (ZP hib ?_)
       refine wpS_bind (ZcG (f:=λi=>!decide (ky b[c.2.2.2.1]<ky (a.getD (c.2.2.1+i) (Value.none,Value.none)))) hc rfl (hPb _ _) hPa (by omega) (by omega) (λi h=>by simp[Array.getD,h]) ?_ ?_)
       ·intro i j hij hj hfj
        simp only[Bool.not_eq_true',decide_eq_false_iff_not,Int.not_lt]at hfj⊢
        have:=moA (c.2.2.1+i) (c.2.2.1+j) (by omega) (by omega)
        simp only[Array.getD,(by omega:c.2.2.1+i<a.size),(by omega:c.2.2.1+j<a.size),dif_pos]at hfj⊢
        exact Int.le_trans this hfj
       ·intro k hk1 hk2 hk3
        have hA1:∀i,(h:c.2.2.1+i<a.size)->i<k->ky a[c.2.2.1+i]<=ky b[c.2.2.2.1]:=by
         intro i h hi
         have:=hk2 i hi
         simp only[Bool.not_eq_true',decide_eq_false_iff_not,Int.not_lt,Array.getD,h,dif_pos]at this
         exact this
        have hA2:(h:c.2.2.1+k<a.size)->ky b[c.2.2.2.1]<ky a[c.2.2.1+k]:=by
         intro h
         have:=hk3 k (Nat.le_refl _) (by omega)
         simp only[Bool.not_eq_false',decide_eq_true_eq,Array.getD,h,dif_pos]at this
         exact this
        have m2:=bA _ _ _ k m (by omega) (λi h hi y hy=>Int.le_trans (hA1 i h hi) (hdB _ hib y hy))
        refine Zt (λhk0=>Zt (λh3=>wpS_pure ⟨⟨_,rfl⟩,.inl ⟨_,rfl,hlast _ _ _ m2 (by simpa using h3)⟩⟩) (λh3=>Zt (λh4=>wpS_pure ⟨⟨_,rfl⟩,.inl ⟨_,rfl,hdone2 _ _ _ m2 (by simp at h4⊢;omega)⟩⟩) (λh4=>?_))) (λhk0=>?_)
        focus
         have h3':c.2.2.1+k+1≠a.size:=λz=>h3 (by simp[z])
         have h4':c.2.2.1+k≠a.size:=λz=>h4 (by simp[z])
         have m':=m2
         have hlt:c.2.2.1+k<a.size:=by omega
         have hlt2:c.2.2.1+k+1<a.size:=by omega
         have hx':=hA2 hlt
         have ht':t+u<c.2.2.1+k+c.2.2.2.1:=by omega
         have hd':=hdA _ hlt
         obtain⟨y,hy⟩:∃y,y=ky a[c.2.2.1+k]:=⟨_,rfl⟩
        rotate_left
        focus
         have hk0':k=0:=by omega
         subst hk0'
         have m':=m
         have hlt:c.2.2.1<a.size:=by omega
         have hlt2:c.2.2.1+1<a.size:=by omega
         have hx':=hA2 hlt
         have ht':t+u<c.2.2.1+c.2.2.2.1:=by omega
         have hd':=hdA _ hlt
         obtain⟨y,hy⟩:∃y,y=ky a[c.2.2.1]:=⟨_,rfl⟩
        all_goals
         refine wpS_bind (ZP hib ?_)
         have m3:=sB _ _ _ m' hib (λz hz=>Int.le_trans (Int.le_of_lt hx') (hd' z hz))
         refine Zt (λh5=>wpS_pure ⟨⟨_,rfl⟩,.inl ⟨_,rfl,hdone _ _ _ m3 (by simp at h5⊢;omega)⟩⟩) (λh5=>?_)
         have h5':c.2.2.2.1+1≠b.size:=λz=>h5 (by simp[z])
         refine wpS_bind (ZP hlt ?_)
         refine wpS_bind (ZcG (f:=λi=>decide (ky (b.getD (c.2.2.2.1+1+i) (Value.none,Value.none))<y)) hc rfl (hPa _ _) hPb (by omega) (by omega) (λi h=>by simp[Array.getD,h,hy]) ?_ ?_)
         ·intro i j hij hj hfj
          simp only[decide_eq_true_eq]at hfj⊢
          have:=moB (c.2.2.2.1+1+i) (c.2.2.2.1+1+j) (by omega) (by omega)
          simp only[Array.getD,(by omega:c.2.2.2.1+1+i<b.size),(by omega:c.2.2.2.1+1+j<b.size),dif_pos]at hfj⊢
          exact Int.lt_of_le_of_lt this hfj
         ·intro k2 q1 q2 q3
          have hB1:∀i,(h:c.2.2.2.1+1+i<b.size)->i<k2->ky b[c.2.2.2.1+1+i]<y:=by
           intro i h hi
           have:=q2 i hi
           simp only[decide_eq_true_eq,Array.getD,h,dif_pos]at this
           exact this
          have hB2:(h:c.2.2.2.1+1+k2<b.size)->y<=ky b[c.2.2.2.1+1+k2]:=by
           intro h
           have:=q3 k2 (Nat.le_refl _) (by omega)
           simp only[decide_eq_false_iff_not,Int.not_lt,Array.getD,h,dif_pos]at this
           exact this
          have m4:=bB _ _ _ k2 m3 (by omega) (λi h hi z hz=>Int.le_trans (Int.le_of_lt (hB1 i h hi)) (hy▸hd' z hz))
          refine Zt (λq0=>Zt (λh6=>wpS_pure ⟨⟨_,rfl⟩,.inl ⟨_,rfl,hdone _ _ _ m4 (by simp at h6⊢;omega)⟩⟩) (λh6=>?_)) (λq0=>?_)
          focus
           have h6':c.2.2.2.1+1+k2≠b.size:=λz=>h6 (by simp[z])
           have hl2:c.2.2.2.1+1+k2<b.size:=by omega
           have m5:=sA _ _ _ m4 hlt (λz hz=>Int.le_trans (hy▸hB2 hl2) (hdB _ hl2 z hz))
          rotate_left
          focus
           have q0':k2=0:=by omega
           subst q0'
           have hl2:c.2.2.2.1+1<b.size:=by omega
           have m5:=sA _ _ _ m3 hlt (λz hz=>Int.le_trans (hy▸hB2 hl2) (hdB _ hl2 z hz))
          all_goals
           refine wpS_bind (ZP hlt ?_)
           refine Zt (λh7=>wpS_pure ⟨⟨_,rfl⟩,.inl ⟨_,rfl,hlast _ _ _ m5 (by simpa using h7)⟩⟩) (λh7=>?_)
           simp only[beq_iff_eq]at h7
           refine Zt (λh8=>wpS_pure ⟨⟨_,rfl⟩,.inr ⟨rfl,m5,by simp only;omega,hl2,by simp only;omega⟩⟩) (λh8=>wpS_pure ⟨⟨_,rfl⟩,rfl,m5,by simp only;omega,hl2,by simp only;omega⟩)
     ·rintro⟨r,out,ia,ib,mg,ac,bc⟩ st' ⟨hg,e,m,hia,hib,hti⟩
      exact⟨hg,.inr ⟨e,m,hia,hib,by simp only at hti⊢;omega⟩⟩
     ·rintro⟨r,out,ia,ib,mg,ac,bc⟩ st' ⟨⟨g3,rfl⟩,hor⟩
      rcases hor with⟨res,e,hgd⟩|⟨e,m,hia,hib,hti⟩
      ·simp only at e
       subst e
       exact wpS_pure ⟨⟨_,rfl⟩,res,rfl,hgd⟩
      ·simp only at e m hia hib hti
       subst e
       exact wpS_bind (wpS_modify (wpS_pure ⟨⟨_,rfl⟩,rfl,m,hia,hib,hti⟩))
  ·rintro⟨r,out,ia,ib,mg⟩ st' ⟨_,e,m,hia,hib,hti⟩
   simp only at hia hib hti
   omega
  ·rintro⟨r,out,ia,ib,mg⟩ st' ⟨⟨g2,rfl⟩,res,e,hgd⟩
   simp only at e
   subst e
   exact wpS_pure (hQ res g2 hgd)
end
section
variable {ky:Keyed->Int}
theorem Zek {l:List Keyed}:Srt (λx=>- ky x) l.reverse↔Srt ky l:=by
 unfold Srt
 rw[List.pairwise_reverse]
 constructor
 ·exact λh=>h.imp λz=>by simp only at z;omega
 ·exact λh=>h.imp λz=>by simp only;omega
theorem ZnP {a b l:List Keyed} (h:Gd (λx=>- ky x) a.reverse b.reverse l):Gd ky a b l.reverse:=by
 refine⟨(List.reverse_perm l).trans (h.1.trans (List.Perm.append (List.reverse_perm a) (List.reverse_perm b))),?_⟩
 rw[<-Zek,List.reverse_reverse]
 exact h.2
theorem Zky {a:Array Keyed}{na:Nat} (h:na<=a.size):a.toList.reverse.drop (a.size-na)=(a.toList.take na).reverse:=by
 rw[List.drop_reverse]
 congr 2
 simp;omega
theorem rmem {a:Array Keyed}{na:Nat} (h:na<=a.size) {y:Keyed} (hy:y∈a.toList.reverse.drop (a.size-na)):∃i,∃hi:i<a.size,i<na/\y=a[i]:=by
 rw[Zky h,List.mem_reverse,List.mem_take_iff_getElem]at hy
 obtain⟨i,hi,e⟩:=hy
 exact⟨i,by simp at hi;omega,by simp at hi;omega,by simpa using e.symm⟩
noncomputable def MM (ky:Keyed->Int) (a b out:Array Keyed) (na nb:Nat):Prop:=Mg (λx=>- ky x) a.toList.reverse b.toList.reverse out.toList (a.size-na) (b.size-nb)
variable {a b out:Array Keyed}{na nb:Nat}
theorem MM.swap (h:MM ky a b out na nb):MM ky b a out nb na:=Mg.swap h
theorem MM.sA (ha:Srt ky a.toList) (m:MM ky a b out na nb) (h1:1<=na) (h2:na<=a.size) (hb:nb<=b.size) (hle:∀i,(h:i<b.size)->i<nb->ky b[i]<=ky (a[na-1]'(by omega))):MM ky a b (out.push (a[na-1]'(by omega))) (na-1) nb:=by
 have hl:a.size-na<a.toList.reverse.length:=by simp;omega
 have e:a.toList.reverse[a.size-na]=a[na-1]'(by omega):=by
  rw[List.getElem_reverse]
  simp only[Array.length_toList,Array.getElem_toList]
  congr 1;omega
 have:=Mg.ZoO (Zek.mpr ha) m hl (by
  intro y hy
  obtain⟨i,hi,hin,rfl⟩:=rmem hb hy
  rw[e]
  have:=hle i hi hin
  show-ky _<=- ky _;omega)
 rw[e]at this
 unfold MM
 rw[Array.toList_push,(by omega:a.size-(na-1)=a.size-na+1)]
 exact this
theorem MM.bA (ha:Srt ky a.toList) (m:MM ky a b out na nb) {at_:Nat} (h1:at_<=na) (h2:na<=a.size) (hb:nb<=b.size) (hle:∀j,(hj:j<a.size)->at_<=j->j<na->∀i,(h:i<b.size)->i<nb->ky b[i]<=ky a[j]):MM ky a b (out++(a.extract at_ na).reverse) at_ nb:=by
 have:=Mg.ZoP (Zek.mpr ha) m (na-at_) (by simp;omega) (by
  intro i hi hik y hy
  obtain⟨j,hj,hjn,rfl⟩:=rmem hb hy
  have e:a.toList.reverse[a.size-na+i]=a[na-1-i]'(by omega):=by
   rw[List.getElem_reverse]
   simp only[Array.length_toList,Array.getElem_toList]
   congr 1;omega
  rw[e]
  have:=hle (na-1-i) (by omega) (by omega) (by omega) j hj hjn
  show-ky _<=- ky _;omega)
 unfold MM
 rw[Array.toList_append,(by omega:a.size-at_=a.size-na+(na-at_))]
 have e2:(a.extract at_ na).reverse.toList=(a.toList.reverse.drop (a.size-na)).take (na-at_):=by
  rw[Zky h2,List.take_reverse]
  simp only[Array.toList_reverse,Array.toList_extract,List.extract_eq_drop_take,List.length_take,Array.length_toList]
  rw[List.drop_take]
  congr 2
  ·omega
  ·congr 1;omega
 rw[e2]
 exact this
theorem MM.ZoQ (hb:Srt ky b.toList) (m:MM ky a b out 0 nb) (hn:nb<=b.size):Gd ky a.toList b.toList (a.extract 0 0++b.extract 0 nb++out.reverse).toList:=by
 have:=ZnP (Mg.ZoQ (Zek.mpr hb) m (by simp))
 rw[Zky hn,List.reverse_append,List.reverse_reverse]at this
 simpa using this
theorem MM.Zmq (ha:Srt ky a.toList) (m:MM ky a b out na 0) (hn:na<=a.size):Gd ky a.toList b.toList (a.extract 0 na++b.extract 0 0++out.reverse).toList:=by
 have:=ZnP (Mg.Zmq (Zek.mpr ha) m (by simp))
 rw[Zky hn,List.reverse_append,List.reverse_reverse]at this
 simpa using this
theorem MM.firstB (ha:Srt ky a.toList) (hb:Srt ky b.toList) (m:MM ky a b out na 1) (hn:na<=a.size) (hb1:1<=b.size) (h0:∀i,(h:i<a.size)->ky b[0]<=ky a[i]):Gd ky a.toList b.toList (b.extract 0 1++a.extract 0 na++out.reverse).toList:=by
 have:=Mg.lastA (Zek.mpr hb) (Zek.mpr ha) (Mg.swap m) (by
  intro y hy z hz
  obtain⟨i,hi,_,rfl⟩:=rmem hn hy
  obtain⟨j,hj,hj1,rfl⟩:=rmem hb1 hz
  have hj0:j=0:=by omega
  subst hj0
  have:=h0 i hi
  show-ky _<=- ky _;omega)
 have:=ZnP ⟨this.1.trans List.perm_append_comm,this.2⟩
 rw[Zky hn,Zky hb1,List.reverse_append,List.reverse_append,List.reverse_reverse,List.reverse_reverse,<-List.append_assoc]at this
 simpa using this
variable {prog:Program}{w:World}{A:Around}{E:Value->Shared->Prop}{s:Shared}{κ:SortKind}{P:Keyed->Prop}
noncomputable def ZrS:Array Keyed->Array Keyed->StateT SortSt Sem (Array Keyed):=sortPriv% PySem.Builtin.mergeHi
theorem ZrT {a:Array Keyed} (ha:Srt ky a.toList) {i j:Nat} (hij:i<=j) (h:j<a.size):ky (a[i]'(by omega))<=ky a[j]:=by
 have:=Zi3 (ia:=i) ha (by simp;omega) (y:=a[j]) (by rw[List.mem_drop_iff_getElem];exact⟨j-i,by simp;omega,by simp;congr 1;omega⟩)
 simpa using this
theorem ZnQ {arr:Array Keyed}{pd:Array (Nat×Nat×Nat)}{g:Nat}{fl:Option Value}{Q:Array Keyed->SortSt->Prop}
  (hc:Zfc prog w A s κ P ky) (hPa:∀i,(h:i<a.size)->P a[i]) (hPb:∀i,(h:i<b.size)->P b[i]) (ha:Srt ky a.toList) (hb:Srt ky b.toList)
  (ha0:0<a.size) (hb0:0<b.size) (h0:ky b[0]<=ky a[0]) (hl:∀j,(h:j<b.size)->ky b[j]<=ky (a[a.size-1]'(by omega)))
  (hQ:∀res g',Gd ky a.toList b.toList res.toList->Q res (SortSt.mk' κ arr pd g' fl)) :
  wpS (model prog w) A E s (ZrS a b) Q (SortSt.mk' κ arr pd g fl):=by
 refine wpS_bind (wpS_lift (wpAny_rule ⟨rfl,?_⟩))
 refine wpS_bind (ZP (by omega:a.size-1<a.size) ?_)
 have moA:∀i j,(hij:i<=j)->(h:j<a.size)->ky (a[i]'(by omega))<=ky a[j]:=λi j hij h=>ZrT ha hij h
 have moB:∀i j,(hij:i<=j)->(h:j<b.size)->ky (b[i]'(by omega))<=ky b[j]:=λi j hij h=>ZrT hb hij h
 have h0':∀i,(h:i<a.size)->ky b[0]<=ky a[i]:=λi h=>Int.le_trans h0 (moA 0 i (by omega) h)
 have m0:MM ky a b #[] a.size b.size:=by
  refine⟨by simp,List.Pairwise.nil,λx hx=>by cases hx⟩
 have m1:MM ky a b #[a[a.size-1]] (a.size-1) b.size:=m0.sA ha ha0 (Nat.le_refl _) (Nat.le_refl _) (λi h _=>hl i h)
 have dA:∀(out:Array Keyed) na nb,MM ky a b out na nb->nb<=b.size->na=0->Gd ky a.toList b.toList (a.extract 0 na++b.extract 0 nb++out.reverse).toList:=by
  rintro out na nb m h rfl;exact m.ZoQ hb h
 have dB:∀(out:Array Keyed) na nb,MM ky a b out na nb->na<=a.size->nb=0->Gd ky a.toList b.toList (a.extract 0 na++b.extract 0 nb++out.reverse).toList:=by
  rintro out na nb m h rfl;exact m.Zmq ha h
 have fB:∀(out:Array Keyed) na nb,MM ky a b out na nb->na<=a.size->nb=1->Gd ky a.toList b.toList (b.extract 0 nb++a.extract 0 na++out.reverse).toList:=by
  rintro out na nb m h rfl;exact m.firstB ha hb h hb0 h0'
 refine Zt (λh1=>?_) (λh1=>Zt (λh2=>?_) (λh2=>?_))
 ·exact wpS_pure (hQ _ _ (dA _ _ _ m1 (Nat.le_refl _) (by simpa using h1)))
 ·exact wpS_pure (hQ _ _ (fB _ _ _ m1 (by omega) (by simpa using h2)))
 ·simp only[beq_iff_eq]at h1 h2
  refine wpS_bind (wpS_get ?_)
  refine wpS_bind (wpS_mono (Q:=λ(c:Option (Array Keyed)×Nat×Nat×Array Keyed×Nat) (st':SortSt)=>(∃g',st'=SortSt.mk' κ arr pd g' fl)/\∃res,c.1=some res/\Gd ky a.toList b.toList res.toList) (wpS_forRange (λ(t:Nat) (c:Option (Array Keyed)×Nat×Nat×Array Keyed×Nat) (st':SortSt)=>(∃g',st'=SortSt.mk' κ arr pd g' fl)/\c.1=none/\MM ky a b c.2.2.2.1 c.2.1 c.2.2.1/\(1<=c.2.1/\c.2.1<=a.size)/\(2<=c.2.2.1/\c.2.2.1<=b.size)/\t+c.2.1+c.2.2.1<a.size+b.size) ?_ ?_ ⟨⟨g,rfl⟩,rfl,m1,by simp only;omega,by simp only;omega,by simp only;omega⟩) ?_)
  ·rintro t c0 st' _ ht ⟨⟨g1,rfl⟩,e,m,hia,hib,hti⟩
   refine wpS_bind (wpS_mono (Q:=λ(c:Option (Array Keyed)×Nat×Nat×Array Keyed×Nat×Nat) (st':SortSt)=>(∃g',st'=SortSt.mk' κ arr pd g' fl)/\((∃res,c.1=some res/\Gd ky a.toList b.toList res.toList)\/(c.1=none/\MM ky a b c.2.2.2.1 c.2.1 c.2.2.1/\(1<=c.2.1/\c.2.1<=a.size)/\(2<=c.2.2.1/\c.2.2.1<=b.size)/\t+c.2.1+c.2.2.1<a.size+b.size))) (wpS_forRange (λ(u:Nat) (c:Option (Array Keyed)×Nat×Nat×Array Keyed×Nat×Nat) (st':SortSt)=>(∃g',st'=SortSt.mk' κ arr pd g' fl)/\c.1=none/\MM ky a b c.2.2.2.1 c.2.1 c.2.2.1/\(1<=c.2.1/\c.2.1<=a.size)/\(2<=c.2.2.1/\c.2.2.1<=b.size)/\t+c.2.1+c.2.2.1<a.size+b.size) ?_ ?_ ⟨⟨g1,rfl⟩,rfl,m,hia,hib,hti⟩) ?_)
   ·rintro u c st' _ hu ⟨⟨g1,rfl⟩,e,m,hia,hib,hti⟩
    have l1:c.2.1-1<a.size:=by omega
    have l2:c.2.2.1-1<b.size:=by omega
    refine wpS_bind (ZP l2 ?_)
    refine wpS_bind (ZP l1 ?_)
    refine wpS_bind (Zmp hc rfl (hPb _ _) (hPa _ _) ?_)
    refine Zt (λhv=>?_) (λhv=>?_)
    ·have hv:=of_decide_eq_true hv
     refine wpS_bind (ZP l1 ?_)
     have m2:=m.sA ha hia.1 hia.2 hib.2 (λi h hi=>Int.le_trans (moB i (c.2.2.1-1) (by omega) l2) (Int.le_of_lt hv))
     refine Zt (λh3=>?_) (λh3=>?_)
     ·exact wpS_pure ⟨⟨_,rfl⟩,.inl ⟨_,rfl,dA _ _ _ m2 hib.2 (by simpa using h3)⟩⟩
     ·simp only[beq_iff_eq]at h3
      refine Zt (λh4=>?_) (λh4=>?_)
      ·exact wpS_pure ⟨⟨_,rfl⟩,.inr ⟨rfl,m2,by simp only;omega,hib,by simp only;omega⟩⟩
      ·exact wpS_pure ⟨⟨_,rfl⟩,rfl,m2,by simp only;omega,hib,by simp only;omega⟩
    ·have hv:¬ ky b[c.2.2.1-1]<ky a[c.2.1-1]:=λz=>hv (decide_eq_true z)
     refine wpS_bind (ZP l2 ?_)
     have m2:=(m.swap.sA hb (by omega) hib.2 hia.2 (λi h hi=>Int.le_trans (moA i (c.2.1-1) (by omega) l1) (Int.not_lt.mp hv))).swap
     refine Zt (λh3=>?_) (λh3=>?_)
     ·exact wpS_pure ⟨⟨_,rfl⟩,.inl ⟨_,rfl,fB _ _ _ m2 hia.2 (by simpa using h3)⟩⟩
     ·simp only[beq_iff_eq]at h3
      refine Zt (λh4=>?_) (λh4=>?_)
      ·exact wpS_pure ⟨⟨_,rfl⟩,.inr ⟨rfl,m2,hia,by simp only;omega,by simp only;omega⟩⟩
      ·exact wpS_pure ⟨⟨_,rfl⟩,rfl,m2,hia,by simp only;omega,by simp only;omega⟩
   ·rintro c st' ⟨hg,e,m,hia,hib,hti⟩
    exact⟨hg,.inr ⟨e,m,hia,hib,hti⟩⟩
   ·rintro⟨r,na,nb,out,ac,bc⟩ st' ⟨⟨g2,rfl⟩,hor⟩
    rcases hor with⟨res,e,hgd⟩|⟨e,m,hia,hib,hti⟩
    ·simp only at e
     subst e
     exact wpS_pure ⟨⟨_,rfl⟩,res,rfl,hgd⟩
    ·simp only at e m hia hib hti
     subst e
     refine wpS_bind (wpS_lift (wpAny_rule ⟨rfl,?_⟩))
     refine wpS_bind (wpS_mono (Q:=λ(c:Option (Array Keyed)×Nat×Nat×Array Keyed×Nat×Nat×Nat) (st':SortSt)=>(∃g',st'=SortSt.mk' κ arr pd g' fl)/\((∃res,c.1=some res/\Gd ky a.toList b.toList res.toList)\/(c.1=none/\MM ky a b c.2.2.2.1 c.2.1 c.2.2.1/\(1<=c.2.1/\c.2.1<=a.size)/\(2<=c.2.2.1/\c.2.2.1<=b.size)/\t+1+c.2.1+c.2.2.1<a.size+b.size))) (wpS_forRange (λ(u:Nat) (c:Option (Array Keyed)×Nat×Nat×Array Keyed×Nat×Nat×Nat) (st':SortSt)=>(∃g',st'=SortSt.mk' κ arr pd g' fl)/\c.1=none/\MM ky a b c.2.2.2.1 c.2.1 c.2.2.1/\(1<=c.2.1/\c.2.1<=a.size)/\(2<=c.2.2.1/\c.2.2.1<=b.size)/\t+u+c.2.1+c.2.2.1<a.size+b.size) ?_ ?_ ⟨⟨g2,rfl⟩,rfl,m,hia,hib,hti⟩) ?_)
     ·rintro u c st' _ hu ⟨⟨g1,rfl⟩,e,m,hia,hib,hti⟩
      have l2:c.2.2.1-1<b.size:=by omega
      refine Zt (λ_=>?_) (λ_=>?_)
      all_goals
       refine wpS_bind (wpS_modify ?_)
       refine wpS_bind (ZP l2 ?_)
       refine wpS_bind (ZcG (f:=λi=>!decide (ky b[c.2.2.1-1]<ky (a.getD (0+i) (Value.none,Value.none)))) hc rfl (hPb _ _) hPa (by omega) (by omega) (λi h=>by simp only[Array.getD,h,dif_pos];simp) ?_ ?_)
       ·intro i j hij hj hfj
        simp only[Bool.not_eq_true',decide_eq_false_iff_not,Int.not_lt]at hfj⊢
        have:=moA (0+i) (0+j) (by omega) (by omega)
        simp only[Array.getD,(by omega:0+i<a.size),(by omega:0+j<a.size),dif_pos]at hfj⊢
        exact Int.le_trans this hfj
       ·intro k hk1 hk2 hk3
        have hA1:∀i,(h:i<a.size)->i<k->ky a[i]<=ky b[c.2.2.1-1]:=by
         intro i h hi
         have:=hk2 i hi
         simp only[Bool.not_eq_true',decide_eq_false_iff_not,Int.not_lt,Array.getD,Nat.zero_add,h,dif_pos]at this
         exact this
        have hA2:∀i,(h:i<a.size)->k<=i->i<c.2.1->ky b[c.2.2.1-1]<ky a[i]:=by
         intro i h hi1 hi2
         have:=hk3 i hi1 hi2
         simp only[Bool.not_eq_false',decide_eq_true_eq,Array.getD,Nat.zero_add,h,dif_pos]at this
         exact this
        have m2:=m.bA ha hk1 hia.2 hib.2 (λj hj h1 h2 i h hi=>Int.le_trans (moB i (c.2.2.1-1) (by omega) l2) (Int.le_of_lt (hA2 j hj h1 h2)))
        refine Zt (λhk0=>Zt (λh3=>wpS_pure ⟨⟨_,rfl⟩,.inl ⟨_,rfl,dA _ _ _ m2 hib.2 (by simpa using h3)⟩⟩) (λh3=>?_)) (λhk0=>?_)
        focus
         simp only[beq_iff_eq]at h3
         have m':=m2
         have n1:1<=k:=by omega
         have n2:k<=a.size:=by omega
         have l1:k-1<a.size:=by omega
         have hx':∀i,(h:i<a.size)->i<k->ky a[i]<=ky b[c.2.2.1-1]:=hA1
         have ht':t+u+k+c.2.2.1<a.size+b.size:=by omega
         obtain⟨y,hy⟩:∃y,y=ky a[k-1]:=⟨_,rfl⟩
         have hy2:∀i,(h:i<a.size)->i<k->ky a[i]<=y:=λi h hi=>hy▸moA i (k-1) (by omega) l1
        rotate_left
        focus
         have hk0':k=c.2.1:=by omega
         subst hk0'
         have m':=m
         have n1:1<=c.2.1:=by omega
         have n2:c.2.1<=a.size:=by omega
         have l1:c.2.1-1<a.size:=by omega
         have hx':∀i,(h:i<a.size)->i<c.2.1->ky a[i]<=ky b[c.2.2.1-1]:=hA1
         have ht':t+u+c.2.1+c.2.2.1<a.size+b.size:=by omega
         obtain⟨y,hy⟩:∃y,y=ky a[c.2.1-1]:=⟨_,rfl⟩
         have hy2:∀i,(h:i<a.size)->i<c.2.1->ky a[i]<=y:=λi h hi=>hy▸moA i (c.2.1-1) (by omega) l1
        all_goals
         refine wpS_bind (ZP l2 ?_)
         have m3:=(m'.swap.sA hb (by omega) hib.2 n2 hx').swap
         refine Zt (λh5=>wpS_pure ⟨⟨_,rfl⟩,.inl ⟨_,rfl,fB _ _ _ m3 n2 (by simpa using h5)⟩⟩) (λh5=>?_)
         simp only[beq_iff_eq]at h5
         refine wpS_bind (ZP l1 ?_)
         refine wpS_bind (ZcG (f:=λi=>decide (ky (b.getD (0+i) (Value.none,Value.none))<y)) hc rfl (hPa _ _) hPb (by omega) (by omega) (λi h=>by simp only[Array.getD,h,dif_pos,hy];simp) ?_ ?_)
         ·intro i j hij hj hfj
          simp only[decide_eq_true_eq]at hfj⊢
          have:=moB (0+i) (0+j) (by omega) (by omega)
          simp only[Array.getD,(by omega:0+i<b.size),(by omega:0+j<b.size),dif_pos]at hfj⊢
          exact Int.lt_of_le_of_lt this hfj
         ·intro k2 q1 q2 q3
          have hB1:∀i,(h:i<b.size)->i<k2->ky b[i]<y:=by
           intro i h hi
           have:=q2 i hi
           simp only[decide_eq_true_eq,Array.getD,Nat.zero_add,h,dif_pos]at this
           exact this
          have hB2:∀i,(h:i<b.size)->k2<=i->i<c.2.2.1-1->y<=ky b[i]:=by
           intro i h hi1 hi2
           have:=q3 i hi1 hi2
           simp only[decide_eq_false_iff_not,Int.not_lt,Array.getD,Nat.zero_add,h,dif_pos]at this
           exact this
          have m4:=(m3.swap.bA hb q1 (by omega) n2 (λj hj h1 h2 i h hi=>Int.le_trans (hy2 i h hi) (hB2 j hj h1 h2))).swap
          refine Zt (λq0=>Zt (λh6=>wpS_pure ⟨⟨_,rfl⟩,.inl ⟨_,rfl,fB _ _ _ m4 n2 (by simpa using h6)⟩⟩) (λh6=>Zt (λh7=>wpS_pure ⟨⟨_,rfl⟩,.inl ⟨_,rfl,dB _ _ _ m4 n2 (by simpa using h7)⟩⟩) (λh7=>?_))) (λq0=>?_)
          focus
           simp only[beq_iff_eq]at h6 h7
           have hl2:2<=k2/\k2<=b.size:=by omega
           have m5:=m4.sA ha n1 n2 hl2.2 (λi h hi=>Int.le_of_lt (hy▸hB1 i h hi))
           have hlt:k2+1<=c.2.2.1:=by omega
          rotate_left
          focus
           have q0':k2=c.2.2.1-1:=by omega
           subst q0'
           have hl2:2<=c.2.2.1-1/\c.2.2.1-1<=b.size:=by omega
           have m5:=m3.sA ha n1 n2 hl2.2 (λi h hi=>Int.le_of_lt (hy▸hB1 i h hi))
           have hlt:c.2.2.1-1+1<=c.2.2.1:=by omega
          all_goals
           refine wpS_bind (ZP l1 ?_)
           refine Zt (λh8=>wpS_pure ⟨⟨_,rfl⟩,.inl ⟨_,rfl,dA _ _ _ m5 hl2.2 (by simpa using h8)⟩⟩) (λh8=>?_)
           simp only[beq_iff_eq]at h8
           refine Zt (λh9=>wpS_pure ⟨⟨_,rfl⟩,.inr ⟨rfl,m5,by simp only;omega,hl2,by simp only;omega⟩⟩) (λh9=>wpS_pure ⟨⟨_,rfl⟩,rfl,m5,by simp only;omega,hl2,by simp only;omega⟩)
     ·rintro c st' ⟨hg,e,m,hia,hib,hti⟩
      exact⟨hg,.inr ⟨e,m,hia,hib,by omega⟩⟩
     ·rintro⟨r,na,nb,out,mg,ac,bc⟩ st' ⟨⟨g3,rfl⟩,hor⟩
      rcases hor with⟨res,e,hgd⟩|⟨e,m,hia,hib,hti⟩
      ·simp only at e
       subst e
       exact wpS_pure ⟨⟨_,rfl⟩,res,rfl,hgd⟩
      ·simp only at e m hia hib hti
       subst e
       exact wpS_bind (wpS_modify (wpS_pure ⟨⟨_,rfl⟩,rfl,m,hia,hib,by simp only;omega⟩))
  ·rintro c st' ⟨_,e,m,hia,hib,hti⟩
   omega
  ·rintro⟨r,na,nb,out,mg⟩ st' ⟨⟨g2,rfl⟩,res,e,hgd⟩
   simp only at e
   subst e
   exact wpS_pure (hQ res g2 hgd)
end
section
variable {ky:Keyed->Int}
noncomputable def kp (ky:Keyed->Int) (a:Array Keyed) (i:Nat):Int:=ky (a.getD i (Value.none,Value.none))
theorem Zi4 {a:Array Keyed}{i:Nat} (h:i<a.size):kp ky a i=ky a[i]:=by unfold kp;simp[Array.getD,h]
theorem ZdV {a b:Array Keyed}{i j:Nat} (h:a[i]?=b[j]?):kp ky a i=kp ky b j:=by
 unfold kp;rw[Array.getD_eq_getD_getElem?,Array.getD_eq_getD_getElem?,h]
noncomputable def SoR (ky:Keyed->Int) (a:Array Keyed) (l r:Nat):Prop:=∀i j,l<=i->i<=j->j<r->kp ky a i<=kp ky a j
noncomputable def DeR (ky:Keyed->Int) (a:Array Keyed) (l r:Nat):Prop:=∀i j,l<=i->i<=j->j<r->kp ky a j<=kp ky a i
theorem SoR.next {a:Array Keyed}{l r:Nat} (h:SoR ky a l r) (hr:l<r) (h2:kp ky a (r-1)<=kp ky a r):SoR ky a l (r+1):=by
 intro i j hi hij hj
 by_cases e:j=r
 ·subst e
  by_cases e2:i=j
  ·rw[e2];exact Int.le_refl _
  ·exact Int.le_trans (h i (j-1) hi (by omega) (by omega)) h2
 ·exact h i j hi hij (by omega)
theorem DeR.next {a:Array Keyed}{l r:Nat} (h:DeR ky a l r) (hr:l<r) (h2:kp ky a r<=kp ky a (r-1)):DeR ky a l (r+1):=by
 intro i j hi hij hj
 by_cases e:j=r
 ·subst e
  by_cases e2:i=j
  ·rw[e2];exact Int.le_refl _
  ·exact Int.le_trans h2 (h i (j-1) hi (by omega) (by omega))
 ·exact h i j hi hij (by omega)
theorem SoR.congr {a a':Array Keyed}{l r:Nat} (h:SoR ky a l r) (e:∀i,l<=i->i<r->kp ky a' i=kp ky a i):SoR ky a' l r:=by
 intro i j hi hij hj
 rw[e i hi (by omega),e j (by omega) hj]
 exact h i j hi hij hj
theorem DeR.congr {a a':Array Keyed}{l r:Nat} (h:DeR ky a l r) (e:∀i,l<=i->i<r->kp ky a' i=kp ky a i):DeR ky a' l r:=by
 intro i j hi hij hj
 rw[e i hi (by omega),e j (by omega) hj]
 exact h i j hi hij hj
theorem Zht {a:Array Keyed}{i j:Nat} (hj:j<=a.size) (x:Nat):kp ky (mirror a i j ((j-i) / 2)) x=if i<=x/\x<j then kp ky a (i+j-1-x)else kp ky a x:=by
 have e:=getElem?_mirror_all (xs:=a) (i:=i) hj x
 by_cases h:i<=x/\x<j
 ·rw[if_pos h]at e⊢;exact ZdV e
 ·rw[if_neg h]at e⊢;exact ZdV e
theorem Zel {a:Array Keyed}{i j:Nat} (hj:j<=a.size) (heq:∀x,i<=x->x<j->kp ky a x=kp ky a (j-1)) (x:Nat):kp ky (mirror a i j ((j-i) / 2)) x=kp ky a x:=by
 rw[Zht hj]
 split
 ·rw[heq _ (by omega) (by omega),heq x (by omega) (by omega)]
 ·rfl
theorem ZrU {a:Array Keyed}{src d:Nat} (hs:src<a.size) (hd:d<=src) (x:Nat):kp ky (bubble a src d) x=if x=src-d then kp ky a src else if src-d<x/\x<=src then kp ky a (x-1)else kp ky a x:=by
 have e:=getElem?_bubble hs d hd x
 by_cases h1:x=src-d
 ·rw[if_pos h1]at e⊢;exact ZdV e
 ·rw[if_neg h1]at e⊢
  by_cases h2:src-d<x/\x<=src
  ·rw[if_pos h2]at e⊢;exact ZdV e
  ·rw[if_neg h2]at e⊢;exact ZdV e
structure Chg (a a':Array Keyed) (l r:Nat):Prop where
 perm:a'.Perm a
 same:∀i,i<l\/r<=i->a'[i]?=a[i]?
theorem Chg.refl (a:Array Keyed) (l r:Nat):Chg a a l r:=⟨Array.Perm.refl _,λ_ _=>rfl⟩
theorem Chg.trans {a b c:Array Keyed}{l r:Nat} (h1:Chg a b l r) (h2:Chg b c l r):Chg a c l r:=⟨h2.perm.trans h1.perm,λi h=>(h2.same i h).trans (h1.same i h)⟩
theorem Chg.wide {a b:Array Keyed}{l r l' r':Nat} (h:Chg a b l r) (h1:l'<=l) (h2:r<=r'):Chg a b l' r':=⟨h.perm,λi hi=>h.same i (by omega)⟩
theorem Chg.size {a b:Array Keyed}{l r:Nat} (h:Chg a b l r):b.size=a.size:=by
 have:=(Array.perm_iff_toList_perm.mp h.perm).length_eq;simpa using this
theorem Chg.kp {a b:Array Keyed}{l r:Nat} (h:Chg a b l r) {i:Nat} (hi:i<l\/r<=i):kp ky b i=kp ky a i:=ZdV (h.same i hi)
theorem Zem (a:Array Keyed) {i j:Nat} (hj:j<=a.size):Chg a (mirror a i j ((j-i) / 2)) i j:=by
 refine⟨mirror_perm a i j _,λk hk=>?_⟩
 rw[getElem?_mirror_all hj,if_neg (by omega)]
theorem ZtH (a:Array Keyed) {src d:Nat} (hs:src<a.size) (hd:d<=src):Chg a (bubble a src d) (src-d) (src+1):=by
 refine⟨bubble_perm a src d,λk hk=>?_⟩
 rw[getElem?_bubble hs d hd,if_neg (by omega),if_neg (by omega)]
variable {prog:Program}{w:World}{A:Around}{E:Value->Shared->Prop}{s:Shared}{κ:SortKind}{P:Keyed->Prop}
noncomputable def AllP (P:Keyed->Prop) (a:Array Keyed):Prop:=∀x,x∈a->P x
theorem AllP.at {a:Array Keyed} (h:AllP P a) (i:Nat) (hi:i<a.size):P a[i]:=h _ (Array.getElem_mem hi)
theorem AllP.perm {a b:Array Keyed} (h:AllP P a) (e:b.Perm a):AllP P b:=λx hx=>h x ((Array.Perm.mem_iff e).mp hx)
theorem ZgT (hc:Zfc prog w A s κ P ky) {a:Array Keyed}{pd:Array (Nat×Nat×Nat)}{g:Nat}{fl:Option Value} (hP:AllP P a) {i j:Nat}{Q:Option Bool->SortSt->Prop} (hi:i<a.size) (hj:j<a.size) (h:Q (some (decide (kp ky a i<kp ky a j))) (SortSt.mk' κ a pd g fl)):wpS (model prog w) A E s (ltAt' i j) Q (SortSt.mk' κ a pd g fl):=by
 rw[ltAt'_eq]
 refine wpS_bind (wpS_get ?_)
 refine wpS_bind (ZP hi ?_)
 refine wpS_bind (ZP hj ?_)
 rw[Zi4 hi,Zi4 hj]at h
 exact Zmp hc rfl (hP.at _ hi) (hP.at _ hj) h
theorem Zi5 {a:Array Keyed}{pd:Array (Nat×Nat×Nat)}{g:Nat}{fl:Option Value}{i j:Nat}{Q:Unit->SortSt->Prop} (h:Q () (SortSt.mk' κ (mirror a i j ((j-i) / 2)) pd g fl)):wpS (model prog w) A E s (reverseSlice' i j) Q (SortSt.mk' κ a pd g fl):=wpS_reverse h
theorem Zmr (hc:Zfc prog w A s κ P ky) {a:Array Keyed}{pd:Array (Nat×Nat×Nat)}{g:Nat}{fl:Option Value} (hP:AllP P a) {lo nrem:Nat}{Q:Option Nat->SortSt->Prop} (hn:1<=nrem) (hs:lo+nrem<=a.size)
  (hQ:∀m a',1<=m->m<=nrem->Chg a a' lo (lo+nrem)->SoR ky a' lo (lo+m)->Q (some m) (SortSt.mk' κ a' pd g fl)):wpS (model prog w) A E s (countRun' lo nrem) Q (SortSt.mk' κ a pd g fl):=by
 have asc:∀(a:Array Keyed),AllP P a->lo+nrem<=a.size->∀n,1<=n->n<=nrem->SoR ky a lo (lo+n)->∀(body:Nat->Option (Option Nat)×Nat->StateT SortSt Sem (ForInStep (Option (Option Nat)×Nat))) (R:Option (Option Nat)×Nat->SortSt->Prop),
   (∀x c,body x c=do
    let r <-ltAt' (lo+c.2) (lo+c.2-1)
    match r with
    |some smaller=>if smaller=true then pure (ForInStep.done (none,c.2))else pure (ForInStep.yield (none,c.2+1))
    |x=>pure (ForInStep.done (some none,c.2))) ->
   (∀m,n<=m->m<=nrem->SoR ky a lo (lo+m)->(m<nrem->kp ky a (lo+m)<kp ky a (lo+m-1))->R (none,m) (SortSt.mk' κ a pd g fl))->wpS (model prog w) A E s (forIn [n:nrem] (none,n) body) R (SortSt.mk' κ a pd g fl):=by
  intro a hP hs n h1 h2 hS body R hbody hR
  refine wpS_forRange (λ(t:Nat) (c:Option (Option Nat)×Nat) (st':SortSt)=>st'=SortSt.mk' κ a pd g fl/\c=(none,t)/\SoR ky a lo (lo+t)) ?_ ?_ ⟨rfl,rfl,hS⟩
  ·rintro t c st' ht1 ht2 ⟨rfl,rfl,hSo⟩
   rw[hbody]
   refine wpS_bind (ZgT hc hP (by simp only;omega) (by simp only;omega) ?_)
   refine Zt (λhv=>?_) (λhv=>?_)
   ·exact wpS_pure (hR t ht1 (by omega) hSo (λ_=>of_decide_eq_true hv))
   ·have hv:=λz=>hv (decide_eq_true z)
    exact wpS_pure ⟨rfl,rfl,SoR.next (r:=lo+t) hSo (by omega) (Int.not_lt.mp hv)⟩
  ·rintro c st' ⟨rfl,rfl,hSo⟩
   have:max n nrem=nrem:=by omega
   rw[this]at hSo⊢
   exact hR nrem h2 (Nat.le_refl _) hSo (λz=>by omega)
 have one:SoR ky a lo (lo+1):=λi j hi hij hj=>by
  have:i=j:=by omega
  rw[this];exact Int.le_refl _
 rw[countRun'_eq]
 refine wpS_bind (asc a hP hs 1 (Nat.le_refl _) hn one _ _ (λx c=>rfl) ?_)
 intro n hn1 hn2 hSo hlast
 refine Zt (λh1=>?_) (λh1=>?_)
 ·exact wpS_pure (hQ n a hn1 hn2 (Chg.refl _ _ _) hSo)
 ·simp only[beq_iff_eq]at h1
  have hl:=hlast (by omega)
  refine Zt (λh2=>wpS_bind (ZgT hc hP (by omega) (by omega) (Zt (λh3=>wpS_pure (hQ n a hn1 hn2 (Chg.refl _ _ _) hSo)) (λh3=>wpS_bind (Zi5 ?_))))) (λh2=>?_)
  focus
   have h3:¬ kp ky a lo<kp ky a (lo+n-1):=λz=>h3 (decide_eq_true z)
   have heq:∀x,lo<=x->x<lo+n->kp ky a x=kp ky a (lo+n-1):=λx x1 x2=>by
    have:=hSo lo x (by omega) (by omega) x2
    have:=hSo x (lo+n-1) x1 (by omega) (by omega)
    omega
   have ek:=Zel (ky:=ky) (i:=lo) (j:=lo+n) (by omega) heq
   have hC:=(Zem a (i:=lo) (j:=lo+n) (by omega)).wide (l':=lo) (r':=lo+nrem) (Nat.le_refl _) (by omega)
   have hD:DeR ky (mirror a lo (lo+n) ((lo+n-lo) / 2)) lo (lo+n+1):=by
    refine DeR.congr (a:=a) ?_ (λi _ _=>ek i)
    refine DeR.next (λi j hi hij hj=>?_) (by omega) (Int.le_of_lt hl)
    rw[heq i hi (by omega),heq j (by omega) hj];exact Int.le_refl _
  rotate_left
  focus
   have hn0:n=1:=by omega
   subst hn0
   have hC:=Chg.refl a lo (lo+nrem)
   have hD:DeR ky a lo (lo+1+1):=by
    refine DeR.next (λi j hi hij hj=>?_) (by omega) (Int.le_of_lt hl)
    have:i=j:=by omega
    rw[this];exact Int.le_refl _
  all_goals
   have hP1:=hP.perm hC.perm
   have hs1:=hC.size
   refine wpS_bind (wpS_lift (wpAny_rule ⟨rfl,?_⟩))
   refine wpS_bind (wpS_mono (Q:=λ(c:Option (Option Nat)×Nat×Nat) (st':SortSt)=>∃a',st'=SortSt.mk' κ a' pd g fl/\Chg a a' lo (lo+nrem)/\c.1=none/\1<=c.2.1/\c.2.1<=nrem/\DeR ky a' lo (lo+c.2.1)/\c.2.2+1<=c.2.1/\∀x,lo+c.2.1-(c.2.2+1)<=x->x<lo+c.2.1->kp ky a' x=kp ky a' (lo+c.2.1-1)) (wpS_forRange (λ(t:Nat) (c:Option (Option Nat)×Nat×Nat) (st':SortSt)=>∃a',st'=SortSt.mk' κ a' pd g fl/\Chg a a' lo (lo+nrem)/\c.1=none/\c.2.1=t/\DeR ky a' lo (lo+c.2.1)/\c.2.2+1<=c.2.1/\∀x,lo+c.2.1-(c.2.2+1)<=x->x<lo+c.2.1->kp ky a' x=kp ky a' (lo+c.2.1-1)) ?_ ?_ ⟨_,rfl,hC,rfl,rfl,hD,by simp only;omega,λx x1 x2=>by simp only at x1 x2⊢;congr 1;omega⟩) ?_)
   ·rintro t c st' ht1 ht2 ⟨a1,rfl,hC1,e1,e2,hD1,hq,heq⟩
    have hP2:=hP.perm hC1.perm
    have hs2:=hC1.size
    refine wpS_bind (ZgT hc hP2 (by omega) (by omega) (Zt (λh3=>?_) (λh3=>wpS_bind (ZgT hc hP2 (by omega) (by omega) (Zt (λh4=>?_) (λh4=>?_))))))
    ·have h3:=of_decide_eq_true h3
     have hr:=Zel (ky:=ky) (i:=lo+c.2.1-(c.2.2+1)) (j:=lo+c.2.1) (by omega) heq
     refine Zt (λh5=>wpS_bind (Zi5 (wpS_pure ⟨_,rfl,hC1.trans ((Zem a1 (by omega)).wide (by omega) (by omega)),rfl,by simp only;omega,?_,by simp only;omega,λx x1 x2=>by simp only at x1 x2⊢;congr 1;omega⟩))) (λh5=>wpS_pure ⟨_,rfl,hC1,rfl,by simp only;omega,?_,by simp only;omega,λx x1 x2=>by simp only at x1 x2⊢;congr 1;omega⟩)
     ·exact DeR.congr (a:=a1) (DeR.next (r:=lo+c.2.1) hD1 (by omega) (Int.le_of_lt h3)) (λi _ _=>hr i)
     ·exact DeR.next (r:=lo+c.2.1) hD1 (by omega) (Int.le_of_lt h3)
    ·exact wpS_pure ⟨_,rfl,hC1,rfl,by simp only;omega,by simp only;omega,hD1,hq,heq⟩
    ·have h3:=Int.not_lt.mp λz=>h3 (decide_eq_true z)
     have h4:=Int.not_lt.mp λz=>h4 (decide_eq_true z)
     have e5:kp ky a1 (lo+c.2.1)=kp ky a1 (lo+c.2.1-1):=Int.le_antisymm h4 h3
     refine wpS_pure ⟨_,rfl,hC1,rfl,by simp only;omega,DeR.next (r:=lo+c.2.1) hD1 (by omega) h4,by simp only;omega,?_⟩
     intro x x1 x2
     simp only at x1 x2⊢
     have e6:lo+(c.2.1+1)-1=lo+c.2.1:=by omega
     rw[e6,e5]
     by_cases ex:x=lo+c.2.1
     ·rw[ex,e5]
     ·exact heq x (by omega) (by omega)
   ·rintro c st' ⟨a1,rfl,hC1,e1,e2,hD1,hq,heq⟩
    exact⟨a1,rfl,hC1,e1,by omega,by omega,hD1,hq,heq⟩
   ·rintro⟨r,n2,neq⟩ st' ⟨a1,rfl,hC1,e1,m1,m2,hD1,hq,heq⟩
    simp only at e1 m1 m2 hD1 hq heq
    subst e1
    have hs2:=hC1.size
    have fin:∀a2,Chg a a2 lo (lo+nrem)->DeR ky a2 lo (lo+n2)->Chg a (mirror a2 lo (lo+n2) ((lo+n2-lo) / 2)) lo (lo+nrem)/\SoR ky (mirror a2 lo (lo+n2) ((lo+n2-lo) / 2)) lo (lo+n2):=by
     intro a2 hC2 hD2
     have:=hC2.size
     refine⟨hC2.trans ((Zem a2 (by omega)).wide (by omega) (by omega)),?_⟩
     intro i j hi hij hj
     rw[Zht (by omega),Zht (by omega),if_pos ⟨hi,by omega⟩,if_pos ⟨by omega,hj⟩]
     exact hD2 _ _ (by omega) (by omega) (by omega)
    have hr:=Zel (ky:=ky) (i:=lo+n2-(neq+1)) (j:=lo+n2) (by omega) heq
    have C3:=hC1.trans ((Zem a1 (i:=lo+n2-(neq+1)) (j:=lo+n2) (by omega)).wide (l':=lo) (r':=lo+nrem) (by omega) (by omega))
    have F1:=fin _ C3 (DeR.congr (a:=a1) hD1 (λi _ _=>hr i))
    have F2:=fin _ hC1 hD1
    refine Zt (λh5=>wpS_bind (Zi5 (wpS_bind (Zi5 (wpS_bind (asc _ (hP.perm F1.1.perm) (by have:=F1.1.size;omega) n2 m1 m2 F1.2 _ _ (λx c=>rfl) (λm z1 z2 z3 _=>?_))))))) (λh5=>wpS_bind (Zi5 (wpS_bind (asc _ (hP.perm F2.1.perm) (by have:=F2.1.size;omega) n2 m1 m2 F2.2 _ _ (λx c=>rfl) (λm z1 z2 z3 _=>?_)))))
    ·exact wpS_pure (hQ m _ (by omega) z2 F1.1 z3)
    ·exact wpS_pure (hQ m _ (by omega) z2 F2.1 z3)
theorem Zj3 (hc:Zfc prog w A s κ P ky) {a:Array Keyed}{pd:Array (Nat×Nat×Nat)}{g:Nat}{fl:Option Value} (hP:AllP P a) {lo n ok:Nat}{Q:Bool->SortSt->Prop} (hs:lo+n<=a.size) (hok:ok<=n) (hS:SoR ky a lo (lo+ok))
  (hQ:∀a',Chg a a' lo (lo+n)->SoR ky a' lo (lo+n)->Q true (SortSt.mk' κ a' pd g fl)):wpS (model prog w) A E s (binarySort' lo n ok) Q (SortSt.mk' κ a pd g fl):=by
 rw[binarySort'_eq]
 have h1:SoR ky a lo (lo+max ok 1):=by
  by_cases h:1<=ok
  ·rw[Nat.max_eq_left h];exact hS
  ·intro i j hi hij hj
   have:i=j:=by omega
   rw[this];exact Int.le_refl _
 refine wpS_bind (wpS_mono (Q:=λ(c:Option Bool×Unit) (st':SortSt)=>∃a',st'=SortSt.mk' κ a' pd g fl/\c.1=none/\Chg a a' lo (lo+n)/\SoR ky a' lo (lo+n)) (wpS_forRange (λ(k:Nat) (c:Option Bool×Unit) (st':SortSt)=>∃a',st'=SortSt.mk' κ a' pd g fl/\c.1=none/\Chg a a' lo (lo+n)/\SoR ky a' lo (lo+k)) ?_ ?_ ⟨a,rfl,rfl,Chg.refl _ _ _,h1⟩) ?_)
 ·rintro k c st' k1 k2 ⟨a1,rfl,e1,hC,hSo⟩
  have hP1:=hP.perm hC.perm
  have hs1:=hC.size
  refine wpS_bind (wpS_mono (Q:=λ(c:Option Bool×Nat×Nat) (st':SortSt)=>st'=SortSt.mk' κ a1 pd g fl/\c.1=none/\c.2.1<=k/\(∀i,i<c.2.1->kp ky a1 (lo+i)<=kp ky a1 (lo+k))/\(∀i,c.2.1<=i->i<k->kp ky a1 (lo+k)<kp ky a1 (lo+i))) (wpS_forRange (λ(t:Nat) (c:Option Bool×Nat×Nat) (st':SortSt)=>st'=SortSt.mk' κ a1 pd g fl/\c.1=none/\c.2.1<=c.2.2/\c.2.2<=k/\c.2.2-c.2.1<=k-t/\(∀i,i<c.2.1->kp ky a1 (lo+i)<=kp ky a1 (lo+k))/\(∀i,c.2.2<=i->i<k->kp ky a1 (lo+k)<kp ky a1 (lo+i))) ?_ ?_ ⟨rfl,rfl,Nat.zero_le _,Nat.le_refl _,Nat.le_refl _,λi hi=>absurd hi (Nat.not_lt_zero _),λi x1 x2=>by simp only at x1;omega⟩) ?_)
  ·rintro t c st' t1 t2 ⟨rfl,e1,b1,b2,b3,b4,b5⟩
   refine Zt (λh=>wpS_pure ⟨rfl,rfl,by simp only;omega,b4,λi x1 x2=>b5 i (by simp only at x1;omega) x2⟩) (λh=>wpS_bind (ZgT hc hP1 (by omega) (by omega) (Zt (λh3=>?_) (λh3=>?_))))
   ·have h3:=of_decide_eq_true h3
    refine wpS_pure ⟨rfl,rfl,by simp only;omega,by simp only;omega,by simp only;omega,b4,?_⟩
    intro i x1 x2
    simp only at x1
    exact Int.lt_of_lt_of_le h3 (hSo _ _ (by omega) (by omega) (by omega))
   ·have h3:=Int.not_lt.mp λz=>h3 (decide_eq_true z)
    refine wpS_pure ⟨rfl,rfl,by simp only;omega,by simp only;omega,by simp only;omega,?_,b5⟩
    intro i x1
    simp only at x1
    exact Int.le_trans (hSo _ _ (by omega) (by omega) (by omega)) h3
  ·rintro c st' ⟨rfl,e1,b1,b2,b3,b4,b5⟩
   exact⟨rfl,e1,by omega,b4,λi x1 x2=>b5 i (by omega) x2⟩
  ·rintro⟨r,l,r2⟩ st' ⟨rfl,e2,b1,b4,b5⟩
   simp only at e2 b1 b4 b5
   subst e2
   simp only[moveDown'_eq]
   refine wpS_bind (wpS_modify (wpS_pure ⟨_,rfl,rfl,hC.trans ((ZtH a1 (src:=lo+k) (d:=lo+k-(lo+l)) (by omega) (by omega)).wide (by omega) (by omega)),?_⟩))
   intro i j hi hij hj
   have ed:lo+k-(lo+k-(lo+l))=lo+l:=by omega
   show kp ky (bubble a1 (lo+k) (lo+k-(lo+l))) i<=kp ky (bubble a1 (lo+k) (lo+k-(lo+l))) j
   rw[ZrU (by omega) (by omega),ZrU (by omega) (by omega),ed]
   have big:∀x,lo<=x->x<lo+k->∃y,x=lo+y/\y<k:=λx x1 x2=>⟨x-lo,by omega,by omega⟩
   by_cases c1:i=lo+l
   ·rw[if_pos c1]
    by_cases c2:j=lo+l
    ·rw[if_pos c2];exact Int.le_refl _
    ·rw[if_neg c2,if_pos ⟨by omega,by omega⟩]
     obtain⟨y,hy,hyk⟩:=big (j-1) (by omega) (by omega)
     rw[hy];exact Int.le_of_lt (b5 y (by omega) hyk)
   ·rw[if_neg c1]
    by_cases c2:j=lo+l
    ·rw[if_pos c2,if_neg (by omega)]
     obtain⟨y,hy,hyk⟩:=big i (by omega) (by omega)
     rw[hy];exact b4 y (by omega)
    ·rw[if_neg c2]
     split<;>split
     ·exact hSo _ _ (by omega) (by omega) (by omega)
     ·omega
     ·exact hSo _ _ (by omega) (by omega) (by omega)
     ·exact hSo _ _ (by omega) (by omega) (by omega)
 ·rintro c st' ⟨a1,rfl,e1,hC,hSo⟩
  exact⟨a1,rfl,e1,hC,λi j hi hij hj=>hSo i j hi hij (by omega)⟩
 ·rintro⟨r,u⟩ st' ⟨a1,rfl,e1,hC,hSo⟩
  simp only at e1
  subst e1
  exact wpS_pure (hQ a1 hC hSo)
end
section
variable {ky:Keyed->Int}
noncomputable def Z1 (ky:Keyed->Int) (a:Array Keyed):List (Nat×Nat×Nat)->Nat->Nat->Prop
 |[],x,y=>x=y
 |r::l,x,y=>r.1=x/\1<=r.2.1/\SoR ky a x (x+r.2.1)/\Z1 ky a l (x+r.2.1) y
variable {a a':Array Keyed}
theorem Z1.app:∀{l m:List (Nat×Nat×Nat)}{x z:Nat},Z1 ky a (l++m) x z↔∃y,Z1 ky a l x y/\Z1 ky a m y z
 |[],m,x,z=>⟨λh=>⟨x,rfl,h⟩,λ⟨y,e,h⟩=>by cases e;exact h⟩
 |r::l,m,x,z=>by
  constructor
  ·rintro⟨h1,h2,h3,h4⟩
   obtain⟨y,q1,q2⟩:=Z1.app.mp h4
   exact⟨y,⟨h1,h2,h3,q1⟩,q2⟩
  ·rintro⟨y,⟨h1,h2,h3,h4⟩,q⟩
   exact⟨h1,h2,h3,Z1.app.mpr ⟨y,h4,q⟩⟩
theorem Z1.le:∀{l:List (Nat×Nat×Nat)}{x y:Nat},Z1 ky a l x y->x+l.length<=y
 |[],x,y,h=>by cases h;exact Nat.le_refl _
 |r::l,x,y,⟨_,h2,_,h4⟩=>by have:=h4.le;simp only[List.length_cons];omega
theorem Z1.congr:∀{l:List (Nat×Nat×Nat)}{x y:Nat},Z1 ky a l x y->(∀i,x<=i->i<y->kp ky a' i=kp ky a i)->Z1 ky a' l x y
 |[],x,y,h,_=>h
 |r::l,x,y,⟨h1,h2,h3,h4⟩,e=>by
  have:=h4.le
  exact⟨h1,h2,h3.congr (λi x1 x2=>e i x1 (by omega)),h4.congr (λi x1 x2=>e i (by omega) x2)⟩
theorem Z1.ZrV:∀{l m:List (Nat×Nat×Nat)}{x y:Nat},Z1 ky a l x y->l.map (λr=>(r.1,r.2.1))=m.map (λr=>(r.1,r.2.1))->Z1 ky a m x y
 |[],[],x,y,h,_=>h
 |r::l,q::m,x,y,⟨h1,h2,h3,h4⟩,e=>by
  simp only[List.map_cons,List.cons.injEq,Prod.mk.injEq]at e
  obtain⟨⟨e1,e2⟩,e3⟩:=e
  refine⟨e1▸h1,e2▸h2,e2▸h3,?_⟩
  rw[<-e2];exact h4.ZrV e3
 |[],_::_,_,_,_,e=>by cases e
 |_::_,[],_,_,_,e=>by cases e
theorem ZoR (base:Nat):∀(m:List Keyed) (n:Nat) (a:Array Keyed),base+n+m.length<=a.size ->
  (List.foldl (λ(a:Array Keyed) (x:Keyed×Nat)=>a.setIfInBounds (base+x.2) x.1) a (m.zipIdx n)).toList=a.toList.take (base+n)++m++a.toList.drop (base+n+m.length)
 |[],n,a,h=>by simp
 |x::m,n,a,h=>by
  simp only[List.length_cons]at h
  rw[List.zipIdx_cons,List.foldl_cons,ZoR base m (n+1) _ (by simp;omega)]
  simp only[Array.toList_setIfInBounds,List.length_cons]
  have e1:(a.toList.set (base+n) x).take (base+(n+1))=a.toList.take (base+n)++[x]:=by
   rw[<-Nat.add_assoc,List.take_add_one,List.take_set,List.getElem?_set]
   rw[List.set_eq_of_length_le (by simp;omega)]
   simp[show base+n<a.size by omega]
  have e2:(a.toList.set (base+n) x).drop (base+(n+1)+m.length)=a.toList.drop (base+n+(m.length+1)):=by
   rw[List.drop_set_of_lt (by omega)]
   congr 1;omega
  rw[e1,e2]
  simp
variable {prog:Program}{w:World}{A:Around}{E:Value->Shared->Prop}{s:Shared}{κ:SortKind}{P:Keyed->Prop}
theorem Zh2 {l r:Nat} (h:SoR ky a l r) (hr:r<=a.size):Srt ky (a.extract l r).toList:=by
 unfold Srt
 rw[List.pairwise_iff_getElem]
 intro i j hi hj hij
 simp only[Array.length_toList,Array.size_extract]at hi hj
 simp only[Array.getElem_toList,Array.getElem_extract]
 rw[<-Zi4 (ky:=ky) (a:=a) (by omega),<-Zi4 (ky:=ky) (a:=a) (by omega)]
 exact h _ _ (by omega) (by omega) (by omega)
theorem laid {base mid r:Nat}{res:Array Keyed} (h1:base<=mid) (h2:mid<=r) (h3:r<=a.size) (hg:Gd ky (a.extract base mid).toList (a.extract mid r).toList res.toList) :
  ∃a':Array Keyed,List.foldl (λ(a:Array Keyed) (x:Keyed×Nat)=>a.setIfInBounds (base+x.2) x.1) a res.toList.zipIdx=a'/\Chg a a' base r/\SoR ky a' base r/\∀j,base<=j->j<r->∃t,base<=t/\t<r/\kp ky a' j=kp ky a t:=by
 have hlen:res.toList.length=r-base:=by
  have:=hg.1.length_eq
  simp only[List.length_append,Array.length_toList,Array.size_extract]at this⊢;omega
 have key:=ZoR base res.toList 0 a (by omega)
 have hb:base+0+res.toList.length=r:=by omega
 rw[hb,Nat.add_zero]at key
 refine⟨_,rfl,⟨?_,?_⟩,?_,?_⟩
 ·rw[Array.perm_iff_toList_perm,key]
  have e:a.toList=a.toList.take base++((a.extract base mid).toList++(a.extract mid r).toList)++a.toList.drop r:=by
   simp only[Array.toList_extract,List.extract_eq_drop_take]
   have:(a.toList.drop base).take (mid-base)++(a.toList.drop mid).take (r-mid)=(a.toList.drop base).take (r-base):=by
    have e2:r-base=(mid-base)+(r-mid):=by omega
    rw[e2,List.take_add,List.drop_drop]
    congr 3;omega
   rw[this]
   have e3:a.toList.drop r=(a.toList.drop base).drop (r-base):=by rw[List.drop_drop];congr 1;omega
   rw[e3,List.append_assoc,List.take_append_drop,List.take_append_drop]
  conv=>rhs;rw[e]
  exact List.Perm.append_right _ (List.Perm.append_left _ hg.1)
 ·intro i hi
  rw[<-Array.getElem?_toList,<-Array.getElem?_toList,key]
  have hl0:(a.toList.take base).length=base:=by simp;omega
  rcases hi with hi|hi
  ·rw[List.append_assoc,List.getElem?_append_left (by omega),List.getElem?_take_of_lt hi]
  ·rw[List.getElem?_append_right (by simp;simp at hlen;omega),List.getElem?_drop]
   congr 1
   simp only[List.length_append,hl0,hlen];omega
 all_goals
  have atm:∀j,(hj0:base<=j)->(hj:j<r)->kp ky (List.foldl (λ(a:Array Keyed) (x:Keyed×Nat)=>a.setIfInBounds (base+x.2) x.1) a res.toList.zipIdx) j=ky (res.toList[j-base]'(by omega)):=by
   intro j j1 j2
   have hl0:(a.toList.take base).length=base:=by simp;omega
   have:(List.foldl (λ(a:Array Keyed) (x:Keyed×Nat)=>a.setIfInBounds (base+x.2) x.1) a res.toList.zipIdx)[j]?=some (res.toList[j-base]'(by omega)):=by
    rw[<-Array.getElem?_toList,key,List.append_assoc,List.getElem?_append_right (by omega),List.getElem?_append_left (by omega),hl0,List.getElem?_eq_getElem (by omega)]
   unfold kp
   rw[Array.getD_eq_getD_getElem?,this];rfl
 ·intro i j hi hij hj
  rw[atm i hi (by omega),atm j (by omega) hj]
  by_cases e:i=j
  ·subst e;exact Int.le_refl _
  ·exact List.pairwise_iff_getElem.mp hg.2 _ _ _ _ (by omega)
 ·intro j j1 j2
  rw[atm j j1 j2]
  have hm:(res.toList[j-base]'(by omega))∈(a.extract base mid).toList++(a.extract mid r).toList:=(List.Perm.mem_iff hg.1).mp (List.getElem_mem _)
  rcases List.mem_append.mp hm with hm|hm
  ·obtain⟨t,ht,e⟩:=List.mem_iff_getElem.mp hm
   simp only[Array.length_toList,Array.size_extract]at ht
   simp only[Array.getElem_toList,Array.getElem_extract]at e
   exact⟨base+t,by omega,by omega,by rw[Zi4 (by omega),e,Array.getElem_toList]⟩
  ·obtain⟨t,ht,e⟩:=List.mem_iff_getElem.mp hm
   simp only[Array.length_toList,Array.size_extract]at ht
   simp only[Array.getElem_toList,Array.getElem_extract]at e
   exact⟨mid+t,by omega,by omega,by rw[Zi4 (by omega),e,Array.getElem_toList]⟩
theorem ZnR (hc:Zfc prog w A s κ P ky) {pd:Array (Nat×Nat×Nat)}{g:Nat} (hP:AllP P a) {i sa na p sb nb p':Nat}{Q:Bool->SortSt->Prop} (h1:pd[i]?=some (sa,na,p)) (h2:pd[i+1]?=some (sb,nb,p')) (hsb:sb=sa+na) (hna:1<=na) (hnb:1<=nb) (hs:sb+nb<=a.size) (hSa:SoR ky a sa sb) (hSb:SoR ky a sb (sb+nb))
  (hQ:∀a' g',Chg a a' sa (sb+nb)->SoR ky a' sa (sb+nb)->Q true (SortSt.mk' κ a' ((pd.setIfInBounds i (sa,na+nb,p)).eraseIdxIfInBounds (i+1)) g' none)) :
  wpS (model prog w) A E s (mergeAt' i) Q (SortSt.mk' κ a pd g none):=by
 refine wpS_bind (wpS_get ?_)
 simp only[h1,h2]
 refine wpS_bind (wpS_modify ?_)
 have kat:∀j,(h:j<a.size)->kp ky a j=ky a[j]:=λj h=>Zi4 h
 refine wpS_bind (ZP (by omega:sb<a.size) ?_)
 refine wpS_bind (ZcG (f:=λj=>!decide (kp ky a sb<kp ky a (sa+j))) hc rfl (hP.at _ _) hP.at (by omega) (by omega) (λj h=>by rw[kat _ h,kat sb (by omega)];simp) ?_ ?_)
 ·intro x y hxy hy hfy
  simp only[Bool.not_eq_true',decide_eq_false_iff_not,Int.not_lt]at hfy⊢
  exact Int.le_trans (hSa _ _ (by omega) (by omega) (by omega)) hfy
 intro k hk1 hk2 hk3
 simp only[Bool.not_eq_true',decide_eq_false_iff_not,Int.not_lt,Bool.not_eq_false',decide_eq_true_eq]at hk2 hk3
 have pre:∀x,sa<=x->x<sa+k->kp ky a x<=kp ky a sb:=λx x1 x2=>by
  have:=hk2 (x-sa) (by omega)
  rwa [(by omega:sa+(x-sa)=x)]at this
 refine Zt (λh3=>wpS_pure (hQ a g (Chg.refl _ _ _) ?_)) (λh3=>?_)
 ·simp only[beq_iff_eq]at h3
  intro x y hx hxy hy
  by_cases c1:y<sb
  ·exact hSa x y hx hxy c1
  ·by_cases c2:x<sb
   ·exact Int.le_trans (pre x hx (by omega)) (hSb sb y (Nat.le_refl _) (by omega) hy)
   ·exact hSb x y (by omega) hxy hy
 ·simp only[beq_iff_eq]at h3
  have post1:kp ky a sb<kp ky a (sa+k):=hk3 k (Nat.le_refl _) (by omega)
  refine wpS_bind (ZP (by omega:sa+k+(na-k)-1<a.size) ?_)
  refine wpS_bind (ZcG (f:=λj=>decide (kp ky a (sb+j)<kp ky a (sb-1))) hc rfl (hP.at _ _) hP.at (by omega) (by omega) (λj h=>by
   have e:sb-1=sa+k+(na-k)-1:=by omega
   rw[kat _ h,e,kat _ (by omega)];simp) ?_ ?_)
  ·intro x y hxy hy hfy
   simp only[decide_eq_true_eq]at hfy⊢
   exact Int.lt_of_le_of_lt (hSb _ _ (by omega) (by omega) (by omega)) hfy
  intro n2 q1 q2 q3
  simp only[decide_eq_true_eq,decide_eq_false_iff_not,Int.not_lt]at q2 q3
  refine Zt (λh4=>wpS_pure (hQ a g (Chg.refl _ _ _) ?_)) (λh4=>?_)
  ·simp only[beq_iff_eq]at h4
   have:=q3 0 (by omega) (by omega)
   have:=hSa (sa+k) (sb-1) (by omega) (by omega) (by omega)
   rw[Nat.add_zero]at *
   omega
  ·simp only[beq_iff_eq]at h4
   have fin:∀res:Array Keyed,Gd ky (a.extract (sa+k) sb).toList (a.extract sb (sb+n2)).toList res.toList->∃a':Array Keyed,List.foldl (λ(a:Array Keyed) (x:Keyed×Nat)=>a.setIfInBounds (sa+k+x.2) x.1) a res.toList.zipIdx=a'/\Chg a a' sa (sb+nb)/\SoR ky a' sa (sb+nb):=by
    intro res hg
    obtain⟨a',e,c,so,mem⟩:=laid (by omega) (by omega) (by omega) hg
    refine⟨a',e,c.wide (by omega) (by omega),?_⟩
    have low:∀x t,sa<=x->x<sa+k->sa+k<=t->t<sb+n2->kp ky a x<=kp ky a t:=by
     intro x t x1 x2 t1 t2
     by_cases c1:t<sb
     ·exact hSa x t x1 (by omega) c1
     ·exact Int.le_trans (pre x x1 x2) (hSb sb t (Nat.le_refl _) (by omega) (by omega))
    have high:∀x t,sb+n2<=x->x<sb+nb->sa+k<=t->t<sb+n2->kp ky a t<=kp ky a x:=by
     intro x t x1 x2 t1 t2
     have h5:kp ky a (sb-1)<=kp ky a x:=by
      have:=q3 (x-sb) (by omega) (by omega)
      rwa [(by omega:sb+(x-sb)=x)]at this
     by_cases c1:t<sb
     ·exact Int.le_trans (hSa t (sb-1) (by omega) (by omega) (by omega)) h5
     ·exact hSb t x (by omega) (by omega) (by omega)
    intro x y hx hxy hy
    by_cases x1:x<sa+k
    ·rw[c.kp (.inl x1)]
     by_cases y1:y<sa+k
     ·rw[c.kp (.inl y1)];exact hSa x y hx hxy (by omega)
     ·by_cases y2:y<sb+n2
      ·obtain⟨t,t1,t2,e2⟩:=mem y (by omega) y2
       rw[e2];exact low x t hx x1 t1 t2
      ·rw[c.kp (.inr (by omega))]
       exact Int.le_trans (low x (sa+k) hx x1 (Nat.le_refl _) (by omega)) (high y (sa+k) (by omega) hy (Nat.le_refl _) (by omega))
    ·by_cases x2:x<sb+n2
     ·by_cases y2:y<sb+n2
      ·exact so x y (by omega) hxy y2
      ·obtain⟨t,t1,t2,e2⟩:=mem x (by omega) x2
       rw[e2,c.kp (.inr (by omega))];exact high y t (by omega) hy t1 t2
     ·rw[c.kp (.inr (by omega)),c.kp (.inr (by omega))]
      exact hSb x y (by omega) hxy hy
   have Sx:=Zh2 (ky:=ky) (a:=a) (l:=sa+k) (r:=sb) (λx y x1 x2 x3=>hSa x y (by omega) x2 x3) (by omega)
   have Sy:=Zh2 (ky:=ky) (a:=a) (l:=sb) (r:=sb+n2) (λx y x1 x2 x3=>hSb x y (by omega) x2 (by omega)) (by omega)
   have px:∀j,(h:j<(a.extract (sa+k) sb).size)->P (a.extract (sa+k) sb)[j]:=λj h=>by rw[Array.getElem_extract];exact hP.at _ _
   have py:∀j,(h:j<(a.extract sb (sb+n2)).size)->P (a.extract sb (sb+n2))[j]:=λj h=>by rw[Array.getElem_extract];exact hP.at _ _
   have zx:0<(a.extract (sa+k) sb).size:=by rw[Array.size_extract];omega
   have zy:0<(a.extract sb (sb+n2)).size:=by rw[Array.size_extract];omega
   have c0:ky (a.extract sb (sb+n2))[0]<=ky (a.extract (sa+k) sb)[0]:=by
    rw[Array.getElem_extract,Array.getElem_extract,<-kat _ (by omega),<-kat _ (by omega)]
    exact Int.le_of_lt post1
   have cl:∀j,(h:j<(a.extract sb (sb+n2)).size)->ky (a.extract sb (sb+n2))[j]<=ky ((a.extract (sa+k) sb)[(a.extract (sa+k) sb).size-1]'(by omega)):=by
    intro j h
    rw[Array.size_extract]at h
    rw[Array.getElem_extract,Array.getElem_extract,<-kat _ (by omega),<-kat _ (by rw[Array.size_extract];omega)]
    have e:sa+k+((a.extract (sa+k) sb).size-1)=sb-1:=by rw[Array.size_extract];omega
    rw[e]
    exact Int.le_of_lt (q2 j (by omega))
   refine Zt (λh5=>wpS_bind (ZnO hc px py Sx Sy zx zy c0 cl ?_)) (λh5=>wpS_bind (ZnQ hc px py Sx Sy zx zy c0 cl ?_))
   all_goals
    intro res g' hg
    obtain⟨a',e,c,so⟩:=fin res hg
    refine wpS_bind (wpS_modify (wpS_bind (wpS_get (wpS_pure ?_))))
    have:=hQ a' g' c so
    rw[<-e]at this
    exact this
theorem split2 {l:List (Nat×Nat×Nat)}{i:Nat} (h:i+1<l.length):l=l.take i++l[i]::l[i+1]::l.drop (i+2):=by
 rw[<-List.drop_eq_getElem_cons (by omega),<-List.drop_eq_getElem_cons (by omega),List.take_append_drop]
theorem ZoS {pd:Array (Nat×Nat×Nat)}{i:Nat} (h:i+1<pd.size) (v:Nat×Nat×Nat):((pd.setIfInBounds i v).eraseIdxIfInBounds (i+1)).toList=pd.toList.take i++v::pd.toList.drop (i+2):=by
 rw[Array.toList_eraseIdxIfInBounds,Array.toList_setIfInBounds,List.eraseIdx_eq_take_drop_succ,List.set_eq_take_append_cons_drop,if_pos (by simp;omega)]
 have hl:(pd.toList.take i).length=i:=by simp;omega
 rw[List.take_append,List.drop_append,hl,(by omega:i+1-i=1),(by omega:i+1+1-i=2),List.take_of_length_le (l:=pd.toList.take i) (by omega),List.drop_of_length_le (l:=pd.toList.take i) (by omega)]
 simp
theorem ZgU (hc:Zfc prog w A s κ P ky) {pd:Array (Nat×Nat×Nat)}{g i lo:Nat} (hP:AllP P a) {Q:Bool->SortSt->Prop} (hi:i+1<pd.size) (hR:Z1 ky a pd.toList 0 lo) (hlo:lo<=a.size)
  (hQ:∀a' pd' g',Chg a a' 0 lo->Z1 ky a' pd'.toList 0 lo->pd'.size+1=pd.size->Q true (SortSt.mk' κ a' pd' g' none)) :
  wpS (model prog w) A E s (mergeAt' i) Q (SortSt.mk' κ a pd g none):=by
 have hl:i+1<pd.toList.length:=by simpa using hi
 have hR0:=hR
 rw[split2 hl]at hR
 obtain⟨y,r1,r2⟩:=Z1.app.mp hR
 obtain⟨e1,n1,s1,e2,n2,s2,r3⟩:=r2
 have le3:=r3.le
 have le1:=r1.le
 refine ZnR hc hP (p:=pd.toList[i].2.2) (p':=pd.toList[i+1].2.2) (sa:=y) (na:=pd.toList[i].2.1) (sb:=y+pd.toList[i].2.1) (nb:=pd.toList[i+1].2.1) ?_ ?_ rfl n1 n2 (by omega) s1 s2 ?_
 ·rw[<-Array.getElem?_toList,List.getElem?_eq_getElem (by omega),<-e1]
 ·rw[<-Array.getElem?_toList,List.getElem?_eq_getElem (by omega),<-e2]
 ·intro a' g' c so
  refine hQ _ _ _ (c.wide (by omega) (by omega)) ?_ ?_
  ·rw[ZoS hi]
   refine Z1.app.mpr ⟨y,r1.congr (λj _ j2=>c.kp (.inl j2)),rfl,by simp only;omega,?_,?_⟩
   ·simp only;rw[<-Nat.add_assoc];exact so
   ·simp only;rw[<-Nat.add_assoc];exact r3.congr (λj j1 _=>c.kp (.inr j1))
  ·rw[<-Array.length_toList,ZoS hi]
   simp;omega
end
section
variable {ky:Keyed->Int}{prog:Program}{w:World}{A:Around}{E:Value->Shared->Prop}{s:Shared}{κ:SortKind}{P:Keyed->Prop}
theorem Z1.push {a:Array Keyed}{pd:Array (Nat×Nat×Nat)}{lo n p:Nat} (h:Z1 ky a pd.toList 0 lo) (hn:1<=n) (hs:SoR ky a lo (lo+n)):Z1 ky a (pd.push (lo,n,p)).toList 0 (lo+n):=by
 rw[Array.toList_push]
 exact Z1.app.mpr ⟨lo,h,rfl,hn,hs,rfl⟩
theorem Zms (hc:Zfc prog w A s κ P ky) {a:Array Keyed}{g:Nat}{Q:Unit->SortSt->Prop} (hP:AllP P a) (h2:1<=a.size)
  (hQ:∀st',(arrOf st').Perm a->failedOf st'=none->SoR ky (arrOf st') 0 a.size->Q () st') :
  wpS (model prog w) A E s sortRuns' Q (SortSt.mk' κ a #[] g none):=by
 rw[sortRuns'_eq]
 refine wpS_bind (wpS_get ?_)
 refine wpS_bind (wpS_mono (Q:=λ(c:Option Unit×Nat) (st':SortSt)=>∃a' pd' g',st'=SortSt.mk' κ a' pd' g' none/\c.1=none/\a'.Perm a/\Z1 ky a' pd'.toList 0 a.size) (wpS_forRange (λ(t:Nat) (c:Option Unit×Nat) (st':SortSt)=>∃a' pd' g',st'=SortSt.mk' κ a' pd' g' none/\c.1=none/\a'.Perm a/\t<=c.2/\c.2<=a.size/\Z1 ky a' pd'.toList 0 c.2) ?_ ?_ ⟨a,#[],g,rfl,rfl,Array.Perm.refl _,Nat.le_refl _,Nat.zero_le _,rfl⟩) ?_)
 ·rintro t c st' _ ht ⟨a1,pd1,g1,rfl,e1,hp1,ht1,hlo,hR⟩
  have hsz:∀{b:Array Keyed},b.Perm a->b.size=a.size:=λh=>by
   have:=(Array.perm_iff_toList_perm.mp h).length_eq;simpa using this
  have hs1:=hsz hp1
  refine Zt (λh=>wpS_pure ⟨a1,pd1,g1,rfl,rfl,hp1,?_⟩) (λh=>?_)
  ·have e:c.2=a.size:=Nat.le_antisymm hlo h
   rw[<-e];exact hR
  have h:c.2<a.size:=Nat.lt_of_not_le h
  refine wpS_bind (Zmr hc (hP.perm hp1) (by show 1<=a.size-c.2;omega) (by show c.2+(a.size-c.2)<=a1.size;omega) ?_)
  intro m a2 m1 m2 c2 so2
  have m2:m<=a.size-c.2:=m2
  have hs2:=c2.size
  have hp2:=c2.perm.trans hp1
  refine Zt (λh3=>wpS_bind (wpS_lift (wpAny_rule ⟨rfl,wpS_bind (Zj3 hc (hP.perm hp2) (by show c.2+min (a.size-c.2) (minRun' a.size a.size 0)<=a2.size;omega) (by show m<=min (a.size-c.2) (minRun' a.size a.size 0);have:m<minRun' a.size a.size 0:=h3;omega) so2 ?_)⟩))) (λh3=>?_)
  focus
   intro a3 c3 so3
   refine Zt (λz=>by cases z) (λ_=>?_)
   have hp3:=c3.perm.trans hp2
   have R3:Z1 ky a3 pd1.toList 0 c.2:=hR.congr (λi _ i2=>by rw[c3.kp (.inl i2),c2.kp (.inl i2)])
   have h3:m<minRun' a.size a.size 0:=h3
   have n3:1<=min (a.size-c.2) (minRun' a.size a.size 0):=by omega
   have n4:c.2+min (a.size-c.2) (minRun' a.size a.size 0)<=a.size:=by omega
  rotate_left
  focus
   have hp3:=hp2
   have so3:=so2
   have R3:Z1 ky a2 pd1.toList 0 c.2:=hR.congr (λi _ i2=>by rw[c2.kp (.inl i2)])
   have n3:=m1
   have n4:c.2+m<=a.size:=by omega
  all_goals
   have hs3:=hsz hp3
   refine wpS_bind (wpS_get ?_)
   cases hb:pd1.back? with
   |none =>
    simp only[hb]
    exact wpS_bind (wpS_modify (wpS_pure ⟨_,_,_,rfl,rfl,hp3,by simp only;omega,n4,R3.push n3 so3⟩))
   |some b =>
    obtain⟨s1,n1,p1⟩:=b
    simp only[hb]
    refine wpS_bind (wpS_mono (Q:=λ(c':Option Unit×Unit) (st':SortSt)=>∃a4 pd4 g4,st'=SortSt.mk' κ a4 pd4 g4 none/\c'.1=none/\Chg _ a4 0 c.2/\Z1 ky a4 pd4.toList 0 c.2) (wpS_forRange (λ(t':Nat) (c':Option Unit×Unit) (st':SortSt)=>∃a4 pd4 g4,st'=SortSt.mk' κ a4 pd4 g4 none/\c'.1=none/\Chg _ a4 0 c.2/\Z1 ky a4 pd4.toList 0 c.2) ?_ (λc' st' z=>z) ⟨_,pd1,g1,rfl,rfl,Chg.refl _ _ _,R3⟩) ?_)
    ·rintro t' c' st' _ _ ⟨a4,pd4,g4,rfl,e4,c4,R4⟩
     have hp4:=c4.perm.trans hp3
     have hs4:=hsz hp4
     refine wpS_bind (wpS_get ?_)
     by_cases hz:pd4.size>1
     ·have hg:pd4[pd4.size-2]?=some (pd4[pd4.size-2]'(by omega)):=getElem?_pos _ _ _
      simp only[hz,if_true,hg]
      refine Zt (λ_=>wpS_pure ⟨a4,pd4,g4,rfl,rfl,c4,R4⟩) (λ_=>wpS_bind (ZgU hc (hP.perm hp4) (by show pd4.size-2+1<pd4.size;omega) R4 (by omega) ?_))
      intro a5 pd5 g5 c5 R5 _
      exact Zt (λz=>by cases z) (λ_=>wpS_pure ⟨a5,pd5,g5,rfl,rfl,c4.trans c5,R5⟩)
     ·simp only[hz,if_false]
      exact wpS_pure ⟨a4,pd4,g4,rfl,rfl,c4,R4⟩
    ·rintro⟨r,u⟩ st' ⟨a4,pd4,g4,rfl,e4,c4,R4⟩
     simp only at e4
     subst e4
     refine wpS_bind (wpS_modify (wpS_bind (wpS_modify (wpS_pure ⟨_,_,_,rfl,rfl,c4.perm.trans hp3,by simp only;omega,n4,?_⟩))))
     refine Z1.push (R4.ZrV ?_) n3 (so3.congr (λi i1 _=>c4.kp (.inr i1)))
     rw[Array.toList_modify]
     apply List.ext_getElem?
     intro i
     simp only[List.getElem?_map,List.getElem?_modify]
     cases pd4.toList[i]? with
     |none=>rfl
     |some v=>simp only[Option.map_some];split<;>rfl
 ·rintro c st' ⟨a1,pd1,g1,rfl,e1,hp1,ht1,hlo,hR⟩
  have e:c.2=a.size:=by
   have:max 0 a.size=a.size:=by omega
   simp only[this]at ht1;omega
  exact⟨a1,pd1,g1,rfl,e1,hp1,e▸hR⟩
 ·rintro⟨r,lo⟩ st' ⟨a1,pd1,g1,rfl,e1,hp1,hR⟩
  have hsz:∀{b:Array Keyed},b.Perm a->b.size=a.size:=λh=>by
   have:=(Array.perm_iff_toList_perm.mp h).length_eq;simpa using this
  simp only at e1
  subst e1
  have hle:=hR.le
  simp only[Array.length_toList,Nat.zero_add]at hle
  refine wpS_bind (wpS_mono (Q:=λ(c':Option Unit×Unit) (st':SortSt)=>∃a4 pd4 g4,st'=SortSt.mk' κ a4 pd4 g4 none/\c'.1=none/\a4.Perm a/\Z1 ky a4 pd4.toList 0 a.size/\pd4.size<=1) (wpS_forRange (λ(t':Nat) (c':Option Unit×Unit) (st':SortSt)=>∃a4 pd4 g4,st'=SortSt.mk' κ a4 pd4 g4 none/\c'.1=none/\a4.Perm a/\Z1 ky a4 pd4.toList 0 a.size/\pd4.size<=max 1 (a.size-t')) ?_ ?_ ⟨_,pd1,g1,rfl,rfl,hp1,hR,by omega⟩) ?_)
  ·rintro t' c' st' _ _ ⟨a4,pd4,g4,rfl,e4,hp4,R4,z4⟩
   have hs4:=hsz hp4
   refine wpS_bind (wpS_get (Zt (λhz=>wpS_pure ⟨a4,pd4,g4,rfl,rfl,hp4,R4,hz⟩) (λhz=>?_)))
   have hz:¬ pd4.size<=1:=hz
   refine wpS_bind (ZgU hc (hP.perm hp4) ?_ R4 (by omega) ?_)
   ·show(if _ then pd4.size-2-1 else pd4.size-2)+1<pd4.size
    have two:∀(c:Prop) [Decidable c],(if c then pd4.size-2-1 else pd4.size-2)+1<pd4.size:=λc _=>by split<;>omega
    exact two _
   ·intro a5 pd5 g5 c5 R5 z5
    exact Zt (λz=>by cases z) (λ_=>wpS_pure ⟨a5,pd5,g5,rfl,rfl,c5.perm.trans hp4,R5,by omega⟩)
  ·rintro c' st' ⟨a4,pd4,g4,rfl,e4,hp4,R4,z4⟩
   have z4:pd4.size<=max 1 (a.size-max 0 a.size):=z4
   exact⟨a4,pd4,g4,rfl,e4,hp4,R4,by omega⟩
  ·rintro⟨r,u⟩ st' ⟨a4,pd4,g4,rfl,e4,hp4,R4,z4⟩
   simp only at e4
   subst e4
   refine wpS_pure (hQ _ hp4 rfl ?_)
   show SoR ky a4 0 a.size
   have zl:pd4.toList.length<=1:=by simpa using z4
   match hl:pd4.toList,zl with
   |[],_=>rw[hl]at R4;have:0=a.size:=R4;omega
   |[r],_=>rw[hl]at R4;obtain⟨_,_,so,e⟩:=R4;have e:0+r.2.1=a.size:=e;rw[e]at so;exact so
   |_::_::_,z=>simp at z
end
section
variable {prog:Program}{w:World}{E:Value->Shared->Prop}{s:Shared}
theorem ZrW {α β:Type}{f:α->β}:∀{l l':List β},l'.Perm l->∀q0:List α,l=q0.map f->∃q:List α,q.Perm q0/\l'=q.map f:=by
 intro l l' h
 induction h with
 |nil=>intro q0 e;exact⟨q0,.refl _,e⟩
 |cons x h ih =>
  intro q0 e
  cases q0 with
  |nil=>cases e
  |cons a q0 =>
   rw[List.map_cons]at e
   obtain⟨e1,e2⟩:=List.cons.inj e
   obtain⟨q,hq,e3⟩:=ih q0 e2
   exact⟨a::q,hq.cons a,by rw[List.map_cons,<-e3,e1]⟩
 |swap x y l =>
  intro q0 e
  cases q0 with
  |nil=>cases e
  |cons a q0 =>
   cases q0 with
   |nil=>simp at e
   |cons b q0 =>
    simp only[List.map_cons,List.cons.injEq]at e
    exact⟨b::a::q0,List.Perm.swap a b q0,by simp only[List.map_cons];rw[e.1,e.2.1,e.2.2]⟩
 |trans h1 h2 ih1 ih2 =>
  intro q0 e
  obtain⟨q,hq,e2⟩:=ih2 q0 e
  obtain⟨q',hq',e3⟩:=ih1 q e2
  exact⟨q',hq'.trans hq,e3⟩
theorem ZrX {A:Around}{κ:SortKind}{key:Nat->Int}{vs:List Value} (h2:2<=vs.length) (ha:ZrI vs.length key (kas_ask prog w A κ vs) s) (hk:∀i j,i<vs.length->j<vs.length->vs.getD i .none=vs.getD j .none->key i=key j) :
  wpAny (model prog w) A (sortRuns'.run (SortSt.mk' κ (vs.toArray.zip vs.toArray) #[] 7 none)) (λr s'=>∃p:Array Nat,Bd vs.length p/\SoT key p vs.length/\arrOf r.2=p.map (kas_item (vs.toArray.zip vs.toArray))/\failedOf r.2=none/\s'=s) E s:=by
 have hsz:(vs.toArray.zip vs.toArray).size=vs.length:=by simp
 have hitem:∀i,i<vs.length->kas_item (vs.toArray.zip vs.toArray) i=(vs.getD i .none,vs.getD i .none):=by
  intro i hi
  unfold kas_item
  rw[Array.getD_eq_getD_getElem?,getElem?_pos _ i (by omega)]
  simp[hi]
 let P:Keyed->Prop:=λx=>∃i,i<vs.length/\x=(vs.getD i .none,vs.getD i .none)
 let ky:Keyed->Int:=λx=>@dite _ (P x) (Classical.propDecidable _) (λh=>key (Classical.choose h)) (λ_=>0)
 have hky:∀i,i<vs.length->ky (vs.getD i .none,vs.getD i .none)=key i:=by
  intro i hi
  have hp:P (vs.getD i .none,vs.getD i .none):=⟨i,hi,rfl⟩
  show @dite _ (P _) (Classical.propDecidable _) _ _=_
  rw[dif_pos hp]
  have:=Classical.choose_spec hp
  exact hk _ _ this.1 hi (Prod.mk.inj this.2).1.symm
 have hc:Zfc prog w A s κ P ky:=by
  rintro x y ⟨i,hi,rfl⟩ ⟨j,hj,rfl⟩ C hC
  rw[hky i hi,hky j hj]at hC
  exact ha i j C hi hj hC
 have hP:AllP P (vs.toArray.zip vs.toArray):=by
  intro x hx
  obtain⟨i,hi,e⟩:=Array.mem_iff_getElem.mp hx
  rw[hsz]at hi
  refine⟨i,hi,?_⟩
  rw[<-e];simp[hi]
 refine wpAny_mono (Zms (E:=E) hc hP (by omega) (Q:=λ_ st'=>(arrOf st').Perm (vs.toArray.zip vs.toArray)/\failedOf st'=none/\SoR ky (arrOf st') 0 vs.length) (λst' h1 h2 h3=>⟨h1,h2,hsz▸h3⟩)) ?_ (λ_ _ z=>z)
 rintro⟨u,st'⟩ s' ⟨rfl,hp,hf,hS⟩
 have e0:(vs.toArray.zip vs.toArray).toList=(List.range vs.length).map (kas_item (vs.toArray.zip vs.toArray)):=by
  refine List.ext_getElem (by simp) λi i1 i2=>?_
  have hi:i<vs.length:=by simpa using i2
  rw[List.getElem_map,List.getElem_range,hitem i hi]
  simp[hi]
 obtain⟨q,hq,e⟩:=ZrW (Array.perm_iff_toList_perm.mp hp) _ e0
 have hB:Bd vs.length q.toArray:=Array.perm_iff_toList_perm.mpr (by simpa using hq)
 have harr:arrOf st'=q.toArray.map (kas_item (vs.toArray.zip vs.toArray)):=by
  apply Array.toList_inj.mp
  rw[e];simp
 refine⟨q.toArray,hB,?_,harr,hf,rfl⟩
 intro i j hij hj
 have hql:q.toArray.size=vs.length:=hB.size
 have hat:∀t,t<vs.length->kp ky (arrOf st') t=kk key q.toArray t:=by
  intro t ht
  have hb:q.toArray.getD t 0<vs.length:=hB.lt (by omega) t
  unfold kk
  rw[<-hky _ hb,<-hitem _ hb]
  unfold kp
  rw[harr]
  have ht2:t<(q.toArray.map (kas_item (vs.toArray.zip vs.toArray))).size:=by rw[Array.size_map];omega
  rw[Array.getD_eq_getD_getElem?,getElem?_pos _ t ht2,Array.getElem_map,Array.getD_eq_getD_getElem?,getElem?_pos q.toArray t (by omega)]
  rfl
 rw[<-hat i (by omega),<-hat j hj]
 exact hS i j (Nat.zero_le _) hij hj
theorem ZnS {A:Around}{κ:SortKind}{key:Nat->Int}{a:Addr}{vs:List Value}{n:Nat}{P:PySem.Fin->Shared->Prop} (ho:s.heap.get? a=some (seqObj "list" vs.toArray n)) (h64:vs.length<=100000) (hcs:∀i j,i<vs.length->j<vs.length->vs.getD i .none=vs.getD j .none->key i=key j)
  (hk:∀s':Shared,(∀b o,b≠a->s.heap.get? b=some o->s'.heap.get? b=some o)->2<=vs.length->(∀Q:SortKind->Shared->Prop,Q κ s'->wpAny (model prog w) A (keyKind' vs.toArray) Q E s')/\ZrI vs.length key (kas_ask prog w A κ vs) s')
  (fin:∀p:Array Nat,Bd vs.length p->SoT key p vs.length->P (.done (.ret .none)) {s with heap:=sortedHeap s.heap a vs (Zh1 vs p)}):wpAny (model prog w) A (Builtin.«list.sort» ⟨[.ref a],[]⟩) P E s:=by
 have lt:=Heap.lt_size ho
 obtain⟨c1,oc1⟩:∃c1,(s.heap.update a (Obj.mapSeq λ_=>#[])).get? a=some (seqObj "list" #[] c1):=⟨_,get?_update_seq ho λ_=>#[]⟩
 have oc6:(((s.heap.update a (Obj.mapSeq λ_=>#[])).push (seqObj "tuple" vs.toArray 0)).push (seqObj "list" #[] 0)).get? a=some (seqObj "list" #[] c1):=Heap.get?_push_of_some _ (Heap.get?_push_of_some _ oc1)
 have kp:∀b o,b≠a->s.heap.get? b=some o->(((s.heap.update a (Obj.mapSeq λ_=>#[])).push (seqObj "tuple" vs.toArray 0)).push (seqObj "list" #[] 0)).get? b=some o:=λb o nb e =>
  Heap.get?_push_of_some _ (Heap.get?_push_of_some _ (by rw[Heap.get?_update_ne _ _ _ _ nb];exact e))
 have z1:vs.toArray.size=vs.length:=List.size_toArray ..
 have za:∀p:Array Nat,Bd vs.length p->(Zh1 vs p).size<=sizeLine:=λp hp=>by
  have:=hp.size
  unfold Zh1
  rw[List.size_toArray,List.length_map,Array.length_toList,this,sizeLine_eq];omega
 rw[list_sort_plain]
 have hob:=ho
 refine wpAny_bind (listItems_at hob rfl (wpAny_bind ?_))
 refine listUpdate_at hob rfl (wpAny_bind (seqEpoch_at oc1 rfl (wpAny_bind ?_))) (by rw[z1,sizeLine_eq];omega) (Nat.zero_le _)
 refine wpAny_newTuple (wpAny_bind ?_) (Nat.le_trans h64 (by decide))
 refine wpAny_newList (wpAny_holding ?_) (Nat.zero_le _)
 show wpAny (model prog w) A _ P E {s with heap:=(((s.heap.update a (Obj.mapSeq λ_=>#[])).push (seqObj "tuple" vs.toArray 0)).push (seqObj "list" #[] 0))}
 dsimp only
 by_cases h2:vs.toArray.size<2
 ·rw[if_pos h2,if_pos h2]
  refine wpAny_bind (wpAny_pure ?_)
  rw[StateT.run_pure]
  refine wpAny_bind (wpAny_pure ?_)
  have hB:Bd vs.length (List.range vs.length).toArray:=Array.Perm.refl _
  have e:=kas_range (vs.toArray.zip vs.toArray)
  rw[show(vs.toArray.zip vs.toArray).size=vs.length by simp]at e
  have eo:(arrOf (SortSt.mk' general' (vs.toArray.zip vs.toArray) #[] 7 none)).map (·.2)=Zh1 vs (List.range vs.length).toArray:=kat_snds (ks:=vs) (vs:=vs) rfl e.symm
  dsimp only
  rw[eo]
  refine wpAny_bind (seqEpoch_at oc6 rfl (wpAny_bind (listUpdate_at oc6 rfl ?_ (Nat.zero_le _) (Nat.le_succ_of_le (za _ hB)))))
  simp only[bne_self_eq_false,Bool.false_eq_true,if_false]
  exact wpAny_pure (fin _ hB λi j h1 hj=>by rw[show i=j by omega];exact Int.le_refl _)
 ·rw[if_neg h2,if_neg h2]
  have h2':2<=vs.length:=by omega
  obtain⟨hk1,hk2⟩:=hk {s with heap:=(((s.heap.update a (Obj.mapSeq λ_=>#[])).push (seqObj "tuple" vs.toArray 0)).push (seqObj "list" #[] 0))} kp h2'
  refine wpAny_bind (hk1 _ (wpAny_bind (wpAny_mono (ZrX h2' hk2 hcs) ?_ λ_ _ z=>z)))
  rintro⟨⟨⟩,st⟩ s' ⟨p,b1,b2,har,hf,rfl⟩
  have eo:(arrOf st).map (·.2)=Zh1 vs p:=kat_snds (ks:=vs) (vs:=vs) rfl har
  dsimp only
  rw[eo]
  refine wpAny_bind (seqEpoch_at oc6 rfl (wpAny_bind (listUpdate_at oc6 rfl ?_ (Nat.zero_le _) (Nat.le_succ_of_le (za _ b1)))))
  rw[hf]
  simp only[bne_self_eq_false,Bool.false_eq_true,if_false]
  exact wpAny_pure (fin p b1 b2)
theorem ZtI {A:Around}{κ:SortKind}{key:Nat->Int}{l:Addr}{vs:List Value}{Q:Value->Shared->Prop} (hl:s.heap.IsList l vs.toArray) (h64:vs.length<=100000) (hcs:∀i j,i<vs.length->j<vs.length->vs.getD i .none=vs.getD j .none->key i=key j)
  (hk:∀(A':Around) (E':Value->Shared->Prop) (s':Shared),(∀b o,s.heap.get? b=some o->s'.heap.get? b=some o)->2<=vs.length->(∀Q:SortKind->Shared->Prop,Q κ s'->wpAny (model prog w) A' (keyKind' vs.toArray) Q E' s')/\ZrI vs.length key (kas_ask prog w A' κ vs) s')
  (fin:∀p:Array Nat,Bd vs.length p->SoT key p vs.length->Q (.ref (s.heap.objs.size+1)) {s with heap:=sortedAll s.heap vs (Zh1 vs p)}):wpAny (model prog w) A (call (.builtin "sorted") [.ref l]) Q E s:=by
 refine Calls.call_function_entry kind_sorted plain_sorted entry_sorted (args_sorted1 _) ?_
 unfold Builtin.«sorted»
 refine wpAny_bind (m:=checkCount "sorted" 1 1 _) (wpAny_pure (wpAny_bind (collect_list hl (wpAny_bind (wpAny_newList ?_ (by rw[sizeLine_eq];omega))) (by rw[sizeLine_eq];omega))))
 have z5:((s.heap.push (seqObj "list" #[] 0)).update s.heap.objs.size (Obj.mapSeq (·++vs.toArray))).objs.size=s.heap.objs.size+1:=(Heap.size_update ..).trans (size_push' ..)
 have o5:(((s.heap.push (seqObj "list" #[] 0)).update s.heap.objs.size (Obj.mapSeq (·++vs.toArray))).push (seqObj "list" vs.toArray 0)).get? (s.heap.objs.size+1)=some (seqObj "list" vs.toArray 0):=z5▸Heap.get?_push_size _ rfl
 have kp:∀b o,s.heap.get? b=some o->(((s.heap.push (seqObj "list" #[] 0)).update s.heap.objs.size (Obj.mapSeq (·++vs.toArray))).push (seqObj "list" vs.toArray 0)).get? b=some o:=λb o e=>by
  have hlt:=Heap.lt_size e
  refine Heap.get?_push_of_some _ ?_
  rw[Heap.get?_update_ne _ _ _ _ (Nat.ne_of_lt hlt)]
  exact Heap.get?_push_of_some _ e
 show wpAny _ _ _ _ _ {s with heap:=(((s.heap.push (seqObj "list" #[] 0)).update s.heap.objs.size (Obj.mapSeq (·++vs.toArray))).push (seqObj "list" vs.toArray 0))}
 rw[z5]
 refine wpAny_bind (wpAny_holding (wpAny_call_entry slot_list_sort ⟨_,o5,rfl⟩ entry_list_sort (ZnS (κ:=κ) (key:=key) o5 h64 hcs (λs' k6 h2=>hk _ _ s' (λb o e=>k6 b o (Nat.ne_of_lt (Nat.lt_succ_of_lt (Heap.lt_size e))) (kp b o e)) h2) λp b1 b2=>⟨_,rfl,?_⟩) (args_list_sort _)))
 exact wpAny_pure ⟨_,rfl,fin p b1 b2⟩
end
section
variable {X:Cx}
noncomputable def Zlp (K:Frag):List V->Hp->VK->Prop:=λxs H Q=>∃(p:Addr) (rs:List (List Int)),xs=[.ref p]/\ZbA H p rs/\(∀r∈rs,∃x y,r=[x,y]/\0<=y/\y<100000)/\rs.length<=100000/\∀(rs':List (List Int)) (l:Addr) (H':Hp),rs'.Perm rs->rs'.Pairwise (λr r'=>ZeS r<=ZeS r')->H l=none->Zh H H'->ZbA H' l rs'->Q (.ref l) H'
theorem Zj4 {K:Frag} (hK:X.K=K):Zcw X (.builtin "sorted") (Zlp K):=by
 subst hK
 intro pins s σ H xs us Q I r h
 obtain⟨p,rs,rfl,⟨as,hp,hla,hT⟩,hR,hn,q⟩:=h
 obtain⟨u,rfl,ru⟩:=r.one
 cases(show u=Value.ref p from ru)
 obtain⟨its,rv,pl,hz⟩:=I.list (SqL.of hp)
 have hl:its.length=rs.length:=by have:=rv.length;rw[List.length_map]at this;omega
 have hits:∀i (h1:i<its.length) (h2:i<as.length),its[i]=Value.ref as[i]:=λi h1 h2=>by
  obtain⟨v,e1,e2⟩:=rv.get (i:=i) (x:=V.ref as[i]) (by rw[List.getElem?_map,List.getElem?_eq_getElem h2];rfl)
  rw[List.getElem?_eq_getElem h1]at e1
  cases e1
  exact e2
 have hPr:∀i (h1:i<its.length) (h2:i<rs.length),∃x y,rs[i]=[x,y]/\0<=y/\y<100000/\Pr s.heap its[i] x y:=λi h1 h2=>by
  obtain⟨x,y,e,y0,y1⟩:=hR _ (List.getElem_mem h2)
  obtain⟨_,tv,hv,o,g,c,n,d⟩:=I.hok _ _ (hT i (by omega) h2)
  rw[e]at hv
  obtain⟨v1,v2,rfl,⟨t1,rfl⟩,⟨t2,rfl⟩⟩:=hv.two
  exact⟨x,y,e,y0,y1,as[i]'(by omega),o,n,t1,t2,hits i h1 (by omega),g,c,d⟩
 have hPm:∀v∈its,∃x y,Pr s.heap v x y:=λv hv=>by
  obtain⟨i,h1,rfl⟩:=List.getElem_of_mem hv
  obtain⟨x,y,_,_,_,hp⟩:=hPr i h1 (by omega)
  exact⟨x,y,hp⟩
 refine ZtI (κ:=tuples' true) (key:=λi=>ZeS (rs.getD i [])) pl.isList (by omega) ?_ (λA' E' s' kp h2=>⟨λQ' hq=>ZnG h2 (λv hv=>?_) hq,λi j C hi hj hC=>?_⟩) λp' hB hS=>?_
 ·intro i j hi hj e
  obtain⟨x,y,e1,_,_,a1,o1,n1,t1,u1,q1,q2,_,q3⟩:=hPr i hi (by omega)
  obtain⟨x',y',e1',_,_,a1',o1',n1',t1',u1',q1',q2',_,q3'⟩:=hPr j hj (by omega)
  have e2:its[i]=its[j]:=by simpa[hi,hj]using e
  rw[q1,q1']at e2
  cases e2
  rw[q2]at q2'
  cases q2'
  rw[q3]at q3'
  have ei:rs.getD i []=[x,y]:=by simp[List.getD_eq_getElem?_getD,show i<rs.length by omega,e1]
  have ej:rs.getD j []=[x',y']:=by simp[List.getD_eq_getElem?_getD,show j<rs.length by omega,e1']
  cases q3'
  simp only[ei,ej]
 ·obtain⟨x,y,hp⟩:=hPm v hv
  exact⟨x,y,hp.keep kp⟩
 ·obtain⟨x,y,e,y0,y1,hp1⟩:=hPr i hi (by omega)
  obtain⟨x',y',e',y0',y1',hp2⟩:=hPr j hj (by omega)
  unfold kas_ask
  rw[show its.getD i Value.none=its[i] by simp[hi],show its.getD j Value.none=its[j] by simp[hj]]
  refine ZrJ (hp1.keep kp) (hp2.keep kp) ?_
  have ei:ZeS (rs.getD i [])=x*100000+y:=by simp[ZeS,List.getD_eq_getElem?_getD,show i<rs.length by omega,e]
  have ej:ZeS (rs.getD j [])=x'*100000+y':=by simp[ZeS,List.getD_eq_getElem?_getD,show j<rs.length by omega,e']
  have:decide (ZeS (rs.getD i [])<ZeS (rs.getD j []))=decide (x<x'\/(x=x'/\y<y')):=by rw[ei,ej];exact decide_eq_decide.mpr (by omega)
  rw[<-this];exact hC
 ·have hsz:p'.size=rs.length:=hB.size.trans hl
  have hlt:∀i∈p'.toList,i<rs.length:=λi hi=>by
   have:=(Array.perm_iff_toList_perm.mp hB).mem_iff.mp hi
   simpa[hl]using this
  have sm:Zh H (upd H (s.heap.objs.size+1) (.lst ((p'.toList.map λi=>as.getD i 0).map V.ref))):=(Zh.refl H).upd (I.hok.fresh (Nat.le_succ _))
  refine⟨.ref (s.heap.objs.size+1),_,I.laid (t':=s.toks) (a:=s.heap.objs.size+1) (o:=.lst ((p'.toList.map λi=>as.getD i 0).map V.ref)) (λb o e=>sortedAll_old e) (Nat.le_succ _) ?_,rfl,q (p'.toList.map λi=>rs.getD i []) _ _ ?_ ?_ (I.hok.fresh (Nat.le_succ _)) sm ⟨_,Zd,by simp,λi i1 i2=>sm _ _ ?_⟩⟩
  ·obtain⟨n,e⟩:=sortedAll_at s.heap its (Zh1 its p')
   refine⟨Nat.le_trans (show _<=100000 by simp;omega) (by decide),(Zh1 its p').toList,n,?_,by rw[e]⟩
   have key:∀(l:List Nat),(∀i∈l,i<rs.length)->Vals ((l.map λi=>as.getD i 0).map V.ref) (l.map λi=>its.getD i Value.none):=by
    intro l
    induction l with
    |nil=>intro _;exact .nil
    |cons a l ih =>
     intro hl'
     refine .cons ?_ (ih λi hi=>hl' i (List.mem_cons_of_mem _ hi))
     have ha:=hl' a List.mem_cons_self
     have h1:a<its.length:=by omega
     have h2:a<as.length:=by omega
     show its.getD a Value.none=Value.ref (as.getD a 0)
     rw[show its.getD a Value.none=its[a] by simp[h1],show as.getD a 0=as[a] by simp[h2]]
     exact hits a h1 h2
   exact key _ hlt
  ·have:=(Array.perm_iff_toList_perm.mp hB).map λi=>rs.getD i []
   refine this.trans ?_
   have e:((List.range its.length).toArray.toList.map λi=>rs.getD i [])=rs:=by
    rw[hl]
    refine List.ext_getElem (by simp) λi i1 i2=>?_
    have:i<rs.length:=i2
    simp[List.getD_eq_getElem?_getD,this]
   rw[e]
  ·rw[List.pairwise_iff_getElem]
   intro i j i1 j1 hij
   have i2:i<p'.size:=by simpa using i1
   have j2:j<p'.size:=by simpa using j1
   have:=hS i j (by omega) (by omega)
   unfold kk at this
   rw[Array.getD_eq_getD_getElem?,Array.getD_eq_getD_getElem?,getElem?_pos p' i i2,getElem?_pos p' j j2]at this
   simpa using this
  ·have i3:i<p'.toList.length:=by simpa using i1
   have hi:=hlt _ (List.getElem_mem i3)
   have h2:p'.toList[i]<as.length:=by omega
   have:=hT _ h2 hi
   have e1:(p'.toList.map λi=>as.getD i 0)[i]'(by simpa using i1)=as[p'.toList[i]]:=by rw[List.getElem_map,List.getD_eq_getElem?_getD,List.getElem?_eq_getElem h2];rfl
   have e2:(p'.toList.map λi=>rs.getD i [])[i]'(by simpa using i2)=rs[p'.toList[i]]:=by rw[List.getElem_map,List.getD_eq_getElem?_getD,List.getElem?_eq_getElem hi];rfl
   rw[e1,e2];exact this
end
end L2
namespace L2
open PySem PySem.Spec PyProof.Rows
section
variable {prog:Program}{w:World}{A:Around}{R:Result->Shared->Prop}{s:Shared}{elt tg iter tg1 iter1:Expr}{ifs ifs1:List Expr}{scope:Scope}{pos:Pos}{it acc:Value}{env:Env}
theorem Zlq (hs1:∀env x,foldedSetIterable iter1 env x=pure x) (I:Nat->Shared->Prop)
  (turn:∀n s,I n s->wpAny (model prog w) A (pyNext it) (λr s₁=>match r with
   |none=>R (.ok .next) s₁
   |some v=>wpAny (model prog w) A (letOwnedTupleGo tg it v) (λ_ s₁=>wpAny (model prog w) A (assign tg env v) (λ_ s₂ =>
     wpAny (model prog w) A (forIn ifs true λc r=>if r=true then do let ok <-isTrue c env (eval c env);pure (ForInStep.yield ok)else pure (ForInStep.yield r)) (λok s₃ =>
      if ok=true then wpAny (model prog w) A (eval iter1 env) (λx s₄=>wpAny (model prog w) A (pyIter x) (λit2 s₅ =>
       wpAny (model prog w) A (runOwn (.compStart (.ListComp elt [⟨tg,iter,ifs,0⟩,⟨tg1,iter1,ifs1,0⟩] scope pos) 1 it2 acc env) env) (λ_ s₆=>∃m,m<n/\I m s₆) (λ_ _=>False) s₅) (λ_ _=>False) s₄) (λ_ _=>False) s₃
      else ∃m,m<n/\I m s₃) (λ_ _=>False) s₂) (λ_ _=>False) s₁) (λ_ _=>False) s₁) (λ_ _=>False) s)
  (n:Nat) (h:I n s) :
  codeAny (model prog w) A (.compLoop (.ListComp elt [⟨tg,iter,ifs,0⟩,⟨tg1,iter1,ifs1,0⟩] scope pos) 0 it acc env) R s:=by
 refine codeAny_loop rfl I (λn s hI=>?_) n h
 show wpAny _ A ((compTurn (.ListComp elt [⟨tg,iter,ifs,0⟩,⟨tg1,iter1,ifs1,0⟩] scope pos) 0 it acc env).onRaise (λx=>do noteFrame x env;theTreesLotGoes x)) _ _ s
 refine wpAny_noted ?_
 refine wpAny_bind (m:=standAt iter.pos) (wpAny_standAt (wpAny_bind (m:=pyNext it) (wpAny_mono (turn n s hI) (λr s₁ h₁=>?_) λ_ _ h'=>h'.elim)))
 cases r with
 |none=>exact wpAny_pure h₁
 |some v =>
  refine wpAny_bind (m:=letOwnedTupleGo tg it v) (wpAny_mono h₁ (λ_ s₁' h₁=>?_) λ_ _ h'=>h'.elim)
  refine wpAny_bind (m:=assign tg env v) (wpAny_mono h₁ (λ_ s₂ h₂=>wpAny_bind (wpAny_mono h₂ (λok s₃ h₃=>?_) λ_ _ h'=>h'.elim)) λ_ _ h'=>h'.elim)
  cases ok with
  |false=>exact wpAny_pure ⟨rfl,h₃⟩
  |true =>
   refine wpAny_bind (m:=eval iter1 env) (wpAny_mono h₃ (λx s₄ h₄=>?_) λ_ _ h'=>h'.elim)
   refine wpAny_bind (m:=standAt iter1.pos) (wpAny_standAt ?_)
   refine wpAny_bind (m:=foldedSetIterable iter1 env x) ?_
   rw[hs1]
   refine wpAny_pure ?_
   refine wpAny_bind (m:=holding [x] (pyIter x)) (wpAny_holding (wpAny_mono h₄ (λit2 s₅ h₅=>?_) λ_ _ h'=>h'.elim))
   exact wpAny_bind (m:=runOwn _ env) (wpAny_mono h₅ (λ_ s₆ h₆=>wpAny_pure ⟨rfl,h₆⟩) λ_ _ h'=>h'.elim)
theorem Zlr (I:Nat->Shared->Prop)
  (turn:∀n s,I n s->wpAny (model prog w) A (pyNext it) (λr s₁=>match r with
   |none=>R (.ok .next) s₁
   |some v=>wpAny (model prog w) A (letOwnedTupleGo tg1 it v) (λ_ s₁=>wpAny (model prog w) A (assign tg1 env v) (λ_ s₂ =>
     wpAny (model prog w) A (forIn ifs1 true λc r=>if r=true then do let ok <-isTrue c env (eval c env);pure (ForInStep.yield ok)else pure (ForInStep.yield r)) (λok s₃ =>
      if ok=true then wpAny (model prog w) A (eval elt env) (λx s₄ =>
       wpAny (model prog w) A (call (.builtin "list.append") [acc,x]) (λ_ s₅=>∃m,m<n/\I m s₅) (λ_ _=>False) s₄) (λ_ _=>False) s₃
      else ∃m,m<n/\I m s₃) (λ_ _=>False) s₂) (λ_ _=>False) s₁) (λ_ _=>False) s₁) (λ_ _=>False) s)
  (n:Nat) (h:I n s) :
  codeAny (model prog w) A (.compLoop (.ListComp elt [⟨tg,iter,ifs,0⟩,⟨tg1,iter1,ifs1,0⟩] scope pos) 1 it acc env) R s:=by
 refine codeAny_loop rfl I (λn s hI=>?_) n h
 show wpAny _ A ((compTurn (.ListComp elt [⟨tg,iter,ifs,0⟩,⟨tg1,iter1,ifs1,0⟩] scope pos) 1 it acc env).onRaise (λx=>do noteFrame x env;theTreesLotGoes x)) _ _ s
 refine wpAny_noted ?_
 refine wpAny_bind (m:=standAt iter1.pos) (wpAny_standAt (wpAny_bind (m:=pyNext it) (wpAny_mono (turn n s hI) (λr s₁ h₁=>?_) λ_ _ h'=>h'.elim)))
 cases r with
 |none=>exact wpAny_pure h₁
 |some v =>
  refine wpAny_bind (m:=letOwnedTupleGo tg1 it v) (wpAny_mono h₁ (λ_ s₁' h₁=>?_) λ_ _ h'=>h'.elim)
  refine wpAny_bind (m:=assign tg1 env v) (wpAny_mono h₁ (λ_ s₂ h₂=>wpAny_bind (wpAny_mono h₂ (λok s₃ h₃=>?_) λ_ _ h'=>h'.elim)) λ_ _ h'=>h'.elim)
  cases ok with
  |false=>exact wpAny_pure ⟨rfl,h₃⟩
  |true =>
   exact wpAny_bind (m:=(do let x <-eval elt env;let _ <-call (.builtin "list.append") [acc,x];pure ())) (wpAny_bind (wpAny_mono h₃ (λx s₄ h₄=>wpAny_bind (wpAny_mono h₄ (λ_ s₅ h₅=>wpAny_pure (wpAny_pure ⟨rfl,h₅⟩)) λ_ _ h'=>h'.elim)) λ_ _ h'=>h'.elim))
theorem Zi6
  (h0:codeAny (model prog w) A (.compLoop (.ListComp elt [⟨tg,iter,ifs,0⟩,⟨tg1,iter1,ifs1,0⟩] scope pos) 1 it acc env) R s)
  (h:wpAny (model prog w) A (pyIter it) (λit' s'=>codeAny (model prog w) A (.compLoop (.ListComp elt [⟨tg,iter,ifs,0⟩,⟨tg1,iter1,ifs1,0⟩] scope pos) 1 it' acc env) R s') (λ_ _=>False) s) :
  codeAny (model prog w) A (.compStart (.ListComp elt [⟨tg,iter,ifs,0⟩,⟨tg1,iter1,ifs1,0⟩] scope pos) 1 it acc env) R s:=by
 refine codeAny_of_tree ?_
 show wpAny _ _ ((compStart (.ListComp elt [⟨tg,iter,ifs,0⟩,⟨tg1,iter1,ifs1,0⟩] scope pos) 1 it acc env).onRaise (λx=>do noteFrame x env;standAt theWindowsPlace)) _ _ s
 refine wpAny_onRaise (wpAny_mono (E:=λ_ _=>False) ?_ (λ_ _ q=>q) λ_ _ z=>z.elim)
 unfold compStart
 show wpAny _ _ (ask >>= _) _ _ s
 refine wpAny_bind (wpAny_askSetting (wpAny_ite ?_))
 split
 ·first
   |exact wpAny_bind (wpAny_pure (wpAny_pure (And.intro rfl h0)))
   |exact wpAny_pure (And.intro rfl h0)
 ·first
   |exact wpAny_bind (wpAny_rule (wpAny_bind (wpAny_standAt (wpAny_bind (wpAny_mono h (λit' s' h'=>wpAny_pure (And.intro rfl h')) λ_ _ x=>x)))))
   |(refine wpAny_bind (wpAny_rule ?_);show wpAny _ _ (standAt iter1.pos >>= _) _ _ s;exact wpAny_bind (wpAny_standAt (wpAny_bind (wpAny_mono h (λit' s' h'=>wpAny_pure (And.intro rfl h')) λ_ _ x=>x))))
end
noncomputable def Zls (J2:It) (g1:TG) (tt1:TT) (te:TE) (σ2:St) (acc:List V) (F:List V->Hp->Prop) (H4:Hp):Prop:=∃W2:Nat->Nat->List V->Hp->Prop,(∃m2,W2 0 m2 acc H4)/\∀j m2 acc2 H5,W2 j m2 acc2 H5 ->
 (J2.stop j H5/\F acc2 H5) \/
 (J2.go j H5/\acc2.length<sizeLine/\∀x2 H6,J2.yld j H5 x2 H6->g1 x2 σ2 H6 fun σ3 H7=>tt1 σ3 H7 λb2 H8=>if b2=true then te σ3 H8 λv H9=>∃m',m'<m2/\W2 (j+1) m' (acc2++[v]) H9 else ∃m',m'<m2/\W2 (j+1) m' acc2 H8)
noncomputable def ZnT (J:It) (g:TG) (tt:TT) (wi1:TI) (g1:TG) (tt1:TT) (te:TE) (σ0:St) (Q:VK) (H1:Hp):Prop:=∃W:Nat->Nat->List V->Hp->Prop,(∃m,W 0 m [] H1)/\∀i m acc H,W i m acc H ->
 (J.stop i H/\acc.length<=sizeLine/\∀p,H p=none->Q (.ref p) (upd H p (.lst acc))) \/
 (J.go i H/\acc.length<=sizeLine/\∀x H',J.yld i H x H'->g x σ0 H' fun σ2 H2=>tt σ2 H2 λb H3=>if b=true then wi1 σ2 H3 λJ2 H4=>Zls J2 g1 tt1 te σ2 acc (λacc2 H5=>∃m',m'<m/\W (i+1) m' acc2 H5) H4 else ∃m',m'<m/\W (i+1) m' acc H3)
noncomputable def ZnU (wi:TI) (g:TG) (tt:TT) (wi1:TI) (g1:TG) (tt1:TT) (te:TE) (js:List (Option Nat)):TE:=fun σ H Q=>wi σ H λJ H1=>ZnT J g tt wi1 g1 tt1 te (ZW js σ) Q H1
theorem Zkz {wi wi1:TI}{g g1:TG}{tt tt1:TT}{te:TE}{js:List (Option Nat)}{σ:St}{H:Hp}{Q:VK}:ZnU wi g tt wi1 g1 tt1 te js σ H Q=wi σ H λJ H1=>ZnT J g tt wi1 g1 tt1 te (ZW js σ) Q H1:=rfl
section
variable {X:Cx}
theorem ZpG {pins:List (Addr×Obj)}{σ:St}{H:Hp}{s:Shared}{tg elt iter tg1 iter1:Expr}{ifs ifs1:List Expr}{scope:Scope}{pos:Pos}{wi wi1:TI}{g g1:TG}{tt tt1:TT}{te:TE}{Nc:List Str}{js:List (Option Nat)}{use:Option (Value->Sem Unit)}{Q:VK}{QQ:Value->Shared->Prop}
  (hc:X.calm=true) (hok:compOk X.env.scope scope=true) (htk:takesC X.N Nc scope js 0=true) (hi:PI X tg iter wi)
  (hg:∀cl C s2 H2 fp,PG (ZaJ X Nc scope cl C s2 H2 fp) tg g) (ht:∀cl C s2 H2 fp,Zij (ZaJ X Nc scope cl C s2 H2 fp) ifs tt) (hi1:∀cl C s2 H2 fp,PI (ZaJ X Nc scope cl C s2 H2 fp) tg1 iter1 wi1) (hg1:∀cl C s2 H2 fp,PG (ZaJ X Nc scope cl C s2 H2 fp) tg1 g1) (ht1:∀cl C s2 H2 fp,Zij (ZaJ X Nc scope cl C s2 H2 fp) ifs1 tt1) (he:∀cl C s2 H2 fp,PE (ZaJ X Nc scope cl C s2 H2 fp) elt te)
  (hs:∀x,foldedSetIterable iter X.env x=pure x) (hs1:∀env x,foldedSetIterable iter1 env x=pure x) {L L1:List Nat} (ho:Zf6 g L) (ho1:Zf6 g1 L1) (hL:(L.all λk=>js[k]?==some none)=true) (hL1:(L1.all λk=>js[k]?==some none&&!L.contains k)=true) (I:Inv X pins σ H s) (h:ZnU wi g tt wi1 g1 tt1 te js σ H Q)
  (fin:∀(D C:Addr) (H' H2:Hp) (s2 s':Shared) (xs:List V) (m:Str->Option Value),Inv X pins σ H2 s2->H' C=none->C=D+1->D=s2.heap.objs.size->s'.heap.Ns C m->(∀h',Heap.SameBut C s'.heap h'->Inv X pins σ (upd H' D (.lst xs)) {s' with heap:=h'})->Q (.ref D) (upd H' D (.lst xs)) ->
   compPost (model X.prog X.w) X.A X.xe use QQ (.ref D) C (.ok .next) s') :
  wpAny (model X.prog X.w) X.A (comprehension (.ListComp elt [⟨tg,iter,ifs,0⟩,⟨tg1,iter1,ifs1,0⟩] scope pos) scope X.env (firstIterPos [⟨tg,iter,ifs,0⟩,⟨tg1,iter1,ifs1,0⟩] pos) (newList []) false (eval iter X.env) use) QQ X.xe s:=by
 have hcells:∀y∈scope.names,y.2=.free->∃c,X.env.cells.lookup y.1=some c:=λy hy hf=>I.ok.has y.1 (Zdg hok y hy hf)
 obtain⟨cl,hcl,up,hfr⟩:=ZiG hcells
 have hk:=Zde hok
 have hcell:=Zdf hok
 refine wpAny_comprehension_free (use:=use) rfl hs hcl hk (Zk2 hok) (thn (hi pins s σ H _ I h) λv s1 h1=>thn h1 λitv s2 h2=>?_)
 obtain⟨it,fp,tn,J,H2,e,I2,T,st2,f2,W,⟨m0,w0⟩,turn⟩:=h2
 subst e
 refine wpAny_newObj_type (wpAny_newFunctionEnv hcell (by intro y hy;simp at hy) (λh₁ hns₁ hsb₁=>?_) hk)
 dsimp only at hns₁ hsb₁⊢
 generalize hH2:s2.heap.push {cls:=.type "list",dict:=none,data:=.seq ([]:List Value).toArray}=HH at hns₁ hsb₁⊢
 have hC:HH.objs.size=s2.heap.objs.size+1:=by rw[<-hH2,Heap.size_push]
 have hfl:∀b∈fp,b<s2.heap.objs.size:=λb hb=>by
  obtain⟨o,ho,_⟩:=T.obj 0 _ st2 b hb
  exact Heap.lt_size ho
 have hDC:s2.heap.objs.size≠HH.objs.size:=by rw[hC];exact Nat.ne_of_lt (Nat.lt_succ_self _)
 have old:∀b o,s2.heap.get? b=some o->h₁.get? b=some o:=λb o e=>hsb₁.extBut b o (by rw[hC];exact Nat.ne_of_lt (Nat.lt_succ_of_lt (Heap.lt_size e))) (Heap.get?_push_of_some _ (hH2▸Heap.get?_push_of_some _ e))
 have hacc:h₁.get? s2.heap.objs.size=some {cls:=.type "list",dict:=none,data:=.seq ([]:List Value).toArray}:=hsb₁.extBut _ _ hDC (Heap.get?_push_of_some _ (hH2▸Heap.get?_push_size _ rfl))
 have I4:=Znl (Nc:=Nc) (js:=js) (tk:=s2.toks+([]:List (Str×Value)).length) I2 hok htk up hfr f2 hfl rfl hC old hns₁ hacc (by intro v z;cases z)
 have st4:tn 0 h₁:=T.keep _ _ _ st2 λb _ o e=>old b o e
 generalize hXc:ZaJ X Nc scope cl HH.objs.size s2 H2 fp=Xc at I4
 have hXA:Xc.A=X.A:=by rw[<-hXc];rfl
 have hXe:Xc.env=compEnvC scope cl HH.objs.size X.env:=by rw[<-hXc];rfl
 have hXp:Xc.prog=X.prog:=by rw[<-hXc];rfl
 have hXw:Xc.w=X.w:=by rw[<-hXc];rfl
 have hXx:Xc.xe=λ_ _=>False:=by rw[<-hXc];rfl
 have hXk:Xc.K=X.K:=by rw[<-hXc];rfl
 have hXcalm:Xc.calm=true:=by rw[<-hXc];exact hc
 have fpok:∀{pl:List (Addr×Obj)}{H':Hp},(∀p∈pl,s2.heap.objs.size<=p.1)->(∀b∈fp,H' b=none)->∀b∈fp,FpOk Xc pl H' b:=λ{pl H'} hpl hn b hb=>by
  have k1:b≠HH.objs.size:=Nat.ne_of_lt (by rw[hC];exact Nat.lt_succ_of_lt (hfl b hb))
  have k2:b∉frs X.stack:=λq=>by
   rcases List.mem_cons.mp (I2.Ze0 b q)with z|z
   ·exact(f2 b hb).2.1 z
   ·exact(f2 b hb).2.2.1 z
  rw[<-hXc]
  refine⟨hn b hb,k1,k2,.inl hb,λx c e=>(f2 b hb).2.2.2.2.1 x c (up _ _ e),λp hp=>?_⟩
  have hp':p∈pl:=by simpa[ZaJ]using hp
  exact Nat.ne_of_gt (Nat.lt_of_lt_of_le (hfl b hb) (hpl p hp'))
 have gX:PG Xc tg g:=hXc▸hg cl HH.objs.size s2 H2 fp
 have tX:Zij Xc ifs tt:=hXc▸ht cl HH.objs.size s2 H2 fp
 have iX:PI Xc tg1 iter1 wi1:=hXc▸hi1 cl HH.objs.size s2 H2 fp
 have gX1:PG Xc tg1 g1:=hXc▸hg1 cl HH.objs.size s2 H2 fp
 have tX1:Zij Xc ifs1 tt1:=hXc▸ht1 cl HH.objs.size s2 H2 fp
 have eX:PE Xc elt te:=hXc▸he cl HH.objs.size s2 H2 fp
 have hs0:Xc.s₀=s2:=by rw[<-hXc];rfl
 have hh0:Xc.H₀=H2:=by rw[<-hXc];rfl
 have hfs:Xc.fs=frs X.stack:=by rw[<-hXc];rfl
 have hex:Xc.ex=fp:=by rw[<-hXc];rfl
 have loop:codeAny (model X.prog X.w) X.A (.compLoop (.ListComp elt [⟨tg,iter,ifs,0⟩,⟨tg1,iter1,ifs1,0⟩] scope pos) 0 (.ref it) (.ref s2.heap.objs.size) (compEnvC scope cl HH.objs.size X.env)) (compPost (model X.prog X.w) X.A X.xe use QQ (.ref s2.heap.objs.size) HH.objs.size)
   {s2 with heap:=h₁,toks:=s2.toks+([]:List (Str×Value)).length}:=by
  refine Zlq hs1 (λn s'=>∃i acc its nn H',Inv Xc [(s2.heap.objs.size,{cls:=.type "list",dict:=none,data:=.seq (its:List Value).toArray nn})] (ZW js σ) H' s'/\Vals acc its/\acc.length<=sizeLine/\tn i s'.heap/\(∀b∈fp,H' b=none)/\W i n acc H') ?_ m0
   ⟨0,[],[],0,H2,I4,.nil,Nat.zero_le _,st4,λb hb=>(f2 b hb).1,w0⟩
  rintro n s3 ⟨i,acc,its,nn,H3,I3,va,hlen,st3,fr3,w3⟩
  have pg:∀p∈([(s2.heap.objs.size,{cls:=.type "list",dict:=none,data:=.seq its.toArray nn})]:List (Addr×Obj)),s2.heap.objs.size<=p.1:=λp hp=>by
   simp only[List.mem_cons,List.not_mem_nil,or_false]at hp
   subst hp;exact Nat.le_refl _
  rcases turn i n acc H3 w3 with⟨stop,hl,qn⟩|⟨go,hl,step⟩
  ·have q:=T.done Xc hXp hXw hXk hXcalm i _ s3 (ZW js σ) H3 (λ_ _=>False) I3 (fpok pg fr3) st3 stop
   rw[hXA]at q
   refine thn q λr s4 ⟨hr,I5⟩=>?_
   subst hr
   have hpin:=I5.pin _ (List.mem_append_right _ (.head _))
   obtain⟨m5,hn5,_⟩:=I5.loc
   rw[hXe]at hn5
   refine fin _ _ H3 H2 s2 s4 acc m5 I2 (by have:=I5.free;rw[hXe]at this;exact this) hC rfl hn5 (λh' hsb=>?_) (qn _ hpin.2.1)
   have same:∀b o,b≠HH.objs.size->s4.heap.get? b=some o->h'.get? b=some o:=λb o hb e=>hsb.extBut b o hb e
   have un:=I5.base
   rw[hfs,hex,hh0,hs0]at un
   have lt:∀b o,s2.heap.get? b=some o->b<s2.heap.objs.size:=λb o e=>Heap.lt_size e
   have neC:∀b o,s2.heap.get? b=some o->b≠HH.objs.size:=λb o e=>Nat.ne_of_lt (by rw[hC];exact Nat.lt_succ_of_lt (lt b o e))
   have neD:∀b o,s2.heap.get? b=some o->b≠s2.heap.objs.size:=λb o e=>Nat.ne_of_lt (lt b o e)
   have trkC:∀b o,H3 b=some o->b≠HH.objs.size:=λb o e z=>by
    have:=I5.free;rw[hXe]at this;rw[z,show H3 HH.objs.size=none from this]at e;cases e
   refine I2.Zq4 (s':={s4 with heap:=h'}) (ch:=fp) (I5.os.trans (by rw[hs0])) ⟨λb o e n hb hx=>same _ _ (neC b o e) (un.keep b o e n hb hx),λb o e n hb hx=>?_,λb o e n hx=>by rw[Zj (neD b o e)];exact un.free b o e n hx,λb o e hx=>?_,λb xs e=>?_,λb o u e=>?_,λb ps e=>?_⟩ (λa o e=>?_) I5.bare λb hb=>⟨(f2 b hb).2.2.2.1,(f2 b hb).2.1,(f2 b hb).2.2.2.2.1,(f2 b hb).2.2.2.2.2⟩
   ·obtain⟨sl,z⟩:=un.slot b o e n hb hx
    exact⟨sl,same _ _ (neC b o e) z⟩
   ·obtain⟨o',z⟩:=un.there b o e hx
    exact⟨o',same _ _ (neC b o e) z⟩
   ·rw[Zj (Nat.ne_of_lt (I2.hok.lt e))];exact un.tups b xs e
   ·rw[Zj (Nat.ne_of_lt (I2.hok.lt e))];exact un.frzs b o u e
   ·obtain⟨more,z⟩:=un.tbls b ps e
    exact⟨more,by rw[Zj (Nat.ne_of_lt (I2.hok.lt e))];exact z⟩
   ·by_cases ha:a=s2.heap.objs.size
    ·subst ha
     rw[Zd]at e;cases e
     exact⟨hl,its,nn,va,same _ _ hDC hpin.1⟩
    ·rw[Zj ha]at e
     have q:=I5.hok a o e
     rw[hXp,hXw]at q
     refine q.Zih (λb u hb z=>same b u ?_ z) (λb z=>by rw[Zj];exact z;intro y;subst y;rw[hpin.2.1]at z;cases z) (λb xs z=>by rw[Zj];exact z;intro y;subst y;rw[hpin.2.1]at z;cases z) λb o u z=>by rw[Zj];exact z;intro y;subst y;rw[hpin.2.1]at z;cases z
     rcases hb with hb|hb
     ·subst hb;exact trkC _ _ e
     ·exact trkC _ _ hb
  ·have q:=T.item Xc hXp hXw hXk hXcalm i _ s3 (ZW js σ) H3 (λ_ _=>False) I3 (fpok pg fr3) st3 go
   rw[hXA]at q
   refine thn q λr s4 ⟨u,hr,h4⟩=>?_
   subst hr
   refine thn h4 λ_ s5 ⟨x,H5,I5,r5,y5,st5,fr5⟩=>?_
   have I5':=I5.pinned (fpok pg fr5) (T.obj _ _ st5)
   have again:∀{σ7:St}{H7:Hp}{s7:Shared}{acc7:List V}{its7:List Value}{n7:Nat}{m:Nat},Inv Xc ([(s2.heap.objs.size,{cls:=.type "list",dict:=none,data:=.seq its7.toArray n7})]++Zan fp s5.heap) σ7 H7 s7->Vals acc7 its7->acc7.length<=sizeLine->W (i+1) m acc7 H7->σ7.length=(ZW js σ).length->(∀(k:Nat) v,(ZW js σ)[k]?=some (some v)->σ7[k]?=some (some v)) ->
     ∃i acc its nn H',Inv Xc [(s2.heap.objs.size,{cls:=.type "list",dict:=none,data:=.seq (its:List Value).toArray nn})] (ZW js σ) H' s7/\Vals acc its/\acc.length<=sizeLine/\tn i s7.heap/\(∀b∈fp,H' b=none)/\W i m acc H':=λ{σ7 H7 s7 acc7 its7 n7 m} I7 v7 l7 w7 hl7 hw7=>by
    refine⟨i+1,acc7,its7,n7,H7,(I7.weak hl7.symm hw7).Zb5,v7,l7,T.keep _ _ _ st5 λb hb o e=>(I7.pin (b,o) (List.mem_append_right _ (List.mem_append_right _ (ZaK hb e)))).1,λb hb=>?_,w7⟩
    obtain⟨o,e,d⟩:=T.obj _ _ st5 b hb
    exact(I7.pin (b,o) (List.mem_append_right _ (List.mem_append_right _ (ZaK hb e)))).2.1
   have keep:∀{σ6:St},Zb9 L (ZW js σ) σ6->σ6.length=(ZW js σ).length/\∀(k:Nat) v,(ZW js σ)[k]?=some (some v)->σ6[k]?=some (some v):=λ{σ6} hk=>⟨hk.1,λk v e=>by
    rw[hk.2 k]
    ·exact e
    ·intro z
     have q:=List.all_eq_true.mp hL k z
     simp only[beq_iff_eq]at q
     unfold ZW at e
     rw[List.getElem?_map,q]at e
     cases e⟩
   have q6:=gX _ s5 (ZW js σ) H5 x u _ I5' r5 (ho _ _ _ _ _ (fun σ' H' kk z=>And.intro kk z) (step x H5 y5))
   rw[hXe,hXA,hXp,hXw,hXx]at q6
   refine thn q6 λ_ s6 ⟨σ6,H6,I6,k6,q6⟩=>?_
   obtain⟨kl,kv⟩:=keep k6
   have q7:=tX _ s6 σ6 H6 _ I6 q6
   rw[hXe,hXA,hXp,hXw,hXx]at q7
   refine thn q7 λb s7 ⟨H7,I7,q7⟩=>?_
   cases b with
   |false =>
    obtain⟨m',hm,w7⟩:=q7
    exact⟨m',hm,again I7 va hlen w7 kl kv⟩
   |true =>
    have q8:=iX _ s7 σ6 H7 _ I7 q7
    rw[hXe,hXA,hXp,hXw,hXx]at q8
    refine thn q8 λy s8 h8=>thn h8 λitv s9 h9=>?_
    obtain⟨it2,fp2,tn2,J2,H9,rfl,I9,T2,st9,f9,W2,⟨m2,w2⟩,turn2⟩:=h9
    rw[hXp,hXw]at T2
    have kv1:∀{σ':St},Zb9 L1 σ6 σ'->σ'.length=σ6.length/\∀(k:Nat) v,σ6[k]?=some (some v)->σ'[k]?=some (some v):=λ{σ'} hk=>⟨hk.1,λk v e=>by
     rw[hk.2 k]
     ·exact e
     ·intro z
      have q:=List.all_eq_true.mp hL1 k z
      simp only[Bool.and_eq_true,beq_iff_eq,Bool.not_eq_true']at q
      have hk6:=k6.2 k (λzz=>by rw[List.contains_iff_mem.mpr zz]at q;cases q.2)
      rw[hk6]at e
      unfold ZW at e
      rw[List.getElem?_map,q.1]at e
      cases e⟩
    have loop2:codeAny (model X.prog X.w) X.A (.compLoop (.ListComp elt [⟨tg,iter,ifs,0⟩,⟨tg1,iter1,ifs1,0⟩] scope pos) 1 (.ref it2) (.ref s2.heap.objs.size) (compEnvC scope cl HH.objs.size X.env)) (λr s'=>match r with
      |.ok _=>∃m,m<n/\∃i acc its nn H',Inv Xc [(s2.heap.objs.size,{cls:=.type "list",dict:=none,data:=.seq (its:List Value).toArray nn})] (ZW js σ) H' s'/\Vals acc its/\acc.length<=sizeLine/\tn i s'.heap/\(∀b∈fp,H' b=none)/\W i m acc H'
      |.error _=>False) s9:=by
     refine Zlr (λn2 s'=>∃j acc2 its2 nn2 H',Inv Xc ([(s2.heap.objs.size,{cls:=.type "list",dict:=none,data:=.seq (its2:List Value).toArray nn2})]++Zan fp s5.heap) σ6 H' s'/\Vals acc2 its2/\acc2.length<=sizeLine/\tn2 j s'.heap/\(∀b∈fp2,H' b=none)/\W2 j n2 acc2 H') ?_ m2
      ⟨0,acc,its,nn,H9,I9,va,hlen,st9,λb hb=>(f9 b hb).1,w2⟩
     rintro n2 sA ⟨j,acc2,its2,nn2,HA,IA,va2,hlen2,stA,frA,wA⟩
     have fpok2:∀{its3:List Value}{nn3:Nat}{H':Hp},(∀b∈fp2,H' b=none)->∀b∈fp2,FpOk Xc ([(s2.heap.objs.size,{cls:=.type "list",dict:=none,data:=.seq its3.toArray nn3})]++Zan fp s5.heap) H' b:=λ{its3 nn3 H'} hn b hb=>by
      obtain⟨z1,z2,z3,z4,z5,z6⟩:=f9 b hb
      refine⟨hn b hb,z2,z3,z4,z5,λp hp=>?_⟩
      rcases List.mem_append.mp hp with z|z
      ·exact z6 p (List.mem_append_left _ z)
      ·rcases List.mem_append.mp z with z|z
       ·simp only[List.mem_cons,List.not_mem_nil,or_false]at z
        subst z
        exact z6 (s2.heap.objs.size,{cls:=.type "list",dict:=none,data:=.seq its.toArray nn}) (List.mem_append_right _ (List.mem_append_left _ (.head _)))
       ·exact z6 p (List.mem_append_right _ (List.mem_append_right _ z))
     rcases turn2 j n2 acc2 HA wA with⟨stop,m',hm,wN⟩|⟨go,hl,step⟩
     ·have q:=T2.done Xc hXp hXw rfl hXcalm j _ sA σ6 HA (λ_ _=>False) IA (fpok2 frA) stA stop
      rw[hXA]at q
      refine thn q λr sB ⟨hr,IB⟩=>?_
      subst hr
      exact⟨m',hm,again IB va2 hlen2 wN kl kv⟩
     ·have q:=T2.item Xc hXp hXw rfl hXcalm j _ sA σ6 HA (λ_ _=>False) IA (fpok2 frA) stA go
      rw[hXA]at q
      refine thn q λr sB ⟨u2,hr,hB⟩=>?_
      subst hr
      refine thn hB λ_ sC ⟨x2,HC,IC,rC,yC,stC,frC⟩=>?_
      have IC':=IC.pinned (fpok2 frC) (T2.obj _ _ stC)
      have again2:∀{σ7:St}{H7:Hp}{s7:Shared}{acc7:List V}{its7:List Value}{n7:Nat}{m:Nat},Inv Xc (([(s2.heap.objs.size,{cls:=.type "list",dict:=none,data:=.seq its7.toArray n7})]++Zan fp s5.heap)++Zan fp2 sC.heap) σ7 H7 s7->Vals acc7 its7->acc7.length<=sizeLine->W2 (j+1) m acc7 H7->σ7.length=σ6.length->(∀(k:Nat) v,σ6[k]?=some (some v)->σ7[k]?=some (some v)) ->
        ∃j acc2 its2 nn2 H',Inv Xc ([(s2.heap.objs.size,{cls:=.type "list",dict:=none,data:=.seq (its2:List Value).toArray nn2})]++Zan fp s5.heap) σ6 H' s7/\Vals acc2 its2/\acc2.length<=sizeLine/\tn2 j s7.heap/\(∀b∈fp2,H' b=none)/\W2 j m acc2 H':=λ{σ7 H7 s7 acc7 its7 n7 m} I7 v7 l7 w7 hl7 hw7=>by
       refine⟨j+1,acc7,its7,n7,H7,(I7.weak hl7.symm hw7).Zb5,v7,l7,T2.keep _ _ _ stC λb hb o e=>(I7.pin (b,o) (List.mem_append_right _ (List.mem_append_right _ (ZaK hb e)))).1,λb hb=>?_,w7⟩
       obtain⟨o,e,d⟩:=T2.obj _ _ stC b hb
       exact(I7.pin (b,o) (List.mem_append_right _ (List.mem_append_right _ (ZaK hb e)))).2.1
      have qD:=gX1 _ sC σ6 HC x2 u2 _ IC' rC (ho1 _ _ _ _ _ (fun σ' H' kk z=>And.intro kk z) (step x2 HC yC))
      rw[hXe,hXA,hXp,hXw,hXx]at qD
      refine thn qD λ_ sD ⟨σD,HD,ID,kD,qD⟩=>?_
      obtain⟨kl1,kv1'⟩:=kv1 kD
      have qE:=tX1 _ sD σD HD _ ID qD
      rw[hXe,hXA,hXp,hXw,hXx]at qE
      refine thn qE λb sE ⟨HE,IE,qE⟩=>?_
      cases b with
      |false =>
       obtain⟨m',hm,wE⟩:=qE
       exact⟨m',hm,again2 IE va2 hlen2 wE kl1 kv1'⟩
      |true =>
       have qF:=eX _ sE σD HE _ IE qE
       rw[hXe,hXA,hXp,hXw,hXx]at qF
       refine thn qF λy sF ⟨vF,HF,IF,rF,m',hm,wF⟩=>?_
       have pinD:=IF.pin _ (List.mem_append_right _ (List.mem_append_left _ (List.mem_append_left _ (.head _))))
       have hnf:∀p∈Zan fp s5.heap++Zan fp2 sC.heap,p.1≠s2.heap.objs.size:=λp hp=>by
        rcases List.mem_append.mp hp with z|z
        ·obtain⟨z,_⟩:=ZfM z
         exact Nat.ne_of_lt (hfl _ z)
        ·obtain⟨z,_⟩:=ZfM z
         obtain⟨_,_,_,_,_,z6⟩:=f9 _ z
         exact λzz=>z6 _ (List.mem_append_right _ (List.mem_append_left _ (.head _))) zz.symm
       have va':=va2.length
       refine call_meets F.slot_list_append ⟨_,pinD.1,rfl⟩ F.entry_list_append (F.args_list_append_2 _ _) (PySem.list_append s2.heap.objs.size its2.toArray nn2 y (by rw[List.size_toArray];omega)) ⟨pinD.1,?_⟩
       have e9:=PySem.IsL.update pinD.1 (λa=>a.push y)
       have e9':its2.toArray.push y=(its2++[y]).toArray:=by simp
       dsimp only at e9
       rw[e9']at e9
       have I8':Inv Xc (Zan fp s5.heap++Zan fp2 sC.heap) σD HF sF:=IF.ZX λp hp=>IF.pin p (List.mem_append_right _ (by rw[List.append_assoc];exact List.mem_append_right _ hp))
       have hXpn:Xc.pn=[]:=by rw[<-hXc];rfl
       have I9:=I8'.turned (t':=sF.toks) (it:=s2.heap.objs.size) (h':=sF.heap.update s2.heap.objs.size (Obj.mapSeq λa=>a.push y)) (λb o hb e=>(Heap.get?_update_other sF.heap _ (Ne.symm hb)).trans e) pinD.2.1 pinD.2.2.1
        (.inr (by rw[hs0];exact Nat.le_refl _)) (λx c e=>by
         rw[hXe]at e
         intro z
         obtain⟨v,q⟩:=I2.cell x c (up _ _ e)
         exact absurd q.lt (by rw[z];exact Nat.lt_irrefl _)) (λp hp=>by rw[hXpn,List.nil_append]at hp;exact hnf p hp)
       have I10:=I9.ZX (pins':=([(s2.heap.objs.size,{cls:=.type "list",dict:=none,data:=.seq (its2++[y]).toArray _})]++Zan fp s5.heap)++Zan fp2 sC.heap) λp hp=>by
        rw[List.append_assoc]at hp
        rcases List.mem_append.mp hp with z|z
        ·simp only[List.mem_cons,List.not_mem_nil,or_false]at z
         subst z
         exact⟨e9,pinD.2.1,pinD.2.2.1,pinD.2.2.2.1,by intro v z;cases z⟩
        ·exact I9.pin p (List.mem_append_right _ z)
       exact⟨m',hm,again2 I10 (va2.append (.cons rF .nil)) (by rw[List.length_append,List.length_singleton];omega) wF kl1 kv1'⟩
    refine wpAny_runOwn ?_
    refine codeAny_mono (Zi6 loop2 (T2.self _ 0 _ _ _ st9 loop2)) λr s' hr=>?_
    cases r with
    |ok f=>exact hr
    |error e=>exact hr.elim
 exact codeAny_compStart_list loop (T.self _ 0 _ _ _ st4 loop)
theorem ZrY {i:Nat}{x:Str}{pos' spos:Pos}{tg elt iter tg1 iter1:Expr}{ifs ifs1:List Expr}{scope:Scope}{pos:Pos}{wi wi1:TI}{g g1:TG}{tt tt1:TT}{te:TE} (Nc:List Str) (js:List (Option Nat)) {L L1:List Nat}
  (hN:X.N.Nodup) (hxi:X.N[i]?=some x) (hx:Loc X.env.scope x)
  (hc:X.calm=true) (hok:compOk X.env.scope scope=true) (htk:takesC X.N Nc scope js 0=true) (hi:PI X tg iter wi)
  (hg:∀cl C s2 H2 fp,PG (ZaJ X Nc scope cl C s2 H2 fp) tg g) (ht:∀cl C s2 H2 fp,Zij (ZaJ X Nc scope cl C s2 H2 fp) ifs tt) (hi1:∀cl C s2 H2 fp,PI (ZaJ X Nc scope cl C s2 H2 fp) tg1 iter1 wi1) (hg1:∀cl C s2 H2 fp,PG (ZaJ X Nc scope cl C s2 H2 fp) tg1 g1) (ht1:∀cl C s2 H2 fp,Zij (ZaJ X Nc scope cl C s2 H2 fp) ifs1 tt1) (he:∀cl C s2 H2 fp,PE (ZaJ X Nc scope cl C s2 H2 fp) elt te)
  (ho:Zf6 g L) (ho1:Zf6 g1 L1) (hL:(L.all λk=>js[k]?==some none)=true:=by rfl) (hL1:(L1.all λk=>js[k]?==some none&&!L.contains k)=true:=by rfl) (hs:∀x,foldedSetIterable iter X.env x=pure x:=by intro _;rfl) (hs1:∀env x,foldedSetIterable iter1 env x=pure x:=by intro _ _;rfl)
  (hsw:swapsWith (.ListComp elt [⟨tg,iter,ifs,0⟩,⟨tg1,iter1,ifs1,0⟩] scope pos) (some (.Name x pos')) spos.line X.env=pure true:=by rfl)
  (hf:X.fn x=true\/X.env.scope.names.lookup x=some .local:=by first|exact .inl rfl|exact .inr rfl|assumption) :
  PS X (.Assign [.Name x pos'] (.ListComp elt [⟨tg,iter,ifs,0⟩,⟨tg1,iter1,ifs1,0⟩] scope pos) spos) (Zo0 (ZnU wi g tt wi1 g1 tt1 te js) (Ze4 i)):=by
 intro pins s σ H D I h
 rw[exec_Assign_Name_used _ _ _ _ hsw]
 refine wpAny_bind (wpAny_standAt (wpAny_bind ?_))
 show wpAny _ _ (comprehension _ _ _ _ _ _ _ _ >>= _) _ _ _
 refine wpAny_bind (thn (Q:=λ_ s'=>∃σ' H',Inv X pins σ' H' s'/\D.nx σ' H') (ZpG (Q:=λv H1=>Ze4 i v σ H1 D.nx) (use:=some (assign (.Name x pos') X.env)) hc hok htk hi hg ht hi1 hg1 ht1 he hs hs1 ho ho1 hL hL1 I h ?_) λ_ s' ⟨σ',H',I',q⟩=>wpAny_pure (wpAny_pure ⟨σ',H',I',q⟩))
 intro D' C H' H2 s2 s' xs m I2 hHC e1 e2 hn hI q
 obtain⟨oC,es,ep,hoC,hdC,hrest⟩:=id hn
 have leC:s2.heap.objs.size<=C:=by rw[e1,e2];exact Nat.le_succ _
 have ltC:s2.heap.objs.size<C:=by rw[e1,e2];exact Nat.lt_succ_self _
 have neDC:C≠D':=by rw[e2];exact Nat.ne_of_gt ltC
 have fresh:s2.heap.get? C=none:=by
  cases e:s2.heap.get? C with
  |none=>rfl
  |some o=>exact absurd (Nat.lt_of_lt_of_le (Heap.lt_size e) leC) (Nat.lt_irrefl _)
 have neL:C≠X.env.locals:=Nat.ne_of_gt (Nat.lt_of_lt_of_le I2.lt leC)
 have nfs:C∉X.fs:=I2.Znd leC
 have ncl:∀x c,X.env.cells.lookup x=some c->c≠C:=λx c e z=>by
  obtain⟨v,q⟩:=I2.cell x c e
  exact absurd (Nat.lt_of_lt_of_le q.lt leC) (by rw[z];exact Nat.lt_irrefl _)
 have npn:∀p∈X.pn++pins,p.1≠C:=λp hp z=>by
  have:=(I2.pin p hp).1
  rw[z,fresh]at this;cases this
 have hH:(upd H' D' (HO.lst xs)) C=none:=by rw[Zj neDC];exact hHC
 have I0:=hI s'.heap ZgI
 have I1:Inv X (pins++[(C,oC)]) σ (upd H' D' (.lst xs)) s':=I0.ZX λp hp=>by
  rcases List.mem_append.mp hp with z|z
  ·exact I0.pin p (List.mem_append_right _ z)
  ·simp only[List.mem_cons,List.not_mem_nil,or_false]at z
   subst z
   exact⟨hoC,hH,neL,nfs,λv z=>by rw[hdC]at z;cases z⟩
 show wpAny _ _ _ _ _ _
 refine thn (Zm (X:=X) (i:=i) hN hxi hx hf (pins++[(C,oC)]) s' σ _ (.ref D') (.ref D') _ I1 rfl q) λ_ s3 ⟨σ3,H3,I3,q3⟩=>?_
 have pC:=I3.pin (C,oC) (List.mem_append_right _ (List.mem_append_right _ (.head _)))
 refine⟨m,⟨oC,es,ep,pC.1,hdC,hrest⟩,λh' hsb=>⟨σ3,H3,?_,q3⟩⟩
 exact I3.Zb5.turned (t':=s3.toks) (it:=C) (λb o hb e=>hsb.extBut b o hb e) pC.2.1 neL (.inr (Nat.le_trans I2.sz leC)) ncl npn
end
end L2
namespace L2
open PySem PySem.Spec PyProof.Rows PySem.W
noncomputable def Zbi (H:Hp) (acc:List V) (rs:List (List Int)):Prop:=∃as:List Addr,acc=as.map V.ref/\as.length=rs.length/\∀i (h1:i<as.length) (h2:i<rs.length),H as[i]=some (.tup (rs[i].map V.int))
theorem Zbi.nil {H:Hp}:Zbi H [] []:=⟨[],rfl,rfl,λi h=>absurd h (by simp)⟩
theorem Zbi.same {H H':Hp}{acc:List V}{rs:List (List Int)} (h:Zbi H acc rs) (s:Zh H H'):Zbi H' acc rs:=by
 obtain⟨as,e,l,k⟩:=h
 exact⟨as,e,l,λi h1 h2=>s _ _ (k i h1 h2)⟩
theorem Zbi.len {H:Hp}{acc:List V}{rs:List (List Int)} (h:Zbi H acc rs):acc.length=rs.length:=by
 obtain⟨as,e,l,k⟩:=h
 rw[e,List.length_map,l]
theorem Zbi.snoc {H:Hp}{acc:List V}{rs:List (List Int)}{u:Addr}{r:List Int} (h:Zbi H acc rs) (hu:H u=some (.tup (r.map V.int))):Zbi H (acc++[V.ref u]) (rs++[r]):=by
 obtain⟨as,e,l,k⟩:=h
 refine⟨as++[u],by rw[e];simp,by simp[l],λi h1 h2=>?_⟩
 by_cases c:i<as.length
 ·rw[List.getElem_append_left c,List.getElem_append_left (by omega)];exact k i c (by omega)
 ·have:i=as.length:=by simp at h1;omega
  subst this
  rw[List.getElem_concat_length,List.getElem_append_right (by omega)]
  simpa[l]using hu
  rfl
theorem Zbi.at {H:Hp}{acc:List V}{rs:List (List Int)}{l:Addr} (h:Zbi H acc rs) (hl:H l=none):ZbA (upd H l (.lst acc)) l rs:=by
 obtain⟨as,e,ln,k⟩:=h
 refine⟨as,by rw[Zd,e],ln,λi h1 h2=>?_⟩
 rw[Zj (λz=>by have:=k i h1 h2;rw[z,hl]at this;cases this)]
 exact k i h1 h2
noncomputable def C2W (n:Nat) (U:Nat->List (List Int)) (H1:Hp) (i m:Nat) (acc:List V) (H:Hp):Prop:=m=n-i/\i<=n/\Zbi H acc (U i)/\Zh H1 H
theorem C2W.next {n:Nat}{U:Nat->List (List Int)}{H1 H:Hp}{i:Nat}{acc:List V} (hi:i<n) (t:Zbi H acc (U (i+1))) (s:Zh H1 H):∃m',m'<n-i/\C2W n U H1 (i+1) m' acc H:=⟨n-(i+1),by omega,rfl,hi,t,s⟩
theorem ZnV {J:It}{g:TG}{tt:TT}{wi1:TI}{g1:TG}{tt1:TT}{te:TE}{σ0:St}{Q:VK}{H1:Hp} (n:Nat) (U:Nat->List (List Int)) (h0:U 0=[]) (hl:∀i,i<=n->(U i).length<=100000)
  (hgo:∀i H,Zh H1 H->i<n->J.go i H) (hstop:∀H,Zh H1 H->J.stop n H)
  (hb:∀i x acc H H',i<n->Zbi H acc (U i)->Zh H1 H->J.yld i H x H'->g x σ0 H' fun σ2 H2=>tt σ2 H2 λb H3=>if b=true then wi1 σ2 H3 λJ2 H4=>Zls J2 g1 tt1 te σ2 acc (λacc2 H5=>∃m',m'<n-i/\C2W n U H1 (i+1) m' acc2 H5) H4 else ∃m',m'<n-i/\C2W n U H1 (i+1) m' acc H3)
  (hk:∀l acc H',Zh H1 H'->H' l=none->Zbi H' acc (U n)->Q (.ref l) (upd H' l (.lst acc))):ZnT J g tt wi1 g1 tt1 te σ0 Q H1:=by
 refine⟨C2W n U H1,⟨n,rfl,Nat.zero_le _,by rw[h0];exact Zbi.nil,Zh.refl _⟩,?_⟩
 rintro i m acc H ⟨rfl,hi,t,s⟩
 have hlen:acc.length<=sizeLine:=Nat.le_trans (t.len▸hl i hi) (by decide)
 by_cases h:i<n
 ·exact .inr ⟨hgo i H s h,hlen,λx H' y=>hb i x acc H H' h t s y⟩
 ·have e:i=n:=by omega
  subst e
  exact .inl ⟨hstop H s,hlen,λp hp=>hk p acc H s hp t⟩
theorem ZrZ {J2:It}{g1:TG}{tt1:TT}{te:TE}{σ2:St}{acc:List V}{F:List V->Hp->Prop}{H4:Hp} (k:Nat) (V':Nat->List (List Int)) (h0:Zbi H4 acc (V' 0)) (hl:∀j,j<=k->(V' j).length<=100000)
  (hgo:∀j H,Zh H4 H->j<k->J2.go j H) (hstop:∀H,Zh H4 H->J2.stop k H)
  (hb:∀j x acc2 H5 H6,j<k->Zbi H5 acc2 (V' j)->Zh H4 H5->J2.yld j H5 x H6->g1 x σ2 H6 fun σ3 H7=>tt1 σ3 H7 λb2 H8=>if b2=true then te σ3 H8 λv H9=>∃m',m'<k-j/\C2W k V' H4 (j+1) m' (acc2++[v]) H9 else ∃m',m'<k-j/\C2W k V' H4 (j+1) m' acc2 H8)
  (hF:∀acc2 H5,Zbi H5 acc2 (V' k)->Zh H4 H5->F acc2 H5):Zls J2 g1 tt1 te σ2 acc F H4:=by
 refine⟨C2W k V' H4,⟨k,rfl,Nat.zero_le _,h0,Zh.refl _⟩,?_⟩
 rintro j m acc2 H ⟨rfl,hj,t,s⟩
 have hlen:acc2.length<sizeLine:=Nat.lt_of_le_of_lt (t.len▸hl j hj) (by decide)
 by_cases h:j<k
 ·exact .inr ⟨hgo j H s h,hlen,λx H' y=>hb j x acc2 H H' h t s y⟩
 ·have e:j=k:=by omega
  subst e
  exact .inl ⟨hstop H s,hF acc2 H t s⟩
theorem Zmt {α:Type}{k:α->Int}:∀{l m:List α},l.Perm m->l.Pairwise (λx y=>k x<=k y)->m.Pairwise (λx y=>k x<=k y)->(∀x,x∈l->∀y,y∈l->k x=k y->x=y)->l=m
 |[],m,h,_,_,_=>(List.Perm.nil_eq h)
 |x::l,m,h,s1,s2,inj=>by
  cases m with
  |nil=>exact absurd h.length_eq (by simp)
  |cons y m =>
   have hx:x∈y::m:=(List.Perm.mem_iff h).mp List.mem_cons_self
   have hy:y∈x::l:=(List.Perm.mem_iff h).mpr List.mem_cons_self
   have e:x=y:=by
    refine inj x List.mem_cons_self y hy (Int.le_antisymm ?_ ?_)
    ·rcases List.mem_cons.mp hy with z|z
     ·rw[z];exact Int.le_refl _
     ·exact(List.pairwise_cons.mp s1).1 y z
    ·rcases List.mem_cons.mp hx with z|z
     ·rw[z];exact Int.le_refl _
     ·exact(List.pairwise_cons.mp s2).1 x z
   subst e
   rw[Zmt (List.Perm.cons_inv h) (List.pairwise_cons.mp s1).2 (List.pairwise_cons.mp s2).2 λu hu v hv=>inj u (List.mem_cons_of_mem _ hu) v (List.mem_cons_of_mem _ hv)]
noncomputable def Zba (ns:List V) (i:Nat):V:=ns.getD i .non
noncomputable def ZdW (kz:V->Int) (ns:List V) (m i:Nat):Prop:=∀j,j<m->kz (Zba ns j)<=kz (Zba ns i)/\(j<i->kz (Zba ns j)<kz (Zba ns i))
theorem ZdW.one (kz:V->Int) (ns:List V):ZdW kz ns 1 0:=λj hj=>⟨by rw[show j=0 by omega];exact Int.le_refl _,λh=>absurd h (by omega)⟩
theorem ZdW.take {kz:V->Int}{ns:List V}{m i:Nat} (h:ZdW kz ns m i) (hi:i<m) (c:kz (Zba ns m)>kz (Zba ns i)):ZdW kz ns (m+1) m:=λj hj=>by
 by_cases e:j=m
 ·subst e;exact⟨Int.le_refl _,λh=>absurd h (by omega)⟩
 ·have:=(h j (by omega)).1
  exact⟨by omega,λ_=>by omega⟩
theorem ZdW.keep {kz:V->Int}{ns:List V}{m i:Nat} (h:ZdW kz ns m i) (hi:i<m) (c:¬ kz (Zba ns m)>kz (Zba ns i)):ZdW kz ns (m+1) i:=λj hj=>by
 by_cases e:j=m
 ·subst e;exact⟨by omega,λz=>absurd z (by omega)⟩
 ·exact h j (by omega)
section
variable {X:Cx}
theorem ZpH {pins:List (Addr×Obj)}{σ:St}{H:Hp}{A:Around}{R:Result->Shared->Prop}{d:Value}{dk:Str}{l I S q:Addr}{ns:List V}{kz:V->Int}
  (hh:A.handled=none) (hlI:l≠I) (hSI:S≠I) (hI0:X.s₀.heap.objs.size<=I) (hS0:X.s₀.heap.objs.size<=S) (hp:∀p∈X.pn++pins,p.1≠I/\p.1≠S) (hl:H l=some (.lst ns))
  (turn:∀(H':Hp) (s':Shared) (pins':List (Addr×Obj)) (n:V) (u:Value),n∈ns->Inv X pins' σ H' s'->Zh H H'->RelV n u->wpAny (model X.prog X.w) A.in1 (call (.ref q) [u]) (EP X pins' σ λv H2=>v=.int (kz n)/\Zh H' H2) (λ_ _=>False) s')
  (hR0:ns=[]->∀H' s',Inv X pins σ H' s'->Zh H H'->R (.ok (.ret d)) s')
  (hR:∀(i:Nat) (v:Value) H' s',i<ns.length->RelV (Zba ns i) v->ZdW kz ns ns.length i->Inv X pins σ H' s'->Zh H H'->R (.ok (.ret v)) s') :
  ∀(r j:Nat) (H':Hp) (s':Shared) (buf:Array Value) (c:Nat) (oI:Obj),ns.length-j=r->j<=ns.length->Inv X ((S,seqObj "list" buf c)::(I,oI)::pins) σ H' s'->Zh H H'->s'.heap.IsListIter I l j ->
   ((j=0/\buf=#[])\/∃(i:Nat) (vb:Value) (tb:Tok),i<j/\buf=#[vb,.int (kz (Zba ns i)) tb]/\RelV (Zba ns i) vb/\ZdW kz ns j i) ->
   codeAny (model X.prog X.w) A (.builtin "max.loop" ⟨[.ref I,.ref q,.ref S],[(dk,d)]⟩) R s':=by
 have hname:(toString "max"++toString ".loop":String)="max.loop":=by decide
 intro r
 induction r with
 |zero =>
  intro j H' s' buf c oI hr hj J sm hit hb
  have hjn:j=ns.length:=by omega
  obtain⟨oS,nS,lS,fS,_,cS⟩:=ZaQ J (List.mem_cons_self ..)
  obtain⟨oI',nI,lI,fI,dI,cI⟩:=ZaQ J (List.mem_cons_of_mem _ (List.mem_cons_self ..))
  obtain⟨its,rv,pl,_⟩:=J.list (SqL.of (sm _ _ hl))
  have hlen:its.length=ns.length:=by have:=rv.length;omega
  have hsz:its.toArray.size=its.length:=List.size_toArray ..
  have W:=Walks.list (prog:=X.prog) (w:=X.w) (A:=A.in1) hh I l hlI its.toArray
  have J0:Inv X pins σ H' s':=J.ZX λp hp'=>J.pin p (List.mem_append_right _ (List.mem_cons_of_mem _ (List.mem_cons_of_mem _ hp')))
  refine codeAny_builtin PySem.F.entry_max_loop ?_
  rw[Around.under_plainId PySem.F.plain_max_loop _]
  show wpAny _ A.in1 (seqItems? (.ref S) >>= _) _ _ _
  refine wpAny_bind (wpAny_seqItems oS rfl ?_)
  rcases hb with⟨hj0,rfl⟩|⟨i,vb,tb,hi,rfl,rvb,hB⟩
  ·refine wpAny_bind (wpAny_tryCatch (W.done _ _ _ ⟨by rw[hsz,hlen,<-hjn];exact hit,pl.isList⟩ λh' tk' hk'=>?_))
   refine wpAny_bind (wpAny_rule (wpAny_pure ?_))
   exact hR0 (List.length_eq_zero_iff.mp (by omega)) H' _ (J0.turned (it:=I) (λb o nb e=>hk' b o (by simpa using nb) e) nI lI (.inr hI0) cI λp hp'=>(hp p hp').1) sm
  ·refine wpAny_bind (wpAny_tryCatch (W.done _ _ _ ⟨by rw[hsz,hlen,<-hjn];exact hit,pl.isList⟩ λh' tk' hk'=>?_))
   have hS':=hk' S _ (by simpa using hSI) oS
   have J1:=J0.turned (t':=tk') (h':=h') (it:=I) (λb o nb e=>hk' b o (by simpa using nb) e) nI lI (.inr hI0) cI λp hp'=>(hp p hp').1
   refine wpAny_bind (wpAny_updateSeq hS' rfl ?_ (show 2<=sizeLine by decide) (Nat.zero_le _))
   refine wpAny_bind (wpAny_letGo (wpAny_pure ?_))
   have J2:=J1.turned (t':=tk') (h':=h'.update S (Obj.mapSeq λ_=>(#[]:Array Value))) (it:=S) (λb o nb e=>(Heap.get?_update_ne _ _ _ _ nb).trans e) nS lS (.inr hS0) cS λp hp'=>(hp p hp').2
   exact hR i vb H' _ (by omega) rvb (hjn▸hB) J2 sm
 |succ r ih =>
  intro j H' s' buf c oI hr hj J sm hit hb
  have hlt:j<ns.length:=by omega
  obtain⟨oS,nS,lS,fS,_,cS⟩:=ZaQ J (List.mem_cons_self ..)
  obtain⟨oI',nI,lI,fI,dI,cI⟩:=ZaQ J (List.mem_cons_of_mem _ (List.mem_cons_self ..))
  obtain⟨its,rv,pl,_⟩:=J.list (SqL.of (sm _ _ hl))
  have hlen:its.length=ns.length:=by have:=rv.length;omega
  have hsz:its.toArray.size=its.length:=List.size_toArray ..
  have W:=Walks.list (prog:=X.prog) (w:=X.w) (A:=A.in1) hh I l hlI its.toArray
  have J0:Inv X ((S,seqObj "list" buf c)::pins) σ H' s':=J.ZX λp hp'=>J.pin p (List.mem_append_right _ (by
   rcases List.mem_cons.mp hp' with z|z
   ·exact List.mem_cons.mpr (.inl z)
   ·exact List.mem_cons_of_mem _ (List.mem_cons_of_mem _ z)))
  refine codeAny_builtin PySem.F.entry_max_loop ?_
  rw[Around.under_plainId PySem.F.plain_max_loop _]
  show wpAny _ A.in1 (seqItems? (.ref S) >>= _) _ _ _
  refine wpAny_bind (wpAny_seqItems oS rfl ?_)
  have step:∀(v:Value) (h':Heap) (tk':Nat),its.toArray[j]?=some v->h'.IsListIter I l (j+1)/\h'.IsList l its.toArray->(∀b o,b∉[I]->s'.heap.get? b=some o->h'.get? b=some o)->RelV (Zba ns j) v/\∃oI2,h'.get? I=some oI2/\Inv X ((S,seqObj "list" buf c)::(I,oI2)::pins) σ H' {s' with heap:=h',toks:=tk'}:=λv h' tk' hP hst hk'=>by
   refine⟨?_,?_⟩
   ·obtain⟨v',e1,e2⟩:=rv.get (i:=j) (x:=Zba ns j) (by unfold Zba;rw[List.getD_eq_getElem?_getD,List.getElem?_eq_getElem hlt];rfl)
    have:its[j]?=some v:=by simpa using hP
    rw[e1]at this;cases this;exact e2
   ·obtain⟨oI2,g2,hcls,hdat⟩:=id hst.1
    have J1:=J0.turned (t':=tk') (h':=h') (it:=I) (λb o nb e=>hk' b o (by simpa using nb) e) nI lI (.inr hI0) cI λp hp'=>by
     rcases List.mem_append.mp hp' with z|z
     ·exact(hp p (List.mem_append_left _ z)).1
     ·rcases List.mem_cons.mp z with rfl|z
      ·exact hSI
      ·exact(hp p (List.mem_append_right _ z)).1
    refine⟨oI2,g2,J1.ZX λp hp'=>?_⟩
    rcases List.mem_cons.mp hp' with rfl|hp'
    ·exact J1.pin _ (List.mem_append_right _ (List.mem_cons_self ..))
    ·rcases List.mem_cons.mp hp' with rfl|hp'
     ·exact⟨g2,nI,lI,fI,λv z=>by rw[hdat]at z;cases z⟩
     ·exact J1.pin _ (List.mem_append_right _ (List.mem_cons_of_mem _ hp'))
  have write:∀{H2:Hp}{s2:Shared}{oI2:Obj} (v:Value) (t2:Tok) (b2:Array Value) (c0:Nat),Inv X ((S,seqObj "list" b2 c0)::(I,oI2)::pins) σ H2 s2->∃c2,Inv X ((S,seqObj "list" #[v,.int (kz (Zba ns j)) t2] c2)::(I,oI2)::pins) σ H2 {s2 with heap:=s2.heap.update S (Obj.mapSeq λ_=>#[v,.int (kz (Zba ns j)) t2])}:=λ{H2 s2 oI2} v t2 b2 c0 K=>by
   obtain⟨o2,n2,l2,f2,_,cc2⟩:=ZaQ K (List.mem_cons_self ..)
   obtain⟨c2,hc2⟩:∃c2,(s2.heap.update S (Obj.mapSeq λ_=>#[v,.int (kz (Zba ns j)) t2])).get? S=some (seqObj "list" #[v,.int (kz (Zba ns j)) t2] c2):=⟨_,get?_update_seq o2 λ_=>#[v,.int (kz (Zba ns j)) t2]⟩
   have K0:Inv X ((I,oI2)::pins) σ H2 s2:=K.ZX λp hp'=>K.pin p (List.mem_append_right _ (List.mem_cons_of_mem _ hp'))
   have K1:=K0.turned (t':=s2.toks) (h':=s2.heap.update S (Obj.mapSeq λ_=>#[v,.int (kz (Zba ns j)) t2])) (it:=S) (λb o nb e=>(Heap.get?_update_ne _ _ _ _ nb).trans e) n2 l2 (.inr hS0) cc2 λp hp'=>by
    rcases List.mem_append.mp hp' with z|z
    ·exact(hp p (List.mem_append_left _ z)).2
    ·rcases List.mem_cons.mp z with rfl|z
     ·exact hSI.symm
     ·exact(hp p (List.mem_append_right _ z)).2
   refine⟨c2,K1.ZX λp hp'=>?_⟩
   rcases List.mem_cons.mp hp' with rfl|hp'
   ·exact⟨hc2,n2,l2,f2,λv z=>by cases z⟩
   ·exact K1.pin p (List.mem_append_right _ hp')
  have mem:Zba ns j∈ns:=by unfold Zba;rw[List.getD_eq_getElem?_getD,List.getElem?_eq_getElem hlt];exact List.getElem_mem hlt
  rcases hb with⟨hj0,rfl⟩|⟨i,vb,tb,hi,rfl,rvb,hB⟩
  ·refine wpAny_bind (wpAny_tryCatch (W.item j _ _ _ (by rw[hsz,hlen];exact hlt) ⟨hit,pl.isList⟩ λv h' tk' hP hst' hk'=>?_))
   obtain⟨rj,oI2,gI,J2⟩:=step v h' tk' hP hst' hk'
   obtain⟨oI3,gI3,hcls,hdat⟩:=id hst'.1
   rw[gI]at gI3;cases gI3
   refine wpAny_bind (wpAny_tryCatch (wpAny_holding (wpAny_mono (turn H' _ _ _ v mem J2 sm rj) (λx s'' he=>?_) λ_ _ hF=>hF.elim)))
   obtain⟨x2,H2,J3,r2,rfl,sm2⟩:=he
   obtain⟨t2,rfl⟩:=r2
   obtain⟨oS3,_⟩:=ZaQ J3 (List.mem_cons_self ..)
   obtain⟨oI4,_⟩:=ZaQ J3 (List.mem_cons_of_mem _ (List.mem_cons_self ..))
   obtain⟨c2,J4⟩:=write v t2 _ _ J3
   refine wpAny_bind (wpAny_updateSeq oS3 rfl ?_ (Nat.zero_le _) (show 2<=sizeLine+1 by decide))
   rw[hname]
   refine wpAny_pure ⟨plainId_quiet PySem.F.plain_max_loop _,ih (j+1) H2 _ _ c2 oI2 (by omega) hlt J4 (sm.trans sm2) ⟨oI2,(Heap.get?_update_ne _ _ _ _ hSI.symm).trans oI4,hcls,hdat⟩ (.inr ⟨j,v,t2,by omega,rfl,rj,?_⟩)⟩
   subst hj0;exact ZdW.one kz ns
  ·refine wpAny_bind (wpAny_tryCatch (W.item j _ _ _ (by rw[hsz,hlen];exact hlt) ⟨hit,pl.isList⟩ λv h' tk' hP hst' hk'=>?_))
   obtain⟨rj,oI2,gI,J2⟩:=step v h' tk' hP hst' hk'
   obtain⟨oI3,gI3,hcls,hdat⟩:=id hst'.1
   rw[gI]at gI3;cases gI3
   refine wpAny_bind (wpAny_tryCatch (wpAny_holding (wpAny_mono (turn H' _ _ _ v mem J2 sm rj) (λx s'' he=>?_) λ_ _ hF=>hF.elim)))
   obtain⟨x2,H2,J3,r2,rfl,sm2⟩:=he
   obtain⟨t2,rfl⟩:=r2
   obtain⟨oS3,_⟩:=ZaQ J3 (List.mem_cons_self ..)
   obtain⟨oI4,_⟩:=ZaQ J3 (List.mem_cons_of_mem _ (List.mem_cons_self ..))
   refine wpAny_bind (wpAny_tryCatch (wpAny_holding (wpAny_bind (CmpOf.ints_gt (prog:=X.prog) (w:=X.w) (A:=A.in1) (P:=λi v=>∃t,v=.int (kz (Zba ns i)) t) (λi=>kz (Zba ns i)) (λi v h=>h) j i _ _ _ _ _ ⟨t2,rfl⟩ ⟨tb,rfl⟩ ?_))))
   refine wpAny_bind (wpAny_holding (wpAny_truthy_bool ?_))
   refine wpAny_bind (wpAny_letGo (wpAny_pure ?_))
   by_cases hb':kz (Zba ns j)>kz (Zba ns i)
   ·simp only[hb',decide_true,if_true]
    obtain⟨c2,J4⟩:=write v t2 _ _ J3
    refine wpAny_bind (wpAny_updateSeq oS3 rfl (wpAny_bind (wpAny_letGo ?_)) (show 2<=sizeLine by decide) (show 2<=sizeLine+1 by decide))
    rw[hname]
    exact wpAny_pure ⟨plainId_quiet PySem.F.plain_max_loop _,ih (j+1) H2 _ _ c2 oI2 (by omega) hlt J4 (sm.trans sm2) ⟨oI2,(Heap.get?_update_ne _ _ _ _ hSI.symm).trans oI4,hcls,hdat⟩ (.inr ⟨j,v,t2,by omega,rfl,rj,hB.take hi hb'⟩)⟩
   ·simp only[hb',decide_false,Bool.false_eq_true,if_false]
    refine wpAny_bind (wpAny_letGo ?_)
    rw[hname]
    exact wpAny_pure ⟨plainId_quiet PySem.F.plain_max_loop _,ih (j+1) H2 _ _ c oI2 (by omega) hlt J3 (sm.trans sm2) ⟨oI2,oI4,hcls,hdat⟩ (.inr ⟨i,vb,tb,by omega,rfl,rvb,hB.keep hi hb'⟩)⟩
theorem maxVD {pins:List (Addr×Obj)}{σ:St}{H:Hp}{s:Shared}{l q:Addr}{ns:List V}{kz:V->Int}{d:Value}{dv:V}{Q:VK} (I:Inv X pins σ H s) (hc:X.calm=true) (hl:H l=some (.lst ns)) (rd:RelV dv d)
  (turn:∀(H':Hp) (s':Shared) (pins':List (Addr×Obj)) (n:V) (u:Value),n∈ns->Inv X pins' σ H' s'->Zh H H'->RelV n u->wpAny (model X.prog X.w) X.A.in1 (call (.ref q) [u]) (EP X pins' σ λv H2=>v=.int (kz n)/\Zh H' H2) (λ_ _=>False) s')
  (fin0:ns=[]->∀H',Zh H H'->Q dv H') (fin:∀i H',i<ns.length->ZdW kz ns ns.length i->Zh H H'->Q (Zba ns i) H') :
  wpAny (model X.prog X.w) X.A (call (.builtin "max") [.ref l] [(Str.ofString "key",.ref q),(Str.ofString "default",d)]) (EP X pins σ Q) X.xe s:=by
 have hname:(toString "max"++toString ".loop":String)="max.loop":=by decide
 obtain⟨its,rv,pl,_⟩:=I.list (SqL.of hl)
 obtain⟨ol,hol,_⟩:=id pl.isList
 have hll:l<s.heap.objs.size:=Heap.lt_size hol
 refine kmk_tree PySem.F.kind_max PySem.F.plain_max PySem.F.entry_max (ZnN _ _ _) ?_
 show wpAny _ X.A.in1 (Builtin.Builtins.bindParams "max" ["key","default"] 0 ⟨[],[(Str.ofString "key",.ref q),(Str.ofString "default",d)]⟩ >>= _) _ _ s
 refine wpAny_bind (wpAny_of_eq (show Builtin.Builtins.bindParams "max" ["key","default"] 0 ⟨[],[(Str.ofString "key",.ref q),(Str.ofString "default",d)]⟩=pure [some (.ref q),some d]from rfl) ?_)
 refine wpAny_bind (wpAny_pure ?_)
 refine wpAny_bind (wpAny_pyIter_list pl.isList ?_)
 refine wpAny_bind (wpAny_newList ?_ (Nat.zero_le _))
 rw[hname]
 refine wpAny_pure ⟨plainId_quiet PySem.F.plain_max_loop _,?_⟩
 have hS:(s.heap.push {cls:=.type "list_iterator",data:=.fields #[.ref l,.int 0 0]}).objs.size=s.heap.objs.size+1:=size_push' ..
 have I2:=I.kept (h':=(s.heap.push {cls:=.type "list_iterator",data:=.fields #[.ref l,.int 0 0]}).push (seqObj "list" #[] 0)) (t':=s.toks) λb o e=>Heap.get?_push_of_some _ (Heap.get?_push_of_some _ e)
 have gI:((s.heap.push {cls:=.type "list_iterator",data:=.fields #[.ref l,.int 0 0]}).push (seqObj "list" #[] 0)).get? s.heap.objs.size=some {cls:=.type "list_iterator",data:=.fields #[.ref l,.int 0 0]}:=Heap.get?_push_of_some _ (Heap.get?_push_size _ rfl)
 have gS:((s.heap.push {cls:=.type "list_iterator",data:=.fields #[.ref l,.int 0 0]}).push (seqObj "list" #[] 0)).get? (s.heap.objs.size+1)=some (seqObj "list" #[] 0):=by rw[<-hS];exact Heap.get?_push_size _ rfl
 rw[hS]
 refine ZpH (pins:=pins) (H:=H) (ns:=ns) (kz:=kz) (I.ok.hd hc) (Nat.ne_of_lt hll) (Nat.ne_of_gt (Nat.lt_succ_self _)) I.sz (Nat.le_succ_of_le I.sz) (λp hp=>?_) hl turn (λz H' s' J sm=>⟨dv,H',J,rd,fin0 z H' sm⟩) (λi v H' s' hi r hB J sm=>⟨Zba ns i,H',J,r,fin i H' hi hB sm⟩) _ 0 H _ #[] 0 {cls:=.type "list_iterator",data:=.fields #[.ref l,.int 0 0]} rfl (Nat.zero_le _) (I2.ZX λp hp=>?_) (Zh.refl H) ⟨_,gI,rfl,rfl⟩ (.inl ⟨rfl,rfl⟩)
 ·have:=Heap.lt_size (I.pin p hp).1
  exact⟨Nat.ne_of_lt this,Nat.ne_of_lt (Nat.lt_succ_of_lt this)⟩
 ·rcases List.mem_cons.mp hp with rfl|hp
  ·exact⟨gS,I.hok.fresh (Nat.le_succ _),Nat.ne_of_gt (Nat.lt_succ_of_lt I.lt),I.Znd (Nat.le_succ _),λv z=>by cases z⟩
  ·rcases List.mem_cons.mp hp with rfl|hp
   ·exact⟨gI,I.hok.fresh (Nat.le_refl _),Nat.ne_of_gt I.lt,I.Znd (Nat.le_refl _),λv z=>by cases z⟩
   ·exact I2.pin p (List.mem_append_right _ hp)
noncomputable def ZnW (ta td:TA) (tb:TE) (js:List (Option Nat)) (env:Env) (P:Addr) (q:Str) (params:Arguments) (body:Expr) (scope:Scope):TE:=fun σ H Q=>ta σ H λvs H1=>td σ H1 λzs H2=>∃(p f:Addr) (dv:V) (ns:List V) (kz:V->Int),
 vs=[.ref p]/\zs=[.ref f,dv]/\H2 p=some (.lst ns)/\Zll env P q params body scope H2 f /\
 (∀n H3,n∈ns->Zh H2 H3->tb ((ZW js σ).set 0 (some n)) H3 λv H4=>v=.int (kz n)/\Zh H3 H4) /\
 (ns=[]->∀H3,Zh H2 H3->Q dv H3)/\∀i H3,i<ns.length->ZdW kz ns ns.length i->Zh H2 H3->Q (Zba ns i) H3
theorem Zr0 {Nc:List Str}{js:List (Option Nat)}{q pn:Str}{params:Arguments}{body:Expr}{scope:Scope}{P:Addr}{ta td:TA}{tb:TE}{m:Nat}{e:Expr}{e2:Expr}{p pos lpos kp1 kp2:Pos} (hc:X.calm=true) (hr:Room m X.A) (S:LamSc X Nc js params body scope pn)
  (hbody:∀cl L f c s H,PE (Zi0 X X.A.in1 Nc q scope cl L f c s H) body tb) (hg:Gl X "max") (hm:X.mg "max"=none) (ha:PA X [e] ta) (hd:PK X [⟨some (Str.ofString "key"),.Lambda params body scope lpos,kp1⟩,⟨some (Str.ofString "default"),e2,kp2⟩] td)
  (hpl:(backTo pos (starEach [e] X.env)).any (·.1)=false:=by rfl) (hall:(backToKw pos (keywordEach [⟨some (Str.ofString "key"),.Lambda params body scope lpos,kp1⟩,⟨some (Str.ofString "default"),e2,kp2⟩] X.env)).all (·.1.isSome)=true:=by rfl)
  (hnn:(backToKw pos (keywordEach [⟨some (Str.ofString "key"),.Lambda params body scope lpos,kp1⟩,⟨some (Str.ofString "default"),e2,kp2⟩] X.env)).any (·.1.isNone)=false:=by rfl) (hks:(backToKw pos (keywordEach [⟨some (Str.ofString "key"),.Lambda params body scope lpos,kp1⟩,⟨some (Str.ofString "default"),e2,kp2⟩] X.env)).filterMap (·.1)=[Str.ofString "key",Str.ofString "default"]:=by rfl) (hb:backTo pos (starEach [e] X.env)=(false,eval e X.env)::backTo pos (starEach [] X.env):=by rfl) :
  PE X (.Call (.Name "max" p) [e] [⟨some (Str.ofString "key"),.Lambda params body scope lpos,kp1⟩,⟨some (Str.ofString "default"),e2,kp2⟩] pos) (ZnW ta td tb js X.env P q params body scope):=by
 intro pins s σ H Q I h
 refine wpAny_Call_Name_kw (ZbK I hg hm ZiJ ?_)
 refine PyProof.Rows.callWith_kw (thn (ha pos pins s σ H _ I h) λus s1 ⟨vs,H1,I1,r1,q1⟩=>?_) hb hpl hall hnn
 refine thn (hd pos pins s1 σ H1 _ I1 q1) λws s2 ⟨zs,H2,I2,r2,pp,f,dv,ns,kz,e1,e2,hp,L,tn,fin0,fin⟩=>?_
 subst e1 e2
 obtain⟨u,rfl,ru⟩:=r1.one
 cases(show u=Value.ref pp from ru)
 rw[hks]
 obtain⟨v,v2,rfl,rv,rv2⟩:=r2.two
 cases(show v=Value.ref f from rv)
 exact maxVD (kz:=kz) I2 hc hp rv2 (λH' s' pins' n u hn J sm r=>Zml S hbody J J.ok.frames J.ok.hd hr.depth (L.same sm) r (tn n H' hn sm)) fin0 fin
end
end L2
namespace K62
open PySem PySem.Spec PyProof.Rows L2
open PySem.W (nsIn mg_of fnOf keepIn codeIn mg_none_of)
local macro_rules | `(tactic| walk_at "rd") => `(tactic| simp only [tIfS, tNot, ZlW, ZkR, rI0, rI, rU, ZlR, tC, tB, tIf, Zq5, tOrV, Zos, Zor, tNil, Zo0, tSeq, tRet, Zq6, tOp, tUn, tAnd, tOr, Zq7, Ze4, gSub, tAug, tCB, tSl, Znm, tLst, tTup, L2.start, tYes, gTup, Zoi, gNil, ZW, Option.join_some, Option.join_none, rEq, rNe, ZoA, ZoB, ZoC, ZoD, ZoE, ZoF, tBM, Bool.true_eq_false, List.map_cons, List.map_nil, List.cons_append, List.nil_append, List.length_cons, List.length_nil, List.replicate, List.append_nil, List.set_cons_zero, List.set_cons_succ, List.getElem?_cons_zero, List.getElem?_cons_succ, Option.some.injEq, V.int.injEq, V.bl.injEq, V.ref.injEq, List.cons.injEq, and_true, true_and, exists_eq_left, exists_eq_left', exists_and_left, exists_eq, decide_eq_true_eq, Bool.not_eq_true', decide_eq_false_iff_not, cxK, and_assoc, Bool.false_eq_true, ↓reduceIte, Zoz, Zkn, Zl2, Zq9, Zra, Zoj, iTup, iZip, ZkW, rIxT, Zrh, rIsi, Zrx, Zk8, Zns, rLen, rLof, rTof, rEqD, Zrs, Zrt, rIn, rSlQ, ZrC, ZrD, Zld, rAll, rIxQ, tRev, rSlL, Zrg, ZkU, tSl, ipI, Zk1, rRep, ZoG, Zrp, ZrH, V.str.injEq, rSlV, ZrK, tLam, Zlm, Zln, Zlp, Zkz, ZnW])
noncomputable def top (i:Nat):Stmt:=PySem.Challenge.pw_dipkin_k62_whole_no_row_is_nearer.main.body.getD i (.Pass ⟨0,0,0,0⟩)
noncomputable abbrev ZdX:Stmt:=top 6
noncomputable abbrev ZcH:Stmt:=top 7
noncomputable abbrev ZdY:Stmt:=top 8
noncomputable abbrev ZcI:Stmt:=top 9
noncomputable abbrev Zbj:Stmt:=top 10
noncomputable abbrev ZaR:Stmt:=top 11
noncomputable abbrev ZaF:Stmt:=top 13
noncomputable abbrev ZbP:Stmt:=top 14
noncomputable abbrev ZaS:Stmt:=top 16
noncomputable abbrev ZdZ:Stmt:=top 17
noncomputable abbrev Zd0:Stmt:=top 18
noncomputable abbrev ZcJ:Stmt:=top 19
noncomputable abbrev Zap:Stmt:=top 20
noncomputable abbrev ZcK:Stmt:=top 22
noncomputable abbrev ZaT:Stmt:=top 23
noncomputable abbrev Zab:Stmt:=top 24
noncomputable abbrev Zd1:Stmt:=top 26
noncomputable abbrev ZaU:Stmt:=top 27
noncomputable abbrev ZbQ:Stmt:=top 28
noncomputable abbrev Zaq:Stmt:=top 29
noncomputable abbrev Zd2:Stmt:=top 31
noncomputable abbrev Zbk:Stmt:=top 32
noncomputable abbrev ZcL:Stmt:=top 33
noncomputable abbrev Zd3:Stmt:=top 34
noncomputable abbrev ZkA:Stmt:=top 35
noncomputable abbrev Zbl:Stmt:=top 37
noncomputable abbrev Zbm:Stmt:=top 38
noncomputable abbrev ZbR:Stmt:=top 39
noncomputable abbrev Zbn:Stmt:=top 40
noncomputable abbrev Zbo:Stmt:=top 41
noncomputable abbrev Zac:Stmt:=top 42
noncomputable abbrev Zar:Stmt:=top 43
noncomputable abbrev Zas:Stmt:=top 44
noncomputable abbrev ZaG:Stmt:=top 45
noncomputable abbrev ZU:Stmt:=top 46
noncomputable abbrev ZgV:Stmt:=top 47
structure Txt (K:PySem.W.Frag) (mg:Str->Option Value):Prop where
 b_abs:mg "abs"=none
 b_all:mg "all"=none
 b_enumerate:mg "enumerate"=none
 b_isinstance:mg "isinstance"=none
 b_len:mg "len"=none
 b_list:mg "list"=none
 b_max:mg "max"=none
 b_min:mg "min"=none
 b_range:mg "range"=none
 b_sorted:mg "sorted"=none
 b_tuple:mg "tuple"=none
 b_zip:mg "zip"=none
 c_DipError:mg "DipError"=some (.ref (clsAt mg "DipError"))
 x_DipError:PySem.W.excIn K (clsAt mg "DipError") bmV newV=true
 c_Unlike:mg "Unlike"=some (.ref (clsAt mg "Unlike"))
 x_Unlike:PySem.W.excIn K (clsAt mg "Unlike") bmV newV=true
 c_NoTree:mg "NoTree"=some (.ref (clsAt mg "NoTree"))
 x_NoTree:PySem.W.excIn K (clsAt mg "NoTree") bmV newV=true
 m_MOST_PLACES:mg "MOST_PLACES"=some (.int 40 (tokAt mg "MOST_PLACES"))
noncomputable def Zfd (K:PySem.W.Frag) (mg:Str->Option Value):List (Addr×Str):=[(Zgi K mg "from_below",Zi2 "from_below"),(Zgi K mg "nearest",Zi2 "nearest"),(Zgi K mg "_law_kin_row",Zi2 "_law_kin_row")]
noncomputable abbrev SpT:=PySem.W.Frag->(Str->Option Value)->Sp
noncomputable def ZoT (K:PySem.W.Frag) (mg:Str->Option Value):Sp:=λvs H Q E=>∃(a:Addr) (ns:List Int),vs=[.ref a]/\SqL K H a (ns.map V.int)/\ns.length<=63/\(∀p∈Zfd K mg,H p.1=some (ZiZ p.2))/\∀H',Q (.bl true) H'
noncomputable def Zen:SpT:=λK mg vs H Q E=>∃(a:Addr) (ns:List Int) (k:Int),vs=[.ref a,.int k]/\SqL K H a (ns.map V.int)/\0<=k/\k<=100/\∀p H',H p=none->Zh H H'->Zz H' p->Q (.ref p) H'
noncomputable def Zaz:SpT:=λK mg vs H Q E=>∃(p:Addr) (many:Int),vs=[.ref p,.int many]/\0<many/\many<=1000000001/\Zz H p/\∀d H',0<=d->d<many->Zz H' p->Exc p H H'->Q (.int d) H'
noncomputable def Zfe:SpT:=λK mg vs H Q E=>∃(p:Addr) (most:Int),vs=[.ref p,.int most]/\0<=most/\most<=1000/\Zz H p/\∀(r:Addr) (ns:List Int) H',H r=none->(ns.length:Int)<=most->H' r=some (.lst (ns.map V.int))->Zz H' p->Exc p H H'->Q (.ref r) H'
noncomputable def Zhu:SpT:=λK mg vs H Q E=>∃(el sp:Addr) (es:List Int) (A B:List Nat) (i:Nat),vs=[.ref el,.ref sp,.int i,.int A.length]/\H el=some (.lst (es.map V.int))/\H sp=some (.lst (Zal (A++B)))/\el≠sp/\i<es.length/\(∀q∈A++B,q<es.length)/\(A++B).length<=1000 /\
 ∀H',(∀b o,b≠el->b≠sp->H b=some o->H' b=some o)->H' el=some (.lst ((Zik es A B i).map V.int))->H' sp=some (.lst (Zal (A++[i])))->Q .non H'
noncomputable def ZbS:SpT:=λK mg vs H Q E=>∃(r:Addr) (ns:List Int),vs=[.ref r]/\(SqL K H r (ns.map V.int)\/SqT K H r (ns.map V.int))/\ns.length<=1000/\∀(t:Addr) (es:List Int) H',Zw ns es->Zh H H'->H' t=some (.tup (es.map V.int))->Q (.ref t) H'
noncomputable def Zbp:SpT:=λK mg vs H Q E=>∃(t:Addr) (T:List Int) (p:Nat),vs=[.ref t,.int p]/\(SqL K H t (T.map V.int)\/SqT K H t (T.map V.int))/\T.length<=1000/\p<T.length/\∀(w:Addr) H',H w=none->Zh H H'->H' w=some (.lst ((Zak T p).map V.int))->Q (.ref w) H'
noncomputable def Zgj:SpT:=λK mg vs H Q E=>∃(t:Addr) (T:List Int),vs=[.ref t]/\H t=some (.tup (T.map V.int))/\T.length<=1000/\(ZO T->∀H',Zh H H'->Q (.bl true) H')/\(¬ ZO T->∀H',Zh H H'->Q (.bl false) H')
noncomputable def Zeo:SpT:=λK mg vs H Q E=>∃(t:Addr) (T:List Int),vs=[.ref t]/\H t=some (.tup (T.map V.int))/\T.length<=1000/\(ZO T->∀H',Zh H H'->Q .non H')/\(¬ ZO T->∀H',Zh H H'->E (.ref (clsAt mg "NoTree")) none H')
noncomputable def ZcT:SpT:=λK mg vs H Q E=>∃(t:Addr) (T:List Int) (p:Nat),vs=[.ref t,.int p]/\H t=some (.tup (T.map V.int))/\T.length<=1000/\p<T.length/\∀H',Zh H H'->Q (.int (Zav T p:Nat)) H'
noncomputable def Zbq:SpT:=λK mg vs H Q E=>∃(t:Addr) (T:List Int),vs=[.ref t]/\H t=some (.tup (T.map V.int))/\T.length<=1000/\(ZO T->∀(t':Addr) H',Zh H H'->H' t'=some (.tup ((Ze T).map V.int))->Q (.ref t') H')/\(¬ ZO T->∀H',Zh H H'->E (.ref (clsAt mg "NoTree")) none H')
noncomputable def Zcx:SpT:=λK mg vs H Q E=>∃(t:Addr) (T:List Int) (p:Nat),vs=[.ref t,.int p]/\H t=some (.tup (T.map V.int))/\T.length<=1000/\p<T.length/\Zcd T T.length (nth T p)/\∀(w:Addr) H',H w=none->Zh H H'->H' w=some (.lst ((Zak T p).map V.int))->Q (.ref w) H'
noncomputable def Zep:SpT:=λK mg vs H Q E=>∃(t:Addr) (T:List Int),vs=[.ref t]/\H t=some (.tup (T.map V.int))/\T.length<=1000/\(∀p,p<T.length->Zcd T T.length (nth T p))/\∀(w:Addr) H',H w=none->Zh H H'->H' w=some (.lst ((Ze T).map V.int))->Q (.ref w) H'
noncomputable def ZbT:SpT:=λK mg vs H Q E=>∃p:Addr,vs=[.ref p]/\Zz H p/\∀(r:Addr) (ns:List Int) H',H r=none->ns.length<=40->H' r=some (.lst (ns.map V.int))->Zz H' p->Exc p H H'->Q (.ref r) H'
noncomputable def hgt (F ns:List Int):List Int:=(List.range F.length).map λi=>nth ns i-nth F i
noncomputable def ZaH:SpT:=λK mg vs H Q E=>∃(f r:Addr) (F ns:List Int),vs=[.ref f,.ref r]/\H f=some (.tup (F.map V.int))/\(SqL K H r (ns.map V.int)\/SqT K H r (ns.map V.int))/\F.length<=1000/\ns.length<=1000/\(ns.length=F.length->∀(l:Addr) H',H l=none->Zh H H'->H' l=some (.lst ((hgt F ns).map V.int))->Q (.ref l) H')/\(ns.length≠F.length->∀H',Zh H H'->E (.ref (clsAt mg "Unlike")) none H')
noncomputable def Zeq:SpT:=λK mg vs H Q E=>∃(t:Addr) (T:List Int) (a b:Int),vs=[.ref t,.int a,.int b]/\H t=some (.tup (T.map V.int))/\T.length<=1000/\∀H',Zh H H'->Q (.bl (decide (0<=b/\b<T.length/\a∈Zak T b.toNat))) H'
noncomputable def ZcU (T fl rf hs:List Int) (p:Nat):Prop:=nth hs p=(if nth T p=-1 then nth fl p else max (nth fl p) (nth hs (nth T p).toNat))/\nth hs p<=nth rf p
noncomputable instance (T fl rf hs:List Int) (p:Nat):Decidable (ZcU T fl rf hs p):=by unfold ZcU;exact inferInstance
noncomputable def Zdw:SpT:=λK mg vs H Q E=>∃(t a b c:Addr) (T fl rf hs:List Int),vs=[.ref t,.ref a,.ref b,.ref c]/\H t=some (.tup (T.map V.int))/\H a=some (.lst (fl.map V.int))/\H b=some (.lst (rf.map V.int))/\H c=some (.lst (hs.map V.int))/\ZO T/\fl.length=T.length/\rf.length=T.length/\hs.length=T.length/\∀H',Zh H H'->Q (.bl (decide (∀p,p<T.length->ZcU T fl rf hs p))) H'
noncomputable def Zff (T fl rf:List Int) (a b:Int):Prop:=(0<=b/\b<T.length/\a∈Zak T b.toNat\/a=b/\0<=a/\a<T.length)/\nth rf b.toNat<nth fl a.toNat
noncomputable instance (T fl rf:List Int) (a b:Int):Decidable (Zff T fl rf a b):=by unfold Zff;exact inferInstance
noncomputable def Zfg:SpT:=λK mg vs H Q E=>∃(t c d:Addr) (T fl rf:List Int) (a b:Int),vs=[.ref t,.ref c,.ref d,.int a,.int b]/\H t=some (.tup (T.map V.int))/\H c=some (.lst (fl.map V.int))/\H d=some (.lst (rf.map V.int))/\ZO T/\fl.length=T.length/\rf.length=T.length/\∀H',Zh H H'->Q (.bl (decide (Zff T fl rf a b))) H'
inductive Td where
 |row (ns:List Int)
 |clash (a b:Int)
noncomputable def Zfh (H:Hp) (t:Addr):Td->Prop
 |.row ns=>ns.length<=1000/\∃r:Addr,H t=some (.tup [.str (Str.ofString "row"),.ref r])/\H r=some (.tup (ns.map V.int))
 |.clash a b=>H t=some (.tup [.str (Str.ofString "clash"),.int a,.int b])
noncomputable def Zfi (T ls gs:List Int):Td->Prop
 |.row ns=>ns.length=T.length/\∀p,p<T.length->ZcU T (hgt (Ze T) ls) (hgt (Ze T) gs) (hgt (Ze T) ns) p
 |.clash a b=>Zff T (hgt (Ze T) ls) (hgt (Ze T) gs) a b
noncomputable instance (T ls gs:List Int) (d:Td):Decidable (Zfi T ls gs d):=by cases d<;>(unfold Zfi;exact inferInstance)
noncomputable def Zce:SpT:=λK mg vs H Q E=>∃(t a b c:Addr) (T ls gs:List Int) (d:Td),vs=[.ref t,.ref a,.ref b,.ref c]/\H t=some (.tup (T.map V.int))/\(SqL K H a (ls.map V.int)\/SqT K H a (ls.map V.int))/\(SqL K H b (gs.map V.int)\/SqT K H b (gs.map V.int))/\ZO T/\ls.length=T.length/\gs.length=T.length/\Zfh H c d/\∀H',Zh H H'->Q (.bl (decide (Zfi T ls gs d))) H'
noncomputable def Zbr (T ls ds:List Int):Prop:=ds.length=T.length/\∀p,p<T.length->(∃o∈p::way T p,nth ds p=nth ls o+nth (Ze T) p-nth (Ze T) o)/\∀o∈p::way T p,nth ls o+nth (Ze T) p-nth (Ze T) o<=nth ds p
noncomputable def KB:Int:=250*10 ^ 57
noncomputable def Za3:SpT:=λK mg vs H Q E=>∃(p t:Addr) (T:List Int),vs=[.ref p,.ref t]/\Zz H p/\H t=some (.tup (T.map V.int))/\ZO T/\Z6 K mg "_law_kin_row" H/\∀(r:Addr) (ns:List Int) H',H r=none->Zw ns T->(∀q∈ns,-KB<=q/\q<=KB)->H' r=some (.lst (ns.map V.int))->Zz H' p->Exc p H H'->Q (.ref r) H'
noncomputable def Zgk (T ls gs:List Int) (a b:Int):Prop:=0<=a/\0<=b/\a<T.length/\b<T.length/\(a=b\/a∈Zak T b.toNat)/\nth gs b.toNat<nth ls a.toNat+nth (Ze T) b.toNat-nth (Ze T) a.toNat
noncomputable def soT (T ls gs:List Int):Td->Prop
 |.row ns=>∃ds,Zbr T ls ds/\ns=ds/\∀p,p<T.length->nth ds p<=nth gs p
 |.clash a b=>Zgk T ls gs a b
noncomputable def dpI (T:List Int) (i:Int):Int:=((Zak T i.toNat).length:Int)
noncomputable def Zdx:SpT:=λK mg vs H Q E=>∃(t:Addr) (T:List Int),vs=[.ref t]/\H t=some (.tup (T.map V.int))/\ZO T/\Z6 K mg "from_below" H/\∀(l:Addr) (ps:List Int) H',H l=none->Zh H H'->ps.Perm (nats (T.length:Int))->(ps.Pairwise λx y=>dpI T y<=dpI T x)->H' l=some (.lst (ps.map V.int))->Q (.ref l) H'
noncomputable def Zhv (F us:List Int):List Int:=(List.range F.length).map λi=>nth F i+nth us i
noncomputable def ZfR:SpT:=λK mg vs H Q E=>∃(f h:Addr) (F us:List Int),vs=[.ref f,.ref h]/\H f=some (.tup (F.map V.int))/\H h=some (.lst (us.map V.int))/\F.length=us.length/\us.length<=1000/\∀(t:Addr) H',Zh H H'->H' t=some (.tup ((Zhv F us).map V.int))->Q (.ref t) H'
noncomputable def Zi7 (T hs us:List Int):Prop:=us.length=T.length/\∀p,p<T.length->nth us p=if nth T p=-1 then nth hs p else max (nth hs p) (nth us (nth T p).toNat)
noncomputable def ZfS:SpT:=λK mg vs H Q E=>∃(t h:Addr) (T hs:List Int),vs=[.ref t,.ref h]/\H t=some (.tup (T.map V.int))/\H h=some (.lst (hs.map V.int))/\ZO T/\hs.length=T.length/\Z6 K mg "from_below" H/\∀(l:Addr) (us:List Int) H',H l=none->Zh H H'->Zi7 T hs us->H' l=some (.lst (us.map V.int))->Q (.ref l) H'
noncomputable def FirstC (T ls gs ds:List Int) (i j:Nat):Prop:=i<T.length/\(∀p,p<i->nth ds p<=nth gs p)/\¬ nth ds i<=nth gs i/\j<(i::way T i).length/\nth (hgt (Ze T) ls) ((i::way T i).getD j 0)=nth ds i-nth (Ze T) i/\∀j',j'<j->nth (hgt (Ze T) ls) ((i::way T i).getD j' 0)≠nth ds i-nth (Ze T) i
noncomputable def ZkB (T ls gs:List Int):Td->Prop
 |.row ds=>Zbr T ls ds/\∀p,p<T.length->nth ds p<=nth gs p
 |.clash a b=>Zgk T ls gs a b/\∃(ds:List Int) (i j:Nat),Zbr T ls ds/\FirstC T ls gs ds i j/\a=((i::way T i).getD j 0:Nat)/\b=(i:Int)
noncomputable def Zhw:SpT:=λK mg vs H Q E=>∃(t a b:Addr) (T ls gs:List Int),vs=[.ref t,.ref a,.ref b]/\H t=some (.tup (T.map V.int))/\(SqL K H a (ls.map V.int)\/SqT K H a (ls.map V.int))/\(SqL K H b (gs.map V.int)\/SqT K H b (gs.map V.int))/\ZO T/\ls.length=T.length/\gs.length=T.length/\Z6 K mg "from_below" H/\∀(c:Addr) (d:Td) H',Zh H H'->Zfh H' c d->ZkB T ls gs d->Q (.ref c) H'
noncomputable def ZbB (H:Hp) (v:V):Option (Int×Int)->Prop
 |none=>v=.non
 |some z=>∃a:Addr,v=.ref a/\H a=some (.tup [.int z.1,.int z.2])
noncomputable def Zmu (T:List Int) (a b:Int):Prop:=0<=b/\b<T.length/\a∈Zak T b.toNat
noncomputable def ZnX (T hs:List Int) (far:Int):Option (Int×Int)->Prop
 |none=>far=0
 |some z=>far≠0/\Zmu T z.1 z.2/\(nth hs z.1.toNat-nth hs z.2.toNat=2*far\/nth hs z.1.toNat-nth hs z.2.toNat=2*far-1)
noncomputable def Zr1 (T ns:List Int) (far:Int) (ms:List Int) (pr:Option (Int×Int)):Prop:=Zw ms T/\(∀p,p<T.length->(if nth ms p-nth ns p<0 then -(nth ms p-nth ns p)else nth ms p-nth ns p)<=far)/\ZnX T (hgt (Ze T) ns) far pr
noncomputable def Zdy:SpT:=λK mg vs H Q E=>∃(t h:Addr) (far:Int) (v:V) (T hs:List Int) (pr:Option (Int×Int)),vs=[.ref t,.ref h,.int far,v]/\H t=some (.tup (T.map V.int))/\H h=some (.lst (hs.map V.int))/\ZbB H v pr/\ZO T/\hs.length=T.length/\∀(z:Bool) H',(z=true↔ZnX T hs far pr)->Zh H H'->Q (.bl z) H'
noncomputable def ZbU:SpT:=λK mg vs H Q E=>∃(t r m:Addr) (far:Int) (v:V) (T ns ms:List Int) (pr:Option (Int×Int)),vs=[.ref t,.ref r,.int far,.ref m,v]/\H t=some (.tup (T.map V.int))/\(SqL K H r (ns.map V.int)\/SqT K H r (ns.map V.int))/\(SqL K H m (ms.map V.int)\/SqT K H m (ms.map V.int))/\ZbB H v pr/\ZO T/\ns.length=T.length/\ms.length<=1000/\∀(z:Bool) H',(z=true↔Zr1 T ns far ms pr)->Zh H H'->Q (.bl z) H'
noncomputable def obN (F ns:List Int) (a b:Nat):Int:=nth ns a+nth F b-nth F a-nth ns b
noncomputable def Zi8 (T ns:List Int) (far:Int):Prop:=0<=far/\(∀b,b<T.length->∀a∈way T b,obN (Ze T) ns a b<=2*far)/\(far=0\/∃b,b<T.length/\∃a∈way T b,obN (Ze T) ns a b=2*far\/obN (Ze T) ns a b=2*far-1)
noncomputable def Zcf:SpT:=λK mg vs H Q E=>∃(p t:Addr) (T:List Int),vs=[.ref p,.ref t]/\Zz H p/\H t=some (.tup (T.map V.int))/\ZO T/\Z6 K mg "_law_kin_row" H/\∀(r:Addr) (ns:List Int) H',H r=none->ns.length=T.length->H' r=some (.lst (ns.map V.int))->Zz H' p->Exc p H H'->Q (.ref r) H'
noncomputable def Zmv (H:Hp) (as:List Addr) (zs:List (Nat×Nat)):Prop:=as.length=zs.length/\∀(i:Nat) (a:Addr) (z:Nat×Nat),as[i]?=some a->zs[i]?=some z->H a=some (.tup [.int (z.1:Int),.int (z.2:Int)])
noncomputable def Zcg (T hs:List Int):List (List Int):=(List.range T.length).flatMap λb=>((Zak T b).filter λa=>decide (nth hs b<nth hs a.toNat)).map λa=>[a,(b:Int)]
noncomputable def ZoU (rs' rs:List (List Int)):Prop:=rs'.Perm rs/\rs'.Pairwise (λr r'=>ZeS r<=ZeS r')
noncomputable def Zch:SpT:=λK mg vs H Q E=>∃(t h:Addr) (T hs:List Int),vs=[.ref t,.ref h]/\H t=some (.tup (T.map V.int))/\H h=some (.lst (hs.map V.int))/\T.length<=40/\hs.length=T.length/\∀(l:Addr) (rs:List (List Int)) H',H l=none->Zh H H'->ZbA H' l rs->ZoU rs (Zcg T hs)->Q (.ref l) H'
noncomputable def dfK (hs:List Int) (r:List Int):Int:=nth hs (r.getD 0 0).toNat-nth hs (r.getD 1 0).toNat
noncomputable def IsPair (T hs:List Int):Option (Int×Int)->Prop
 |none=>Zcg T hs=[]
 |some z=>∃(rs:List (List Int)) (i:Nat),ZoU rs (Zcg T hs)/\i<rs.length/\rs.getD i []=[z.1,z.2]/\∀j,j<rs.length->dfK hs (rs.getD j [])<=dfK hs (rs.getD i [])/\(j<i->dfK hs (rs.getD j [])<dfK hs (rs.getD i []))
noncomputable def ZaD (hs:List Int):Option (Int×Int)->Int
 |none=>0
 |some z=>(nth hs z.1.toNat-nth hs z.2.toNat+1) / 2
noncomputable def Zer:SpT:=λK mg vs H Q E=>∃(t r:Addr) (T ns:List Int),vs=[.ref t,.ref r]/\H t=some (.tup (T.map V.int))/\(SqL K H r (ns.map V.int)\/SqT K H r (ns.map V.int))/\ZO T/\ns.length=T.length/\Z6 K mg "nearest" H/\Z6 K mg "from_below" H /\
 ∀(q m:Addr) (v:V) (ms:List Int) (pr:Option (Int×Int)) H',Zh H H'->H' q=some (.tup [.int (ZaD (hgt (Ze T) ns) pr),.ref m,v])->H' m=some (.tup (ms.map V.int))->ZbB H' v pr->IsPair T (hgt (Ze T) ns) pr->Zbr T (ns.map λx=>x-ZaD (hgt (Ze T) ns) pr) ms->Q (.ref q) H'
noncomputable def Zlt (x:Int):Int:=if x<0 then -x else x
noncomputable def Zhx:SpT:=λK mg vs H Q E=>∃(r:Addr) (ns:List Int) (i j:Nat),vs=[.ref r,.int i,.int j]/\(SqL K H r (ns.map V.int)\/SqT K H r (ns.map V.int))/\i<ns.length/\j<ns.length/\Q (.int ((if nth ns j<nth ns i then j else i:Nat):Int)) H
noncomputable def Zes:SpT:=λK mg vs H Q E=>∃(r:Addr) (ns:List Int),vs=[.ref r]/\(SqL K H r (ns.map V.int)\/SqT K H r (ns.map V.int))/\ns.length<=1000/\∀(l:Addr) H',Zh H H'->Rows H' l (Zej (nth ns) ns.length)->Q (.ref l) H'
noncomputable def Zgl:SpT:=λK mg vs H Q E=>∃(l l':Addr) (f g:Nat->Int) (n n' x y size:Nat),vs=[.ref l,.ref l',.int x,.int y,.int size]/\Rows H l (Zej f n)/\Rows H l' (Zej g n')/\x+size<=n/\y+size<=n'/\n<=1000/\n'<=1000 /\
 (ZrE f g x y size->∀H',Zh H H'->Q .non H')/\(∀a m,Zcb f g x y size a m->∀(t:Addr) H',Zh H H'->H' t=some (.tup [.int (a:Nat),.int ((a+m:Nat):Int)])->Q (.ref t) H')
noncomputable def Zhy:SpT:=λK mg vs H Q E=>∃(r r':Addr) (ns ms:List Int),vs=[.ref r,.ref r']/\(SqL K H r (ns.map V.int)\/SqT K H r (ns.map V.int))/\(SqL K H r' (ms.map V.int)\/SqT K H r' (ms.map V.int))/\ns.length<=1000/\ms.length<=1000 /\
 (ns.length≠ms.length->E (.ref (clsAt mg "Unlike")) none H)/\(ns.length=ms.length->ZaY (nth ns) (nth ms) ns.length->∀H',Zh H H'->Q .non H') /\
 (ns.length=ms.length->∀a m,Zcb (nth ns) (nth ms) 0 0 ns.length a m->∀(t:Addr) H',Zh H H'->H' t=some (.tup [.int (a:Nat),.int ((a+m:Nat):Int)])->Q (.ref t) H')
noncomputable def ZnY:SpT:=λK mg vs H Q E=>∃(r r':Addr) (ns ms:List Int),vs=[.ref r,.ref r']/\(SqL K H r (ns.map V.int)\/SqT K H r (ns.map V.int))/\(SqL K H r' (ms.map V.int)\/SqT K H r' (ms.map V.int))/\ns.length<=1000/\ms.length<=1000 /\
 ∀(b:Bool) H',(b=true↔ns.length=ms.length/\ZaY (nth ns) (nth ms) ns.length)->Zh H H'->Q (.bl b) H'
noncomputable def ZcV:SpT:=λK mg vs H Q E=>∃(t r:Addr) (T ns:List Int) (far F:Int),vs=[.ref t,.ref r,.int far]/\H t=some (.tup (T.map V.int))/\H r=some (.lst (ns.map V.int))/\ZO T/\ns.length=T.length/\Z6 K mg "from_below" H/\Zi8 T ns F/\0<=far/\(far=F\/far=F-1)/\(far=F->∀H',Zh H H'->Q (.str (Str.ofString "row")) H')/\(far=F-1->∀H',Zh H H'->Q (.str (Str.ofString "clash")) H')
noncomputable def ZaZ:SpT:=λK mg vs H Q E=>∃(p t r:Addr) (T ns:List Int) (far:Int),vs=[.ref p,.ref t,.ref r,.int far]/\Zz H p/\r≠p/\H t=some (.tup (T.map V.int))/\H r=some (.lst (ns.map V.int))/\ZO T/\ns.length=T.length/\Zi8 T ns far/\Z6 K mg "nearest" H/\Z6 K mg "from_below" H/\Z6 K mg "_law_kin_row" H/\∀H',Zz H' p->Exc p H H'->Q (.bl true) H'
section
variable {P:Program}{w:World}{K:PySem.W.Frag}{mg:Str->Option Value}{base:Heap}
theorem ZpI:FnScope ["elders","spine","place","keep"] ["elders","spine","place","keep"] (defScope ZdX):=⟨rfl,rfl,rfl,by decide +kernel,rfl,by decide +kernel,by decide +kernel⟩
theorem ZbV:FnScope ["row","elders","spine","place","keep"] ["row"] (defScope ZcH):=⟨rfl,rfl,rfl,by decide +kernel,rfl,by decide +kernel,by decide +kernel⟩
theorem ZfT:FnScope ["tree","place","way","at"] ["tree","place"] (defScope ZdY):=⟨rfl,rfl,rfl,by decide +kernel,rfl,by decide +kernel,by decide +kernel⟩
theorem Zi9:FnScope ["tree","depths"] ["tree"] (defScope ZcI):=⟨rfl,rfl,rfl,by decide +kernel,rfl,by decide +kernel,by decide +kernel⟩
theorem Zlu:FnScope ["tree"] ["tree"] (defScope Zbj):=⟨rfl,rfl,rfl,by decide +kernel,rfl,by decide +kernel,by decide +kernel⟩
theorem Zj5:FnScope ["tree"] ["tree"] (defScope ZaR):=⟨rfl,rfl,rfl,by decide +kernel,rfl,by decide +kernel,by decide +kernel⟩
theorem Zja:FnScope ["tree","place"] ["tree","place"] (defScope ZaF):=⟨rfl,rfl,rfl,by decide +kernel,rfl,by decide +kernel,by decide +kernel⟩
theorem Zmw:FnScope ["tree"] ["tree"] (defScope ZbP):=⟨rfl,rfl,rfl,by decide +kernel,rfl,by decide +kernel,by decide +kernel⟩
theorem Zj6:FnScope ["flat","row"] ["flat","row"] (defScope ZaS):=⟨rfl,rfl,rfl,by decide +kernel,rfl,by decide +kernel,by decide +kernel⟩
theorem ZpJ:FnScope ["flat","heights"] ["flat","heights"] (defScope ZdZ):=⟨rfl,rfl,rfl,by decide +kernel,rfl,by decide +kernel,by decide +kernel⟩
theorem Zhz:FnScope ["tree","heights","up","place"] ["tree","heights"] (defScope Zd0):=⟨rfl,rfl,rfl,by decide +kernel,rfl,by decide +kernel,by decide +kernel⟩
theorem ZnZ:FnScope ["tree","a","b"] ["tree","a","b"] (defScope ZcJ):=⟨rfl,rfl,rfl,by decide +kernel,rfl,by decide +kernel,by decide +kernel⟩
theorem ZeT:FnScope ["tree","heights","pairs"] ["tree","heights"] (defScope Zap):=⟨rfl,rfl,rfl,by decide +kernel,rfl,by decide +kernel,by decide +kernel⟩
theorem ZaA:FnScope ["tree","row","flat","heights","pair","far","a","b","made"] ["tree","row"] (defScope ZcK):=⟨rfl,rfl,rfl,by decide +kernel,rfl,by decide +kernel,by decide +kernel⟩
theorem Zdz:FnScope ["tree","heights","far","pair","a","b"] ["tree","heights","far","pair"] (defScope ZaT):=⟨rfl,rfl,rfl,by decide +kernel,rfl,by decide +kernel,by decide +kernel⟩
theorem ZbW:FnScope ["tree","row","far","made","pair","heights","near"] ["tree","row","far","made","pair"] (defScope Zab):=⟨rfl,rfl,rfl,by decide +kernel,rfl,by decide +kernel,by decide +kernel⟩
theorem Zbs:FnScope ["tree","least","greatest","flat","floors","roofs","needed","b","height","lifting"] ["tree","least","greatest"] (defScope Zd1):=⟨rfl,rfl,rfl,by decide +kernel,rfl,by decide +kernel,by decide +kernel⟩
theorem Za1:FnScope ["tree","floors","roofs","heights","place","height","elder","needed"] ["tree","floors","roofs","heights"] (defScope ZaU):=⟨rfl,rfl,rfl,by decide +kernel,rfl,by decide +kernel,by decide +kernel⟩
theorem Zh3:FnScope ["tree","floors","roofs","a","b","there"] ["tree","floors","roofs","a","b"] (defScope ZbQ):=⟨rfl,rfl,rfl,by decide +kernel,rfl,by decide +kernel,by decide +kernel⟩
theorem Za4:FnScope ["tree","least","greatest","told","flat","floors","roofs"] ["tree","least","greatest","told"] (defScope Zaq):=⟨rfl,rfl,rfl,by decide +kernel,rfl,by decide +kernel,by decide +kernel⟩
theorem ZpK:FnScope ["row","one","other"] ["row","one","other"] (defScope Zd2):=⟨rfl,rfl,rfl,by decide +kernel,rfl,by decide +kernel,by decide +kernel⟩
theorem ZbC:FnScope ["row","table","lows","size"] ["row"] (defScope Zbk):=⟨rfl,rfl,rfl,by decide +kernel,rfl,by decide +kernel,by decide +kernel⟩
theorem ZcW:FnScope ["ones","others","one","other","size","more","here","there","a"] ["ones","others","one","other","size"] (defScope ZcL):=⟨rfl,rfl,rfl,by decide +kernel,rfl,by decide +kernel,by decide +kernel⟩
theorem ZpL:FnScope ["one","other"] ["one","other"] (defScope Zd3):=⟨rfl,rfl,rfl,by decide +kernel,rfl,by decide +kernel,by decide +kernel⟩
theorem sc_kin:FnScope ["one","other"] ["one","other"] (defScope ZkA):=⟨rfl,rfl,rfl,by decide +kernel,rfl,by decide +kernel,by decide +kernel⟩
theorem Zai:FnScope ["script","k","cell","seed","number","turn"] ["script","k"] (defScope Zbl):=⟨rfl,rfl,rfl,by decide +kernel,rfl,by decide +kernel,by decide +kernel⟩
theorem ZgW:FnScope ["pot","many","digit"] ["pot","many"] (defScope Zbm):=⟨rfl,rfl,rfl,by decide +kernel,rfl,by decide +kernel,by decide +kernel⟩
theorem ZaL:FnScope ["pot","most","many","kind","turn","row","k"] ["pot","most"] (defScope ZbR):=⟨rfl,rfl,rfl,by decide +kernel,rfl,by decide +kernel,by decide +kernel⟩
theorem Zcy:FnScope ["tree","place","way","here"] ["tree","place"] (defScope Zbn):=⟨rfl,rfl,rfl,by decide +kernel,rfl,by decide +kernel,by decide +kernel⟩
theorem Zlv:FnScope ["tree"] ["tree"] (defScope Zbo):=⟨rfl,rfl,rfl,by decide +kernel,rfl,by decide +kernel,by decide +kernel⟩
theorem Z2:FnScope ["pot","row","way"] ["pot"] (defScope Zac):=⟨rfl,rfl,rfl,by decide +kernel,rfl,by decide +kernel,by decide +kernel⟩
theorem ZR:FnScope ["pot","tree","flat","row","place","elder","more"] ["pot","tree"] (defScope Zar):=⟨rfl,rfl,rfl,by decide +kernel,rfl,by decide +kernel,by decide +kernel⟩
theorem Zad:FnScope ["pot","tree","row","way"] ["pot","tree"] (defScope Zas):=⟨rfl,rfl,rfl,by decide +kernel,rfl,by decide +kernel,by decide +kernel⟩
theorem ZbD:FnScope ["tree","row","far","least","greatest","told"] ["tree","row","far"] (defScope ZaG):=⟨rfl,rfl,rfl,by decide +kernel,rfl,by decide +kernel,by decide +kernel⟩
theorem Zam:FnScope ["pot","tree","row","far","turn","other","away"] ["pot","tree","row","far"] (defScope ZU):=⟨rfl,rfl,rfl,by decide +kernel,rfl,by decide +kernel,by decide +kernel⟩
theorem ZdA:FnScope ["script","k","pot","tree","row","far","made","pair","more","moved"] ["script"] (defScope ZgV):=⟨rfl,rfl,rfl,by decide +kernel,rfl,by decide +kernel,by decide +kernel⟩
theorem Zlw {f : Addr} {fd : FuncData} (F : Fun K "_law_deal" "_law_deal" Zbl f fd)  (T : Txt K mg) : FnOk P w K mg base (CXE P w) 1 f fd ["script", "k"] (Zen K mg) := by
  refine F.okX Zai (fun vs H Q E h => ?_) (fun cdv A outer s H vs Q E hr h => ?_)
  · obtain ⟨a, ns, k, rfl, _⟩ := h; rfl
  obtain ⟨a, ns, k, rfl, hS, h0, h1, k1⟩ := h
  refine ⟨_, (Zc (Zq (i := 2) Zai.nd rfl (Or.inl rfl) Zf)
      (Zc (ZQ (Zo ZgE (pv 1) (Zk (Zl (K := K) rfl) rfl T.b_len PySem.boot_len (Za (pv 0) Zb)) (Zr _)) (Zi (Zq (i := 2) Zai.nd rfl (Or.inl rfl) (Zn Ze6 (ZD Zy (pv 0) (pv 1) (fun _ _ => rfl)) (Zn Zax (Zn Zax (Zn Zax (Zn Zeb Zf Zf) (Zn Zeb Zf Zf)) (Zn Zeb Zf Zf)) (Zn Zeb Zf Zf))))) ZC)
      (Zc (ZQ (Zo Zop (pv 2) (Zn Zeb Zf Zf) (Zr _)) (Zi (Zu (Zdt (Za (Zn ZS (pv 2) (Zn Zeb Zf Zf)) Zb)))) ZC)
      (Zc (Zq (i := 3) Zai.nd rfl (Or.inl rfl) (Zn Zaj (Zn Zaj (Zn Ze6 (pv 2) Zf) (Zn Zax Zf (pv 1))) Zf))
      (Zc (Zq (i := 4) Zai.nd rfl (Or.inl rfl) Zf)
      (Zc (Zbw (ZcP PassesOwn.never rfl (Z8 rfl T.b_range (Za Zf Zb)) (Zm (i := 5) Zai.nd rfl (Or.inl rfl)) (Zc (Zq (i := 3) Zai.nd rfl (Or.inl rfl) (Zn Ze6 (Zn Zaj (Zn Zax (pv 3) Zf) Zf) Zf))
      (Zi (Zq (i := 4) Zai.nd rfl (Or.inl rfl) (Zn Zaj (Zn Zax (pv 4) Zf) (Zn Ze6 (Zn ZgS (Zn Ze6 (Zn Zax (pv 3) (pv 3)) Zf) Zf) Zf)))))))
      (Zi (Zu (Zdt (Za (pv 4) Zb)))))))))), ?_⟩
  simp only [tIfS, tNot, ZlW, ZkR, rI0, rI, rU, ZlR, tC, tB, tIf, Zq5, tOrV, Zos, Zor, tNil, Zo0, tSeq, tRet, Zq6, tOp, tUn, tAnd, tOr, Zq7, Ze4, gSub, tAug, tCB, tSl, Znm, tLst, tTup, L2.start, tYes, gTup, Zoi, gNil, ZW, Option.join_some, Option.join_none, rEq, rNe, ZoA, ZoB, ZoC, ZoD, ZoE, ZoF, tBM, Bool.true_eq_false, List.map_cons, List.map_nil, List.cons_append, List.nil_append, List.length_cons, List.length_nil, List.replicate, List.append_nil, List.set_cons_zero, List.set_cons_succ, List.getElem?_cons_zero, List.getElem?_cons_succ, Option.some.injEq, V.int.injEq, V.bl.injEq, V.ref.injEq, List.cons.injEq, and_true, true_and, exists_eq_left, exists_eq_left', exists_and_left, exists_eq, decide_eq_true_eq, Bool.not_eq_true', decide_eq_false_iff_not, cxK, and_assoc, Bool.false_eq_true, ↓reduceIte, Zoz, Zkn, Zl2, Zq9, Zra, Zoj, iTup, iZip, ZkW, rIxT, Zrh, rIsi, Zrx, Zk8, Zns, rLen, rLof, rTof, rEqD, Zrs, Zrt, rIn, rSlQ, ZrC, ZrD, Zld, rAll, rIxQ, tRev, rSlL, Zrg, ZkU, tSl, ipI, Zk1, rRep, ZoG, Zrp, ZrH, V.str.injEq, rSlV, ZrK, tLam, Zlm, Zln, Zlp, Zkz, ZnW, cp18, cp60, qm1, qm2, qm3, qm4]
  have fin : ∀ g : Int, 0 ≤ g → ∀ p, H p = none → Q (V.ref p) (upd H p (.lst [V.int g])) := fun g hg p hp => k1 p _ hp ((Zh.refl H).upd hp) ⟨_, Zd, hg⟩
  refine ⟨_, .inl hS, ZF (fun hk => ?_) (fun hk => ?_)⟩
  case' refine_1 =>
    obtain ⟨j, hj0⟩ := Int.eq_ofNat_of_zero_le h0
    have hj : j < (ns.map V.int).length := by omega
    refine ⟨_, hS, _, Zef hj0 hj, ns[j]'(by simpa using hj), by simp, ZF (fun c => ⟨by decide, fin _ (Int.sub_nonneg.mpr c)⟩) (fun _ => ⟨by decide, Zfa (by decide) (by decide), by decide, by decide, ?_⟩)⟩
  case' refine_2 =>
    refine ZF (fun z => absurd z (by decide)) (fun _ => ⟨by decide, Zfa (by decide) (by decide), by decide, by decide, ?_⟩)
  all_goals
    refine ZbL (fun i σ H' => ∃ v2 g o v5, σ = [some (.ref a), some (.int k), v2, some (.int o), some (.int g), v5] ∧ 0 ≤ g ∧ H' = H) ⟨_, 0, _, none, rfl, Int.le_refl _, rfl⟩ ?_ ?_
    · rintro i σ H' hi ⟨v2, g, o, v5, rfl, hg, rfl⟩
      walk_at "rd"
      have b1 := Int.emod_nonneg (o * 48271 + 12345) (b := 2147483647) (by decide)
      have b2 := Int.emod_lt_of_pos (o * 48271 + 12345) (b := 2147483647) (by decide)
      refine ⟨mul_r (by decide) (by decide), by decide, mul_r (by decide) (by decide), Zfa (by omega) (by omega), by decide, ⟨by decide, by decide⟩, by decide, ?_⟩
      have b3 := Int.emod_nonneg ((o * 48271 + 12345) % 2147483647 * ((o * 48271 + 12345) % 2147483647) % 2147483629 / 64) (b := 16777216) (by decide)
      have b4 := Int.mul_nonneg hg (show (0 : Int) ≤ 16777216 by decide)
      omega
    · rintro σ H' ⟨v2, g, o, v5, rfl, hg, rfl⟩
      walk_at "rd"
      exact ⟨by decide, fin g hg⟩
theorem Zlx {f : Addr} {fd : FuncData} (F : Fun K "_law_take" "_law_take" Zbm f fd)  (T : Txt K mg) : FnOk P w K mg base (CXE P w) 1 f fd ["pot", "many"] (Zaz K mg) := by
  refine F.okX ZgW (fun vs H Q E h => ?_) (fun cdv A outer s H vs Q E hr h => ?_)
  · obtain ⟨p, many, rfl, _⟩ := h; rfl
  obtain ⟨p, many, rfl, h0, h1, ⟨x, hp, hx⟩, k1⟩ := h
  refine ⟨_, (Zc (Zq (i := 2) ZgW.nd rfl (Or.inl rfl) (Zn Ze6 (ZD Zy (pv 0) Zf (fun _ _ => rfl)) (pv 1)))
      (Zc (Ze5 (Zn ZgS (ZD Zy (pv 0) Zf (fun _ _ => rfl)) (pv 1)) (ZiB (pv 0) Zf set_list (fun _ => rfl)))
      (Zi (Zu (pv 2))))), ?_⟩
  walk_at "rd"
  refine ⟨_, SqL.of hp, _, rfl, _, rfl, h0, ?_⟩
  refine ⟨_, SqL.of hp, _, rfl, _, rfl, ⟨h0, by omega⟩, _, hp, _, rfl, ?_⟩
  exact k1 _ _ (Int.emod_nonneg _ (by omega)) (Int.emod_lt_of_pos _ h0) ⟨_, Zd, Int.ediv_nonneg hx (by omega)⟩ Exc.upd
theorem Zmx {f:Addr}{fd:FuncData} (F:Fun K "_law_row" "_law_row" ZbR f fd) (Zp:Callee P w K mg base "_law_take" 1 ["pot","many"] (Zaz K mg)) (T:Txt K mg):FnOk P w K mg base (CXE P w) 2 f fd ["pot","most"] (Zfe K mg):=by
 refine F.okX ZaL (λvs H Q E h=>?_) (λcdv A outer s H vs Q E hr h=>?_)
 ·obtain⟨p,most,rfl,_⟩:=h;rfl
 obtain⟨p,most,rfl,h0,h1,hP,k1⟩:=h
 refine⟨_,(Zc (Zq (i:=2) ZaL.nd rfl (Or.inl rfl) (Zg Zp (hr.mono (by decide)) rfl Zv (Za (pv 0) (Za (Zn Zaj (pv 1) Zf) Zb))))
   (Zc (Zq (i:=3) ZaL.nd rfl (Or.inl rfl) (Zg Zp (hr.mono (by decide)) rfl Zv (Za (pv 0) (Za Zf Zb))))
   (Zc (Zq (i:=4) ZaL.nd rfl (Or.inl rfl) (Zn Zaj Zf (Zg Zp (hr.mono (by decide)) rfl Zv (Za (pv 0) (Za Zf Zb)))))
   (Zc (Zq (i:=5) ZaL.nd rfl (Or.inr rfl) (Zdt Zb))
   (Zc (Zbw (ZcP PassesOwn.never rfl (Z8 rfl T.b_range (Za (pv 2) Zb)) (Zm (i:=6) ZaL.nd rfl (Or.inl rfl)) (Zi (ZQ (Zo ZgE (pv 3) Zf (Zr _)) (Zi (Za2 (ZeR PySem.F.plainAttrs_list PySem.F.slot_list_append PySem.F.type_list_append ZaO (pv 5) (Za (Zg Zp (hr.mono (by decide)) rfl Zv (Za (pv 0) (Za (pv 4) Zb))) Zb)))) (Zi (ZQ (Zo Zbg (pv 3) Zf (Zr _)) (Zi (Za2 (ZeR PySem.F.plainAttrs_list PySem.F.slot_list_insert PySem.F.type_list_insert Zpg (pv 5) (Za (Zg Zp (hr.mono (by decide)) rfl Zv (Za (pv 0) (Za (Zn Zaj (pv 6) Zf) Zb))) (Za (pv 6) Zb))))) (Zi (ZQ (Zo Zbg (pv 3) Zf (Zr _)) (Zi (Za2 (ZeR PySem.F.plainAttrs_list PySem.F.slot_list_append PySem.F.type_list_append ZaO (pv 5) (Za (Zn ZS (Zn Ze6 (pv 6) (pv 4)) (Zn ZgS (pv 6) (pv 4))) Zb)))) (Zi (ZQ (Zo Zbg (pv 3) Zf (Zr _)) (Zi (Za2 (ZeR PySem.F.plainAttrs_list PySem.F.slot_list_append PySem.F.type_list_append ZaO (pv 5) (Za (ZD Zy (Zdt (Za (pv 6) (Za (Zok ZkQ (pv 6)) Zb))) (Zn Ze6 (pv 4) Zf) (λ_ _=>rfl)) Zb)))) (Zi (ZQ (Zo Zbg (pv 3) Zf (Zr _)) (Zi (Za2 (ZeR PySem.F.plainAttrs_list PySem.F.slot_list_append PySem.F.type_list_append ZaO (pv 5) (Za (Zn Zax (Zn ZS (Zg Zp (hr.mono (by decide)) rfl Zv (Za (pv 0) (Za Zf Zb))) Zf) (Zn Zeb Zf Zf)) Zb)))) (Zi (Za2 (ZeR PySem.F.plainAttrs_list PySem.F.slot_list_append PySem.F.type_list_append ZaO (pv 5) (Za (Zn ZS (Zg Zp (hr.mono (by decide)) rfl Zv (Za (pv 0) (Za Zf Zb))) Zf) Zb))))))))))))))))
   (Zc (ZQ (Zo Zbg (pv 3) Zf (Zr _)) (Zi (Zq (i:=5) ZaL.nd rfl (Or.inr rfl) (Zah ["k","row"] [none,some 5] rfl rfl rfl (Z8 rfl T.b_range (Za (pv 2) Zb)) (λ_ _ _ _ _=>(Zm (i:=0) (show(["k","row"]:List Str).Nodup from by decide +kernel) rfl (Or.inl rfl))) (λ_ _ _ _ _=>ZK) (λ_ _ _ _ _=>(pe_bmK (K:=K) rfl PySem.F.plainAttrs_list PySem.F.slot_list_index PySem.F.type_list_index (Zrw (K:=K) rfl) (pv 1) (Za (pv 0) Zb))) Zs))) ZC)
   (Zi (Zu (pv 5))))))))),?_⟩
 refine ZaX (fun σ Hx=>∃m:Int,σ=[some (.ref p),some (.int most),some (.int m),none,none,none,none]/\0<=m/\m<=most/\Zz Hx p/\Exc p H Hx) (λR hR=>?_) ?_
 ·walk_at "rd"
  exact⟨p,_,rfl,by omega,by omega,hP,λd H1 d0 d1 P1 e1=>hR _ _ ⟨d,rfl,d0,by omega,P1,e1⟩⟩
 rintro σ H1 ⟨many,rfl,m0,m1,P1,e1⟩
 refine ZaX (fun σ Hx=>∃k:Int,σ=[some (.ref p),some (.int most),some (.int many),some (.int k),none,none,none]/\0<=k/\k<8/\Zz Hx p/\Exc p H Hx) (λR hR=>?_) ?_
 ·walk_at "rd"
  exact⟨p,_,rfl,by decide,by decide,P1,λd H2 d0 d1 P2 e2=>hR _ _ ⟨d,rfl,d0,d1,P2,e1.trans e2⟩⟩
 clear P1 e1 H1
 rintro σ H1 ⟨kd,rfl,d0,d1,P1,e1⟩
 refine ZaX (fun σ Hx=>∃t:Int,σ=[some (.ref p),some (.int most),some (.int many),some (.int kd),some (.int t),none,none]/\2<=t/\t<6/\Zz Hx p/\Exc p H Hx) (λR hR=>?_) ?_
 ·walk_at "rd"
  exact⟨p,_,rfl,by decide,by decide,P1,λd H2 d0 d1 P2 e2=>⟨d,rfl,hR _ _ ⟨_,rfl,by omega,by omega,P2,e1.trans e2⟩⟩⟩
 clear P1 e1 H1
 rintro σ H1 ⟨tn,rfl,t0,t1,P1,e1⟩
 refine ZaX (fun σ Hx=>∃q:Addr,σ=[some (.ref p),some (.int most),some (.int many),some (.int kd),some (.int tn),some (.ref q),none]/\H q=none/\q≠p/\Hx q=some (.lst [])/\Zz Hx p/\Exc p H Hx) (λR hR=>?_) ?_
 ·walk_at "rd"
  exact⟨Nat.zero_le _,λq hq=>hR _ _ ⟨q,rfl,e1.free (P1.ne hq) hq,P1.ne hq,Zd,P1.upd hq,e1.same ((Zh.refl H1).upd hq)⟩⟩
 clear P1 e1 H1
 rintro σ H1 ⟨q,rfl,zq,nqp,hq1,P1,e1⟩
 refine ZaX (fun σ Hx=>∃(ns:List Int) (v6:Option V),σ=[some (.ref p),some (.int most),some (.int many),some (.int kd),some (.int tn),some (.ref q),v6]/\(ns.length:Int)=many/\(kd=3->∀j:Nat,(j:Int)<many->(j:Int)∈ns)/\Hx q=some (.lst (ns.map V.int))/\Zz Hx p/\Exc p H Hx) (λR hR=>?_) ?_
 ·walk_at "rd"
  refine⟨by omega,by omega,?_⟩
  refine ZbL (λi σ Hx=>∃(ns:List Int) (v6:Option V),σ=[some (.ref p),some (.int most),some (.int many),some (.int kd),some (.int tn),some (.ref q),v6]/\ns.length=i/\(kd=3->∀j:Nat,j<i->(j:Int)∈ns)/\Hx q=some (.lst (ns.map V.int))/\Zz Hx p/\Exc p H Hx) ⟨[],none,rfl,rfl,(λ_ j hj=>absurd hj (by omega)),hq1,P1,e1⟩ ?_ ?_
  ·rintro i σ Hx hi ⟨ns,v6,rfl,hl,hin,hqx,Px,ex⟩
   have hi':i<1000:=by omega
   have hb:(ns.map V.int).length<sizeLine:=Nat.lt_of_le_of_lt (show _<=1000 by rw[List.length_map];omega) (by decide)
   have app:kd≠3->∀(y:Int) (Hy:Hp),Hy q=some (.lst (ns.map V.int))->Zz Hy p->Exc p H Hy->∃x_1,Hy q=some (HO.lst x_1)/\x_1.length<sizeLine/\∃ns':List Int,ns'.length=i+1/\(kd=3->∀(j:Nat),j<i+1->(j:Int)∈ns')/\upd Hy q (HO.lst (x_1++[V.int y])) q=some (HO.lst (List.map V.int ns'))/\Zz (upd Hy q (HO.lst (x_1++[V.int y]))) p/\Exc p H (upd Hy q (HO.lst (x_1++[V.int y]))):=λn3 y Hy hy Py ey =>
    ⟨_,hy,hb,ns++[y],by simp[hl],(λz=>absurd z n3),by rw[Zd];simp,Py.Znr nqp,ey.Znr zq⟩
   walk_at "rd"
   refine ZF (λk3=>⟨ZaC hqx,p,_,rfl,by omega,by omega,Px,λd H2 d0 d1 P2 e2=>app (by omega) d H2 (e2 _ _ nqp hqx) P2 (ex.trans e2)⟩) λk3=>?_
   refine ZF (λk4=>⟨ZaC hqx,p,_,rfl,by omega,by omega,Px,λd H2 d0 d1 P2 e2=>?_⟩) λk4=>?_
   ·refine⟨_,d,rfl,e2 _ _ nqp hqx,d0,by omega,hb,ns.take d.toNat++(0+(i:Int))::ns.drop d.toNat,by simp;omega,λ_ j hj=>?_,by rw[Zd];simp,P2.Znr nqp,(ex.trans e2).Znr zq⟩
    by_cases ej:j=i
    ·rw[ej];simp
    ·have hm:=hin k4 j (by omega)
     rw[<-List.take_append_drop d.toNat ns]at hm
     rcases List.mem_append.mp hm with z|z
     ·exact List.mem_append_left _ z
     ·exact List.mem_append_right _ (List.mem_cons_of_mem _ z)
   refine ZF (λk5=>⟨ZaC hqx,by omega,⟨by omega,by omega⟩,app k4 _ Hx hqx Px ex⟩) λk5=>?_
   refine ZF (λk6=>⟨ZaC hqx,by decide,λu hu=>⟨by decide,?_⟩⟩) λk6=>?_
   ·obtain⟨v,hv,y,rfl⟩:=Zts (xs:=[V.int (0+(i:Int)),V.int (-(0+(i:Int)))]) (i:=tn % 2) (λv=>∃y:Int,v=V.int y) (by omega) (by show _<((2:Nat):Int);omega) (by
     intro x hx
     simp only[List.mem_cons,List.not_mem_nil,or_false]at hx
     rcases hx with rfl|rfl<;>exact⟨_,rfl⟩)
    have g:=(Zh.refl Hx).upd (o:=.lst [V.int (0+(i:Int)),V.int (-(0+(i:Int)))]) hu
    exact⟨_,SqL.of Zd,_,hv,app k4 y _ (g _ _ hqx) (Px.same g) (ex.same g)⟩
   exact ZF (λk7=>⟨ZaC hqx,p,_,rfl,by decide,by decide,Px,λd H2 d0 d1 P2 e2=>⟨d,rfl,cp59,Zfa (by omega) (by omega),app k4 _ H2 (e2 _ _ nqp hqx) P2 (ex.trans e2)⟩⟩) λk7=>⟨ZaC hqx,p,_,rfl,by decide,by decide,Px,λd H2 d0 d1 P2 e2=>⟨d,rfl,app k4 _ H2 (e2 _ _ nqp hqx) P2 (ex.trans e2)⟩⟩
  ·rintro σ Hx ⟨ns,v6,rfl,hl,hin,hqx,Px,ex⟩
   exact hR _ _ ⟨ns,v6,rfl,by omega,(λz j hj=>hin z j (by omega)),hqx,Px,ex⟩
 clear P1 e1 hq1 H1
 rintro σ H1 ⟨ns,v6,rfl,hl,hin,hq1,P1,e1⟩
 refine ZaX (fun σ Hx=>∃(q:Addr) (ns:List Int) (v6:Option V),σ=[some (.ref p),some (.int most),some (.int many),some (.int kd),some (.int tn),some (.ref q),v6]/\H q=none/\(ns.length:Int)=many/\Hx q=some (.lst (ns.map V.int))/\Zz Hx p/\Exc p H Hx) (λR hR=>?_) ?_
 ·walk_at "rd"
  refine ZF (λk3=>⟨by omega,by omega,?_⟩) λk3=>hR _ _ ⟨q,ns,v6,rfl,zq,hl,hq1,P1,e1⟩
  refine comp_map (n:=many.toNat) (λj=>V.int ((ns.idxOf ((j:Nat):Int):Nat):Int)) (Nat.lt_of_le_of_lt (show _<=1000 by omega) (by decide)) (λj Hx s hj=>hj) (λHx s=>Nat.le_refl _) ?_ ?_
  ·rintro j x Hx Hy hj s ⟨rfl,rfl⟩
   have e0:((0:Int)+(j:Int))=(j:Int):=by omega
   rw[e0]
   walk_at "rd"
   exact⟨ZaC (s _ _ hq1),_,SqL.of (s _ _ hq1),by omega,hin k3 j (by omega),CW.next hj rfl s⟩
  ·intro l Hx s hlx
   have em:(List.range many.toNat).map (λj=>V.int ((ns.idxOf ((j:Nat):Int):Nat):Int))=((List.range many.toNat).map λj=>((ns.idxOf ((j:Nat):Int):Nat):Int)).map V.int:=by rw[List.map_map];rfl
   rw[em]
   exact hR _ _ ⟨l,_,v6,rfl,e1.free ((P1.same s).ne hlx) (s.free hlx),by simp;omega,Zd,(P1.same s).upd hlx,(e1.same s).same ((Zh.refl Hx).upd hlx)⟩
 rintro σ H2 ⟨q2,ms,v6',rfl,zq2,hl2,hq2,P2,e2⟩
 walk_at "rd"
 exact k1 q2 ms _ zq2 (by omega) hq2 P2 e2
theorem ZpM {f : Addr} {fd : FuncData} (F : Fun K "settle" "settle" ZdX f fd)  (T : Txt K mg) : FnOk P w K mg base (CXE P w) 1 f fd ["elders", "spine", "place", "keep"] (Zhu K mg) := by
  refine F.okX ZpI (fun vs H Q E h => ?_) (fun cdv A outer s H vs Q E hr h => ?_)
  · obtain ⟨el, sp, es, A, B, i, rfl, _⟩ := h; rfl
  obtain ⟨el, sp, es, A', B, i, rfl, hel, hsp, hne, hi, hq, hlen, k1⟩ := h
  refine ⟨_, (Zc (ZQ (Zo ZgE (pv 3) (Zk (Zl (K := K) rfl) rfl T.b_len PySem.boot_len (Za (pv 1) Zb)) (Zr _)) (Zi (Ze5 (pv 2) (ZiB (pv 0) (ZD Zy (pv 1) (pv 3) (fun _ _ => rfl)) set_list (fun _ => rfl)))) ZC)
      (Zc (ZQ (Zo ZeQ (pv 3) Zf (Zr _)) (Zi (Ze5 (ZD Zy (pv 1) (Zn ZS (pv 3) Zf) (fun _ _ => rfl)) (ZiB (pv 0) (pv 2) set_list (fun _ => rfl)))) ZC)
      (Zc (Znv (pv 1) (pv 3))
      (Zi (Za2 (ZeR PySem.F.plainAttrs_list PySem.F.slot_list_append PySem.F.type_list_append ZaO (pv 1) (Za (pv 2) Zb))))))), ?_⟩
  walk_at "rd"
  have hb1 : (Zal A').length < sizeLine := by
    rw [Zbh]
    rw [List.length_append] at hlen
    exact Nat.lt_of_le_of_lt (show _ ≤ 1000 by omega) (by decide)
  have etk : List.take A'.length (Zal (A' ++ B)) = Zal A' := by
    rw [ZfQ]
    have : A'.length = (Zal A').length := (Zbh A').symm
    rw [this, List.take_left]
  have hle : A'.length ≤ (Zal (A' ++ B)).length := by rw [Zbh, List.length_append]; omega
  have esn : Zal A' ++ [V.int (i : Nat)] = Zal (A' ++ [i]) := by rw [ZfQ]; rfl
  refine ⟨_, .inl (SqL.of hsp), ?_⟩
  rw [Zbh, List.length_append]
  -- the end: behind the two stores
  have fin : ∀ (es1 : List Int) (Hx : Hp), (∀ b o, b ≠ el → b ≠ sp → H b = some o → Hx b = some o) → Hx el = some (.lst (es1.map V.int)) → Hx sp = some (.lst (Zal (A' ++ B))) → es1 = Zik es A' B i →
      ∃ (xs : List V) (k : Nat), (A'.length : Int) = (k : Int) ∧ Hx sp = some (HO.lst xs) ∧ k ≤ xs.length ∧ tyV K "list" (V.ref sp) (upd Hx sp (HO.lst (List.take k xs))) ∧ ∃ x, upd Hx sp (HO.lst (List.take k xs)) sp = some (HO.lst x) ∧ x.length < sizeLine ∧ Q V.non (upd (upd Hx sp (HO.lst (List.take k xs))) sp (HO.lst (x ++ [V.int (i : Nat)]))) := by
    intro es1 Hx h1 h2 h3 h4
    refine ⟨_, A'.length, rfl, h3, hle, ZaC Zd, _, Zd, by rw [etk]; exact hb1, k1 _ (fun b o n1 n2 z => by rw [Zj n2, Zj n2]; exact h1 b o n1 n2 z) (by rw [Zj hne, Zj hne, h2, h4]) (by rw [Zd, etk, esn])⟩
  -- elders[place] = spine[keep - 1]
  have mid : ∀ (es1 : List Int) (Hx : Hp), (∀ b o, b ≠ el → b ≠ sp → H b = some o → Hx b = some o) → Hx el = some (.lst (es1.map V.int)) → es1.length = es.length → Hx sp = some (.lst (Zal (A' ++ B))) → ∀ q, A'.getLast? = some q → es1.set i (q : Int) = Zik es A' B i →
      ∃ x, SqL K Hx sp x ∧ ∃ x_1, atI x ((A'.length : Int) - 1) = some x_1 ∧ ∃ x, Hx el = some (HO.lst x) ∧ ∃ x_2, ixN x.length (i : Int) = some x_2 ∧ ∃ (xs : List V) (k : Nat), (A'.length : Int) = (k : Int) ∧ upd Hx el (HO.lst (x.set x_2 x_1)) sp = some (HO.lst xs) ∧ k ≤ xs.length ∧ tyV K "list" (V.ref sp) (upd (upd Hx el (HO.lst (x.set x_2 x_1))) sp (HO.lst (List.take k xs))) ∧
        ∃ x_3, upd (upd Hx el (HO.lst (x.set x_2 x_1))) sp (HO.lst (List.take k xs)) sp = some (HO.lst x_3) ∧ x_3.length < sizeLine ∧ Q V.non (upd (upd (upd Hx el (HO.lst (x.set x_2 x_1))) sp (HO.lst (List.take k xs))) sp (HO.lst (x_3 ++ [V.int (i : Nat)]))) := by
    intro es1 Hx h1 h2 hl1 h3 q hq h4
    have hpos : 0 < A'.length := by
      cases A' with
      | nil => cases hq
      | cons _ _ => simp
    have hat : (A' ++ B)[A'.length - 1]? = some q := by
      rw [List.getElem?_append_left (by omega)]
      rw [List.getLast?_eq_getElem?] at hq; exact hq
    have ei : ((A'.length : Int) - 1) = ((A'.length - 1 : Nat) : Int) := by omega
    refine ⟨_, SqL.of h3, _, by rw [ei]; exact ZiS hat, _, h2, i, by rw [List.length_map, hl1]; exact Ziy hi, ?_⟩
    have em : (es1.map V.int).set i (V.int (q : Nat)) = (es1.set i (q : Int)).map V.int := by rw [List.map_set]
    rw [em]
    exact fin _ _ (fun b o n1 n2 z => by rw [Zj n1]; exact h1 b o n1 n2 z) Zd (by rw [Zj hne.symm]; exact h3) h4
  cases B with
  | nil =>
    rw [if_neg (by simp)]
    cases hq : A'.getLast? with
    | none =>
      have : A' = [] := List.getLast?_eq_none_iff.mp hq
      rw [if_neg (by rw [this]; simp)]
      exact fin es H (fun b o _ _ z => z) hel hsp (by unfold Zik; rw [hq]; rfl)
    | some q =>
      have : A' ≠ [] := fun z => by rw [z] at hq; cases hq
      rw [if_pos (by have := List.length_pos_iff.mpr this; omega)]
      exact mid es H (fun b o _ _ z => z) hel rfl hsp q hq (by unfold Zik; rw [hq]; rfl)
  | cons b Br =>
    rw [if_pos (by simp; omega)]
    have hat : (A' ++ b :: Br)[A'.length]? = some b := by rw [List.getElem?_append_right (Nat.le_refl _)]; simp
    have hbn : b < es.length := hq b (by simp)
    refine ⟨_, SqL.of hsp, _, ZiS hat, _, _, rfl, hel, b, by rw [List.length_map]; exact Ziy hbn, ?_⟩
    have em : (es.map V.int).set b (V.int (i : Nat)) = (es.set b (i : Int)).map V.int := by rw [List.map_set]
    rw [em]
    cases hq2 : A'.getLast? with
    | none =>
      have : A' = [] := List.getLast?_eq_none_iff.mp hq2
      rw [if_neg (by rw [this]; simp)]
      exact fin (es.set b i) _ (fun c o n1 n2 z => by rw [Zj n1]; exact z) Zd (by rw [Zj hne.symm]; exact hsp) (by unfold Zik; rw [hq2]; rfl)
    | some q =>
      have : A' ≠ [] := fun z => by rw [z] at hq2; cases hq2
      rw [if_pos (by have := List.length_pos_iff.mpr this; omega)]
      exact mid (es.set b i) _ (fun c o n1 n2 z => by rw [Zj n1]; exact z) Zd (by simp) (by rw [Zj hne.symm]; exact hsp) q hq2 (by unfold Zik; rw [hq2]; rfl)
theorem Zn0 {f:Addr}{fd:FuncData} (F:Fun K "tree_of" "tree_of" ZcH f fd) (Zjk:Callee P w K mg base "settle" 1 ["elders","spine","place","keep"] (Zhu K mg)) (T:Txt K mg):FnOk P w K mg base (CXE P w) 2 f fd ["row"] (ZbS K mg):=by
 refine F.okX ZbV (λvs H Q E h=>?_) (λcdv A outer s H vs Q E hr h=>?_)
 ·obtain⟨r,ns,rfl,_⟩:=h;rfl
 obtain⟨r,ns,rfl,hS,hn,k1⟩:=h
 refine⟨_,(Zc (Zq (i:=1) ZbV.nd rfl (Or.inl rfl) (Zn op_rep (Zdt (Za (Zok ZkQ Zf) Zb)) (Zk (Zl (K:=K) rfl) rfl T.b_len PySem.boot_len (Za (pv 0) Zb))))
   (Zc (Zq (i:=2) ZbV.nd rfl (Or.inl rfl) (Zdt Zb))
   (Zc (Zbw (ZcP PassesOwn.never rfl (Z8 rfl T.b_range (Za (Zk (Zl (K:=K) rfl) rfl T.b_len PySem.boot_len (Za (pv 0) Zb)) Zb)) (Zm (i:=3) ZbV.nd rfl (Or.inl rfl)) (Zc (Zq (i:=4) ZbV.nd rfl (Or.inl rfl) (Zk (Zl (K:=K) rfl) rfl T.b_len PySem.boot_len (Za (pv 2) Zb)))
   (Zc (Zbw (ZiC PassesOwn.never (PW.pt (ZiA (Zo ZeQ (pv 4) Zf (Zr _)) (ZgD (Zo ZeQ (ZD (Zpf (K:=K) rfl) (pv 0) (ZD Zy (pv 2) (Zn ZS (pv 4) Zf) (λ_ _=>rfl)) (λ_ _=>rfl)) (ZD (Zpf (K:=K) rfl) (pv 0) (pv 3) (λ_ _=>rfl)) (Zr _))))) (Zi (ps_aug (i:=4) ZbV.nd rfl (Or.inl rfl) Zf ip_sub))))
   (Zi (Za2 (Zg Zjk (hr.mono (by decide)) rfl Zv (Za (pv 1) (Za (pv 2) (Za (pv 3) (Za (pv 4) Zb)))))))))))
   (Zi (Zu (ZbM (ZdS (K:=K) rfl) rfl T.b_tuple Zb6 (Za (pv 1) Zb))))))),?_⟩
 walk_at "rd"
 have eL:(ns.map V.int).length=ns.length:=List.length_map ..
 refine⟨by decide,λp hp=>⟨_,((Zh.refl H).upd hp).q hS,_,Zd,by omega,by rw[eL];omega,?_,λel hel=>⟨Nat.zero_le _,λsp hsp=>?_⟩⟩⟩
 ·exact Nat.le_trans (show _<=1000 by simp;omega) (by decide)
 have s0:Zh H (upd (upd (upd H p (.lst [V.int (-1)])) el (.lst (List.replicate (((ns.map V.int).length:Nat):Int).toNat [V.int (-1)]).flatten)) sp (.lst [])):=(((Zh.refl H).upd hp).ZM hel).ZM hsp
 refine⟨_,s0.q hS,by omega,by rw[eL];omega,?_⟩
 have en:(((ns.map V.int).length:Nat):Int).toNat=ns.length:=by rw[eL];omega
 have hel0:(upd (upd (upd H p (.lst [V.int (-1)])) el (.lst (List.replicate (((ns.map V.int).length:Nat):Int).toNat [V.int (-1)]).flatten)) sp (.lst [])) el=some (.lst ((List.replicate ns.length (-1:Int)).map V.int)):=by
  have:=((Zh.refl _).ZM (o:=.lst []) hsp) el _ Zd
  rw[this,en];simp
 have hsp0:(upd (upd (upd H p (.lst [V.int (-1)])) el (.lst (List.replicate (((ns.map V.int).length:Nat):Int).toNat [V.int (-1)]).flatten)) sp (.lst [])) sp=some (.lst (Zal [])):=Zd
 have nes:el≠sp:=λz=>by
  subst z
  rw[Zd]at hsp;cases hsp
 have zel:H el=none:=((Zh.refl H).upd hp).free hel
 have zsp:H sp=none:=(((Zh.refl H).upd hp).ZM hel).free hsp
 rw[en]at hel0 hsp0 s0⊢
 generalize (upd (upd (upd H p (.lst [V.int (-1)])) el (.lst (List.replicate ns.length [V.int (-1)]).flatten)) sp (.lst []))=H0 at s0 hel0 hsp0⊢
 refine ZbL (λi σ Hx=>∃(es:List Int) (S:List Nat) (v3 v4:Option V),σ=[some (.ref r),some (.ref el),some (.ref sp),v3,v4]/\Zh H Hx/\Hx el=some (.lst (es.map V.int))/\Hx sp=some (.lst (Zal S))/\es.length=ns.length/\ZiM (nth ns) i S/\(∀p e,p<i->e=es.getD p 0->ZN (nth ns) i p e)/\∀p,i<=p->p<ns.length->es.getD p 0=-1)
  ⟨List.replicate ns.length (-1),[],none,none,rfl,s0,hel0,hsp0,by simp,⟨List.Pairwise.nil,λq=>by simp⟩,λp e hp=>by omega,λp _ hp=>by simp[List.getD_eq_getElem?_getD,hp]⟩ ?_ ?_
 ·rintro i σ Hx hi ⟨es,S,v3,v4,rfl,sx,hxe,hxs,hesl,hS2,hE,hE2⟩
  walk_at "rd"
  have hin:i<ns.length:=by omega
  have hSl:S.length<=1000:=by
   rcases Znw S i 0 hS2.1 (λq hq=>⟨Nat.zero_le _,((hS2.2 q).mp hq).1⟩)with z|z
   ·omega
   ·rw[z];simp
  refine⟨_,.inl (SqL.of hxs),?_⟩
  rw[Zbh]
  refine ZoJ S.length (λj σ Hy=>∃A B,S=A++B/\B.length=j/\(∀q∈B,nth ns i<nth ns q)/\σ=[some (.ref r),some (.ref el),some (.ref sp),some (.int (0+(i:Int))),some (.int (A.length:Nat))]/\Hy=Hx) ⟨S,[],by simp,rfl,(λq hq=>absurd hq (by simp)),rfl,rfl⟩ ?_
  rintro j σ Hy hj ⟨A,B,hAB,hBl,hBg,rfl,rfl⟩
  walk_at "rd"
  have hmem:∀q,q∈A++B->q<i:=λq hq=>((hS2.2 q).mp (by rw[hAB];exact hq)).1
  have hix:(0+(i:Int))=(i:Int):=by omega
  rw[hix]
  by_cases hA0:A=[]
  case' pos =>
   rw[if_neg (by rw[hA0];simp)]
   have hA:∀q∈A,nth ns q<=nth ns i:=λq hq=>absurd hq (by rw[hA0];simp)
  case' neg =>
   obtain⟨q,Al,rfl⟩:∃q Al,A=Al++[q]:=⟨A.getLast hA0,A.dropLast,(List.dropLast_concat_getLast hA0).symm⟩
   have hal:(Al++[q]).length=Al.length+1:=by simp
   rw[if_pos (by rw[hal];omega)]
   have eiA:(((Al++[q]).length:Nat):Int)-1=(Al.length:Int):=by rw[hal];omega
   have hat:S[Al.length]?=some q:=by
    rw[hAB,List.append_assoc,List.getElem?_append_right (Nat.le_refl _)];simp
   have hqi:q<i:=hmem q (by simp)
   refine⟨_,SqL.of hxs,_,by rw[eiA];exact ZiS hat,_,_,rfl,sx.q hS,_,ZI (by omega),_,sx.q hS,_,ZI hin,_,rfl,_,rfl,ZF (λhlt=>?_) (λhge=>?_)⟩
   ·have hj2:j+1<=S.length:=by rw[hAB,List.length_append,hal];omega
    refine⟨_,WI.next,hj2,Al,q::B,by rw[hAB];simp,by simp[hBl],λx hx=>?_,by rw[eiA],rfl⟩
    rcases List.mem_cons.mp hx with z|z
    ·rw[z];exact hlt
    ·exact hBg x z
   have hA:∀x∈Al++[q],nth ns x<=nth ns i:=λx hx=>by
    by_cases z:x=q
    ·rw[z];omega
    ·have hxa:x∈Al:=by
      rcases List.mem_append.mp hx with y|y
      ·exact y
      ·exact absurd (by simpa using y) z
     have hpw:=hS2.1
     rw[hAB]at hpw
     have hxq:x<q:=(List.pairwise_append.mp (List.pairwise_append.mp hpw).1).2.2 x hxa q (by simp)
     have:=((hS2.2 x).mp (by rw[hAB];exact List.mem_append_left _ hx)).2 q hxq hqi
     omega
   generalize Al++[q]=A at hA hAB hmem hA0⊢
  all_goals
   have SS:=Znu (f:=nth ns) (i:=i) (A:=A) (B:=B) (by rw[<-hAB];exact hS2) hA hBg
   refine⟨el,sp,es,A,B,i,rfl,hxe,by rw[<-hAB];exact hxs,nes,by omega,λq hq=>by have:=hmem q hq;omega,by rw[<-hAB];exact hSl,λH' q1 q2 q3=>?_⟩
   have hbi:∀b,B.head?=some b->b≠i:=λb hb=>by
    have:=hmem b (List.mem_append_right _ (List.mem_of_head? hb));omega
   refine⟨λb o z=>q1 b o (Zx z zel) (Zx z zsp) (sx b o z),Zik es A B i,q2,A++[i],q3,by rw[ZrA];exact hesl,SS.1,λp e hp he=>?_,λp hp1 hp2=>?_⟩
   ·rw[ZoK _ _ _ _ _ (by omega) hbi]at he
    by_cases z:p=i
    ·subst z
     rw[if_pos rfl,hE2 p (Nat.le_refl _) (by omega)]at he
     rw[he];exact SS.2.1
    ·rw[if_neg z]at he
     rw[he]
     exact SS.2.2 p _ (by omega) (hE p _ (by omega) rfl)
   ·rw[ZoK _ _ _ _ _ (by omega) hbi,if_neg (by omega),if_neg (λz=>?_)]
    ·exact hE2 p (by omega) hp2
    ·have:=hmem p (List.mem_append_right _ (List.mem_of_head? z));omega
 ·rintro σ Hx ⟨es,S,v3,v4,rfl,sx,hxe,hxs,hesl,hS2,hE,hE2⟩
  walk_at "rd"
  exact⟨_,.inl ⟨SqL.of hxe,λt ht=>k1 t es _ ⟨hesl,λp hp=>hE p _ hp rfl⟩ (sx.ZM ht) Zd⟩⟩
theorem ZpN {f : Addr} {fd : FuncData} (F : Fun K "way_up" "way_up" ZdY f fd)  (T : Txt K mg) : FnOk P w K mg base (CXE P w) 1 f fd ["tree", "place"] (Zbp K mg) := by
  refine F.okX ZfT (fun vs H Q E h => ?_) (fun cdv A outer s H vs Q E hr h => ?_)
  · obtain ⟨t, T, p, rfl, _⟩ := h; rfl
  obtain ⟨t, T', p, rfl, ht, hn, hp, k1⟩ := h
  have hQ : ∀ Hx, Zh H Hx → (SqL K Hx t (T'.map V.int) ∨ SqT K Hx t (T'.map V.int)) := fun Hx sx => ht.elim (fun z => .inl (sx.seq z)) fun z => .inr (sx.seqT z)
  refine ⟨_, (Zc (Zq (i := 2) ZfT.nd rfl (Or.inl rfl) (Zdt Zb))
      (Zc (Zq (i := 3) ZfT.nd rfl (Or.inl rfl) (ZD (Zpf (K := K) rfl) (pv 0) (pv 1) (fun _ _ => rfl)))
      (Zc (Zbw (ZiC PassesOwn.never (PW.pt (ZiA (Zrd Zoo ZgE Zf (pv 3) (Zk (Zl (K := K) rfl) rfl T.b_len PySem.boot_len (Za (pv 0) Zb))) (ZgD (Zo ZgE (Zk (Zl (K := K) rfl) rfl T.b_len PySem.boot_len (Za (pv 2) Zb)) (Zk (Zl (K := K) rfl) rfl T.b_len PySem.boot_len (Za (pv 0) Zb)) (Zr _))))) (Zc (Za2 (ZeR PySem.F.plainAttrs_list PySem.F.slot_list_append PySem.F.type_list_append ZaO (pv 2) (Za (pv 3) Zb)))
      (Zi (Zq (i := 3) ZfT.nd rfl (Or.inl rfl) (ZD (Zpf (K := K) rfl) (pv 0) (pv 3) (fun _ _ => rfl)))))))
      (Zi (Zu (pv 2)))))), ?_⟩
  walk_at "rd"
  refine ⟨Nat.zero_le _, fun l hl => ⟨_, hQ _ ((Zh.refl H).upd hl), _, ZI hp, ?_⟩⟩
  refine ZoJ T'.length (fun j σ Hx => Zh H Hx ∧ Hx l = some (.lst (Zal (Z5 T' j (nth T' p)))) ∧ (Z5 T' j (nth T' p)).length = j ∧ σ = [some (.ref t), some (.int p), some (.ref l), some (.int (ZaV T' j (nth T' p)))]) ⟨(Zh.refl H).upd hl, Zd, rfl, rfl⟩ ?_
  rintro j σ Hx hj ⟨sx, hxl, hjl, rfl⟩
  walk_at "rd"
  have hlen : (Zal (Z5 T' j (nth T' p))).length = j := by rw [Zbh]; exact hjl
  have eL : (T'.map V.int).length = T'.length := List.length_map ..
  have done : (j = T'.length ∨ ¬ (0 ≤ ZaV T' j (nth T' p) ∧ ZaV T' j (nth T' p) < T'.length)) → Q (.ref l) Hx := fun z => by
    refine k1 l Hx hl sx ?_
    have : Z5 T' T'.length (nth T' p) = Z5 T' j (nth T' p) := by
      rcases z with z | z
      · rw [← z]
      · exact Zks T' j _ _ hj hjl z
    rw [hxl]; unfold Zak; rw [this]; simp [Zal]
  refine ZF (fun h0 => ⟨_, hQ _ sx, ZF (fun h1 => ⟨_, .inl (SqL.of hxl), _, hQ _ sx, ZF (fun h2 => ?_) fun h2 => done (.inl (by rw [hlen, eL] at h2; omega))⟩) fun h1 => done (.inr (by rw [eL] at h1; omega))⟩) fun h0 => done (.inr (by omega))
  rw [eL] at h1; rw [hlen, eL] at h2
  obtain ⟨a1, a2⟩ := Zkr T' j (nth T' p) h0 h1 hjl
  have ei : ZaV T' j (nth T' p) = (((ZaV T' j (nth T' p)).toNat : Nat) : Int) := by omega
  refine ⟨_, WI.next, ZaC hxl, _, hxl, by rw [hlen]; exact Nat.lt_of_le_of_lt (show _ ≤ 1000 by omega) (by decide), _, hQ _ (sx.upd hl), _, (congrArg (atI _) ei).trans (ZI (by omega)), by omega, sx.upd hl, ?_, ?_, ?_⟩
  · rw [Zd, a1, ZfQ]
    have : Zal [(ZaV T' j (nth T' p)).toNat] = [V.int (ZaV T' j (nth T' p))] := by rw [ei]; simp [Zal]
    rw [this]
  · rw [a1]; simp [hjl]
  · rw [a2]
theorem Zn1 {f:Addr}{fd:FuncData} (F:Fun K "is_tree" "is_tree" ZcI f fd) (Z3:Callee P w K mg base "tree_of" 2 ["row"] (ZbS K mg)) (ZT:Callee P w K mg base "way_up" 1 ["tree","place"] (Zbp K mg)) (T:Txt K mg):FnOk P w K mg base (CXE P w) 3 f fd ["tree"] (Zgj K mg):=by
 refine F.okX Zi9 (λvs H Q E h=>?_) (λcdv A outer s H vs Q E hr h=>?_)
 ·obtain⟨t,T,rfl,_⟩:=h;rfl
 obtain⟨t,T',rfl,ht,hn,k1,k2⟩:=h
 refine⟨_,(Zc (ZQ (PW.pt (Zf5 (Ze3 (Ze2 (Zk (Zhj (K:=K) rfl) rfl T.b_isinstance Zdu (Za (pv 0) (Za (ZkP (v:=.ty "tuple") rfl T.b_tuple Zb6 rfl) Zb))))) (Zd8 (Zo ZeQ (Zk (Zl (K:=K) rfl) rfl T.b_len PySem.boot_len (Za (pv 0) Zb)) (Ztm (v:=.int 40) rfl T.m_MOST_PLACES ⟨_,rfl⟩) (Zr _))))) (Zi (Zu Zcv)) ZC)
   (Zc (Za0 (i:=1) ["place","tree"] [none,some 0] Zi9.nd rfl (Or.inl rfl) rfl rfl rfl (Z8 rfl T.b_range (Za (Zk (Zl (K:=K) rfl) rfl T.b_len PySem.boot_len (Za (pv 0) Zb)) Zb)) (λ_ _ _ _ _=>(Zm (i:=0) (show(["place","tree"]:List Str).Nodup from by decide +kernel) rfl (Or.inl rfl))) (λ_ _ _ _ _=>ZK) (λ_ _ _ _ _=>(Zk (Zl (K:=K) rfl) rfl T.b_len PySem.boot_len (Za (Zg ZT (hr.mono (by decide)) rfl Zv (Za (pv 1) (Za (pv 0) Zb))) Zb))) Zs)
   (Zi (Zu (ZaN (Znq (K:=K) rfl hr) (Zg Z3 (hr.mono (by decide)) rfl Zv (Za (pv 1) Zb)) (pv 0) (Zr _)))))),?_⟩
 walk_at "rd"
 have eL:(T'.map V.int).length=T'.length:=List.length_map ..
 refine⟨true,.inl ⟨_,.tup ht,by with_unfolding_all rfl⟩,ZF (λz=>nomatch z) λ_=>⟨_,.inr (SqT.of ht),ZF (λz=>k2 (λg=>?_) _ (Zh.refl H)) λz=>⟨_,.inr (SqT.of ht),by omega,by rw[eL];omega,?_⟩⟩⟩
 ·rw[eL]at z;have:=g.1;omega
 rw[eL]at z⊢
 have en:((T'.length:Nat):Int).toNat=T'.length:=by omega
 rw[en]
 refine comp_map (n:=T'.length) (λq=>V.int (nth (Zgf T') q)) (Nat.lt_of_le_of_lt hn (by decide)) (λj Hx s hj=>hj) (λHx s=>Nat.le_refl _) ?_ ?_
 ·rintro j x Hx Hy hj s ⟨rfl,rfl⟩
  walk_at "rd"
  refine⟨t,T',j,by simp,.inr (SqT.of (s _ _ ht)),hn,hj,λl H9 hl s9 h9=>⟨l,rfl,_,.inl (SqL.of h9),CW.next hj ?_ (s.trans s9)⟩⟩
  rw[Zl7 hj,List.length_map];simp[Zak]
 ·intro l' Hx s hl'
  have ed:(List.range T'.length).map (λq=>V.int (nth (Zgf T') q))=(Zgf T').map V.int:=by
   rw[<-ZgM T'];exact range_getD _ _ V.int _ rfl
  rw[ed]
  have u:=s.ZM (o:=.lst ((Zgf T').map V.int)) hl'
  refine⟨l',Zgf T',rfl,.inl (SqL.of Zd),by rw[ZgM];exact hn,λt2 es H2 hT2 s2 ht2=>⟨t2,rfl,_,Zeg (n:=2) Zdh _ _ es T' (Zag (SqT.of ht2)) (Zag (SqT.of ((u.trans s2) _ _ ht))),?_⟩⟩
  by_cases g:es=T'
  ·rw[decide_eq_true g];exact k1 ⟨by omega,_,g▸hT2⟩ _ (u.trans s2)
  ·rw[decide_eq_false g];exact k2 (λgg=>g (hT2.unique ((Zpk T').mp gg.2))) _ (u.trans s2)
theorem Zly {f:Addr}{fd:FuncData} (F:Fun K "need_tree" "need_tree" Zbj f fd) (ZhF:Callee P w K mg base "is_tree" 3 ["tree"] (Zgj K mg)) (T:Txt K mg):FnOk P w K mg base (CXE P w) 4 f fd ["tree"] (Zeo K mg):=by
 refine F.okX Zlu (λvs H Q E h=>?_) (λcdv A outer s H vs Q E hr h=>?_)
 ·obtain⟨t,T,rfl,_⟩:=h;rfl
 obtain⟨t,T',rfl,ht,hn,k1,k2⟩:=h
 refine⟨_,(Zi (ZQ (Ze3 (Ze2 (Zg ZhF (hr.mono (by decide)) rfl Zv (Za (pv 0) Zb)))) (Zi (ZiH rfl rfl T.c_NoTree T.x_NoTree (Za (Zhi (Zee (by decide) (ZiI (Zk (Zl (K:=K) rfl) rfl T.b_len PySem.boot_len (Za (pv 0) Zb)) (Zee (by decide) Znn)))) Zb) Zk5)) ZC)),?_⟩
 walk_at "rd"
 exact⟨t,T',rfl,ht,hn,λg H1 s1=>⟨true,rfl,ZF (λz=>nomatch z) λ_=>k1 g _ s1⟩,λg H1 s1=>⟨false,rfl,ZF (λ_=>⟨_,.inr (SqT.of (s1 _ _ ht)),by omega,by rw[List.length_map];omega,λy=>⟨by decide,k2 g _ s1⟩⟩) λz=>absurd rfl z⟩⟩
theorem Zn2 {a:Addr}{L:List Int}{p:Nat}{H1:Hp}{Q:VK} (ha:H1 a=some (.lst (L.map V.int))) (hn:L.length<=1000)
  (hk:∀l H' (xs:List V),Zh H1 H'->xs.length=(L.filter λo=>decide ((p:Int)<o)).length->H' l=none->Q (.ref l) (upd H' l (.lst xs))) :
  Zko (Itl K a) (Ze4 0) (ZlW (tOp (rI0 λi j=>V.bl (decide (j<i))) (ZlR 0) (ZlR 1))) (ZlR 0) [none,some (V.int (p:Int))] Q H1:=by
 refine Zhn (n:=L.length) (λi=>decide ((p:Int)<L.getD i 0)) (λi=>V.int (L.getD i 0)) (Nat.lt_of_le_of_lt hn (by decide)) (λi Hx s hi=>⟨_,_,SqL.of (s _ _ ha),List.getElem?_eq_getElem (by simpa using hi)⟩) (λHx s=>⟨_,SqL.of (s _ _ ha),by simp⟩) ?_ ?_
 ·rintro i x Hx Hy hi s ⟨rfl,hx⟩
  have ex:=hx _ (SqL.of (s _ _ ha))
  rw[List.getElem?_map,List.getElem?_eq_getElem hi]at ex
  cases ex
  have eg:L.getD i 0=L[i]:=by simp[List.getD_eq_getElem?_getD,hi]
  walk_at "rd"
  exact ZF (λz=>CF.take hi (by rw[eg];exact decide_eq_true z) (by rw[eg]) s) (λz=>CF.skip hi (by rw[eg];exact decide_eq_false z) s)
 ·intro l H' s hl
  refine hk l H' _ s ?_ hl
  rw[List.length_map]
  have:L=(List.range L.length).map λi=>L.getD i 0:=by
   refine List.ext_getElem (by simp) λj h1 h2=>?_
   simp[List.getD_eq_getElem?_getD,h1]
  conv=>rhs;rw[this,List.filter_map,List.length_map]
  rfl
theorem Zjb {f:Addr}{fd:FuncData} (F:Fun K "flat_number" "flat_number" ZaF f fd) (ZT:Callee P w K mg base "way_up" 1 ["tree","place"] (Zbp K mg)) (T:Txt K mg):FnOk P w K mg base (CXE P w) 2 f fd ["tree","place"] (ZcT K mg):=by
 refine F.okX Zja (λvs H Q E h=>?_) (λcdv A outer s H vs Q E hr h=>?_)
 ·obtain⟨t,T,p,rfl,_⟩:=h;rfl
 obtain⟨t,T',p,rfl,ht,hn,hp,k1⟩:=h
 refine⟨_,(Zi (Zu (Zk (Zl (K:=K) rfl) rfl T.b_len PySem.boot_len (Za (Zah ["elder","place"] [none,some 1] rfl rfl rfl (ZaM (Zg ZT (hr.mono (by decide)) rfl Zv (Za (pv 0) (Za (pv 1) Zb)))) (λ_ _ _ _ _=>(Zm (i:=0) (show(["elder","place"]:List Str).Nodup from by decide +kernel) rfl (Or.inl rfl))) (λ_ _ _ _ _=>ZgH (Zo ZeQ (pv 0) (pv 1) (Zr _))) (λ_ _ _ _ _=>(pv 0)) Zs) Zb)))),?_⟩
 walk_at "rd"
 refine⟨t,T',p,rfl,.inr (SqT.of ht),hn,hp,λw H1 hw s1 h1=>⟨w,rfl,⟨_,SqL.of h1⟩,Zn2 h1 (by simp only[Zak,List.length_map];exact Nat.le_trans (ZdT _ _ _) hn) λl H2 xs s2 hx hl=>⟨l,rfl,xs,.inl (SqL.of Zd),?_⟩⟩⟩
 have e:(xs.length:Nat)=Zav T' p:=by
  rw[hx,Z0,List.filter_map,List.length_map]
  unfold Zav
  refine ZbO λo ho=>?_
  rw[Bool.eq_iff_iff]
  simp
 rw[e]
 exact k1 _ ((s1.trans s2).ZM hl)
theorem Zmy {f:Addr}{fd:FuncData} (F:Fun K "flattest" "flattest" ZbP f fd) (Zfk:Callee P w K mg base "need_tree" 4 ["tree"] (Zeo K mg)) (ZdC:Callee P w K mg base "flat_number" 2 ["tree","place"] (ZcT K mg)) (T:Txt K mg):FnOk P w K mg base (CXE P w) 5 f fd ["tree"] (Zbq K mg):=by
 refine F.okX Zmw (λvs H Q E h=>?_) (λcdv A outer s H vs Q E hr h=>?_)
 ·obtain⟨t,T,rfl,_⟩:=h;rfl
 obtain⟨t,T',rfl,ht,hn,k1,k2⟩:=h
 refine⟨_,(Zc (Za2 (Zg Zfk (hr.mono (by decide)) rfl Zaw (Za (pv 0) Zb)))
   (Zi (Zu (ZbM (ZdS (K:=K) rfl) rfl T.b_tuple Zb6 (Za (Zah ["place","tree"] [none,some 0] rfl rfl rfl (Z8 rfl T.b_range (Za (Zk (Zl (K:=K) rfl) rfl T.b_len PySem.boot_len (Za (pv 0) Zb)) Zb)) (λ_ _ _ _ _=>(Zm (i:=0) (show(["place","tree"]:List Str).Nodup from by decide +kernel) rfl (Or.inl rfl))) (λ_ _ _ _ _=>ZK) (λ_ _ _ _ _=>(Zg ZdC (hr.mono (by decide)) rfl Zv (Za (pv 1) (Za (pv 0) Zb)))) Zs) Zb))))),?_⟩
 walk_at "rd"
 have eL:(T'.map V.int).length=T'.length:=List.length_map ..
 refine⟨t,T',rfl,ht,hn,λg H1 s1=>⟨_,.inr (SqT.of (s1 _ _ ht)),by omega,by rw[eL];omega,?_⟩,λg H1 s1=>k2 g _ s1⟩
 have en:(((T'.map V.int).length:Nat):Int).toNat=T'.length:=by rw[eL];omega
 rw[en]
 refine comp_map (n:=T'.length) (λq=>V.int (Zav T' q:Nat)) (Nat.lt_of_le_of_lt hn (by decide)) (λj Hx s hj=>hj) (λHx s=>Nat.le_refl _) ?_ ?_
 ·rintro j x Hx Hy hj s ⟨rfl,rfl⟩
  walk_at "rd"
  exact⟨t,T',j,by simp,(s1.trans s) _ _ ht,hn,hj,λH9 s9=>CW.next hj rfl (s.trans s9)⟩
 ·intro l' Hx s hl'
  have ed:(List.range T'.length).map (λq=>V.int (Zav T' q:Nat))=(Ze T').map V.int:=by simp[Ze]
  rw[ed]
  exact⟨l',rfl,_,.inl ⟨SqL.of Zd,λt' ht'=>k1 g t' _ (((s1.trans s).ZM hl').ZM ht') Zd⟩⟩
theorem Zlz {f : Addr} {fd : FuncData} (F : Fun K "_law_over" "_law_over" Zbn f fd)  (T : Txt K mg) : FnOk P w K mg base (CXE P w) 1 f fd ["tree", "place"] (Zcx K mg) := by
  refine F.okX Zcy (fun vs H Q E h => ?_) (fun cdv A outer s H vs Q E hr h => ?_)
  · obtain ⟨t, T, p, rfl, _⟩ := h; rfl
  obtain ⟨t, T', p, rfl, ht, hn, hp, hen, k1⟩ := h
  refine ⟨_, (Zc (Zq (i := 2) Zcy.nd rfl (Or.inl rfl) (Zdt Zb))
      (Zc (Zq (i := 3) Zcy.nd rfl (Or.inl rfl) (ZD ZaW (pv 0) (pv 1) (fun _ _ => rfl)))
      (Zc (Zbw (ZiC PassesOwn.never (Zo Zop (pv 3) Zf (Zr _)) (Zc (Za2 (ZeR PySem.F.plainAttrs_list PySem.F.slot_list_append PySem.F.type_list_append ZaO (pv 2) (Za (pv 3) Zb)))
      (Zi (Zq (i := 3) Zcy.nd rfl (Or.inl rfl) (ZD ZaW (pv 0) (pv 3) (fun _ _ => rfl)))))))
      (Zi (Zu (pv 2)))))), ?_⟩
  walk_at "rd"
  have eL : (T'.map V.int).length = T'.length := List.length_map ..
  refine ⟨Nat.zero_le _, fun l hl => ⟨_, SqT.of (((Zh.refl H).upd hl) _ _ ht), _, ZI hp, ?_⟩⟩
  have nlt : t ≠ l := Zx ht hl
  refine Ztv (fun m σ Hx => ∃ (h : Int) (L : List Nat), m + L.length = T'.length ∧ Zcd T' m h ∧ L ++ Z5 T' m h = way T' p ∧ Zh H Hx ∧ Hx l = some (.lst (Zal L)) ∧ σ = [some (.ref t), some (.int p), some (.ref l), some (.int h)]) T'.length ⟨nth T' p, [], by simp, hen, rfl, (Zh.refl H).upd hl, Zd, rfl⟩ ?_
  rintro m σ Hx ⟨h, L, hm, he, hw, sx, hxl, rfl⟩
  walk_at "rd"
  refine ZF (fun z => ?_) fun z => ?_
  · cases m with
    | zero => exact absurd (show h = -1 from he) (by omega)
    | succ m =>
      rcases he with he | ⟨he1, he2, he3⟩
      · omega
      · obtain ⟨j, rfl⟩ := Int.eq_ofNat_of_zero_le he1
        have ej : ((j : Int)).toNat = j := by omega
        rw [ej] at he3
        simp only [Z5, if_pos (And.intro he1 he2), ej] at hw
        refine ⟨_, fun σ' H' z => z, ZaC hxl, _, hxl, Nat.lt_of_le_of_lt (show _ ≤ 1000 by rw [Zbh]; omega) (by decide), _, SqT.of (by rw [Zj nlt]; exact sx _ _ ht), _, ZI (by omega), m, by omega, nth T' j, L ++ [j], by simp; omega, he3, by rw [← hw]; simp, sx.upd hl, ?_, rfl⟩
        rw [Zd, ZfQ]; rfl
  · refine k1 l Hx hl sx ?_
    have : Z5 T' m h = [] := by
      cases m with
      | zero => rfl
      | succ m => simp only [Z5]; rw [if_neg (by omega)]
    rw [this, List.append_nil] at hw
    rw [hxl, Z0, hw]; simp [Zal]
theorem ZlA {f:Addr}{fd:FuncData} (F:Fun K "_law_flat" "_law_flat" Zbo f fd) (Zbt:Callee P w K mg base "_law_over" 1 ["tree","place"] (Zcx K mg)) (T:Txt K mg):FnOk P w K mg base (CXE P w) 2 f fd ["tree"] (Zep K mg):=by
 refine F.okX Zlv (λvs H Q E h=>?_) (λcdv A outer s H vs Q E hr h=>?_)
 ·obtain⟨t,T,rfl,_⟩:=h;rfl
 obtain⟨t,T',rfl,ht,hn,hen,k1⟩:=h
 refine⟨_,(Zi (Zu (Zah ["place","tree"] [none,some 0] rfl rfl rfl (Z8 rfl T.b_range (Za (Zk (Zl (K:=K) rfl) rfl T.b_len PySem.boot_len (Za (pv 0) Zb)) Zb)) (λ_ _ _ _ _=>(Zm (i:=0) (show(["place","tree"]:List Str).Nodup from by decide +kernel) rfl (Or.inr rfl))) (λ_ _ _ _ _=>ZK) (λ_ _ _ _ _=>(Zk (Zl (K:=K) rfl) rfl T.b_len PySem.boot_len (Za (Zah ["other","place"] [none,some 0] rfl rfl rfl (Zma (K:=K) rfl (Zg Zbt (hr.mono (by decide)) rfl Zv (Za (pv 1) (Za (pv 0) Zb)))) (λ_ _ _ _ _=>(Zm (i:=0) (show(["other","place"]:List Str).Nodup from by decide +kernel) rfl (Or.inl rfl))) (λ_ _ _ _ _=>ZgH (Zo ZeQ (pv 0) (pv 1) (Zr _))) (λ_ _ _ _ _=>(pv 0)) Zs) Zb))) Zs))),?_⟩
 walk_at "rd"
 have eL:(T'.map V.int).length=T'.length:=List.length_map ..
 have en:(((T'.map V.int).length:Nat):Int).toNat=T'.length:=by rw[eL];omega
 refine⟨_,.inr (SqT.of ht),by omega,by rw[eL];omega,?_⟩
 rw[en]
 refine comp_map (n:=T'.length) (λq=>V.int (Zav T' q:Nat)) (Nat.lt_of_le_of_lt hn (by decide)) (λj Hx s hj=>hj) (λHx s=>Nat.le_refl _) ?_ ?_
 ·rintro j x Hx Hy hj s ⟨rfl,rfl⟩
  have ej:((0:Int)+(j:Int))=(j:Int):=by omega
  rw[ej]
  walk_at "rd"
  refine⟨t,T',j,rfl,s _ _ ht,hn,hj,hen j hj,λw H2 hw s2 h2=>⟨w,rfl,⟨_,SqL.of h2⟩,Zpv (λo=>decide ((j:Int)<o)) h2 (by simp only[Zak,List.length_map];exact Nat.le_trans (ZdT _ _ _) (by omega)) (λx Hz R hR=>?_) λl H3 s3 hl=>?_⟩⟩
  ·walk_at "rd"
   exact hR
  ·refine⟨l,rfl,_,.inl (SqL.of Zd),CW.next hj ?_ ((s.trans (s2.trans s3)).ZM hl)⟩
   have:((Zak T' j).filter λo=>decide ((j:Int)<o)).length=Zav T' j:=by
    rw[Z0,List.filter_map,List.length_map]
    unfold Zav
    refine ZbO λo ho=>?_
    rw[Bool.eq_iff_iff]
    simp
   rw[List.length_map,this]
 ·intro l' Hx s hl'
  have ed:(List.range T'.length).map (λq=>V.int (Zav T' q:Nat))=(Ze T').map V.int:=by simp[Ze]
  rw[ed]
  exact k1 l' _ (s.free hl') (s.ZM hl') Zd
theorem ZhA {f:Addr}{fd:FuncData} (F:Fun K "_law_wide_row" "_law_wide_row" Zac f fd) (Zp:Callee P w K mg base "_law_take" 1 ["pot","many"] (Zaz K mg)) (Zev:Callee P w K mg base "_law_row" 2 ["pot","most"] (Zfe K mg)) (T:Txt K mg):FnOk P w K mg base (CXE P w) 3 f fd ["pot"] (ZbT K mg):=by
 refine F.okX Z2 (λvs H Q E h=>?_) (λcdv A outer s H vs Q E hr h=>?_)
 ·obtain⟨p,rfl,_⟩:=h;rfl
 obtain⟨p,rfl,hP,k1⟩:=h
 refine⟨_,(Zc (Zq (i:=1) Z2.nd rfl (Or.inl rfl) (Zg Zev (hr.mono (by decide)) rfl Zv (Za (pv 0) (Za Zf Zb))))
   (Zc (Zq (i:=2) Z2.nd rfl (Or.inr rfl) (Zg Zp (hr.mono (by decide)) rfl Zv (Za (pv 0) (Za Zf Zb))))
   (Zc (ZQ (Zo ZeQ (pv 2) Zf (Zr _)) (Zi (Zq (i:=1) Z2.nd rfl (Or.inl rfl) (Ze7 Ziw (Zn (Zlk (K:=K) rfl) (Zn (Zlk (K:=K) rfl) (pv 1) (Zg Zev (hr.mono (by decide)) rfl Zv (Za (pv 0) (Za Zf Zb)))) (pv 1)) ZkV (Zec Zf)))) ZC)
   (Zc (ZQ (Zo Zbg (pv 2) Zf (Zr _)) (Zc (Zq (i:=2) Z2.nd rfl (Or.inr rfl) (Zn ZS (Zn Zax Zf (Zg Zp (hr.mono (by decide)) rfl Zv (Za (pv 0) (Za Zf Zb)))) Zf))
   (Zi (Za0 (i:=1) ["k","way"] [none,some 2] Z2.nd rfl (Or.inl rfl) rfl rfl rfl (Z8 rfl T.b_range (Za Zf Zb)) (λ_ _ _ _ _=>(Zm (i:=0) (show(["k","way"]:List Str).Nodup from by decide +kernel) rfl (Or.inl rfl))) (λ_ _ _ _ _=>ZK) (λ_ _ _ _ _=>(Zn Zax (pv 1) (pv 0))) Zs))) ZC)
   (Zi (Zu (pv 1))))))),?_⟩
 walk_at "rd"
 refine⟨p,_,rfl,by decide,by decide,hP,λr ns H1 zr hl hr1 P1 e1=>⟨p,_,rfl,by decide,by decide,P1,λd H2 d0 d1 P2 e2=>⟨d,rfl,ZF (λhd=>?_) (λhd=>?_)⟩⟩⟩
 ·have nrp:r≠p:=λe=>by rw[e]at zr;exact absurd zr hP.some
  have hr2:=e2 _ _ nrp hr1
  refine⟨p,_,rfl,by decide,by decide,P2,λr2 ns2 H3 zr2 hl2 hr3 P3 e3=>⟨r,rfl,r2,rfl,_,SqL.of (e3 _ _ nrp hr2),_,SqL.of hr3,Nat.le_trans (show _<=1000 by simp only[List.length_map];omega) (by decide),λa ha=>?_⟩⟩
  have g1:=(Zh.refl H3).upd (o:=.lst (ns.map V.int++ns2.map V.int)) ha
  refine⟨r,rfl,_,SqL.of Zd,_,SqL.of (g1 _ _ (e3 _ _ nrp hr2)),Nat.le_trans (show _<=1000 by simp only[List.length_map,List.length_append];omega) (by decide),λb hb=>⟨_,SqL.of Zd,λt ht=>⟨rfl,ZF (λz=>by cases z;omega) λ_=>?_⟩⟩⟩
  have g2:=g1.ZM (o:=.lst (ns.map V.int++ns2.map V.int++ns.map V.int)) hb
  have e40:Ze8 (ns.map V.int++ns2.map V.int++ns.map V.int) none (some 40)=((ns++ns2++ns).take 40).map V.int:=by
   rw[show(40:Int)=((40:Nat):Int) by rfl,cut_to,<-List.map_append,<-List.map_append,<-List.map_take]
  rw[e40]
  have g3:=g2.ZM (o:=.lst (((ns++ns2++ns).take 40).map V.int)) ht
  exact k1 t _ _ (((e1.trans e2).trans e3).free (P3.ne (g2.free ht)) (g2.free ht)) (by rw[List.length_take];omega) Zd (P3.same g3) (((e1.trans e2).trans e3).same g3)
 ·have nrp:r≠p:=λe=>by rw[e]at zr;exact absurd zr hP.some
  have hr2:=e2 _ _ nrp hr1
  refine⟨rfl,ZF (λz=>?_) λ_=>k1 r ns H2 zr (by omega) hr2 P2 (e1.trans e2)⟩
  refine⟨p,_,rfl,by decide,by decide,P2,λx H3 x0 x1 P3 e3=>⟨x,rfl,Zfa (by decide) (by decide),by decide,by decide,?_⟩⟩
  refine comp_map (n:=40) (λi=>V.int ((2*x-1)*(i:Int))) (by decide) (λi Hx s hi=>by show _ < _;exact hi) (λHx s=>Nat.le_refl _) ?_ ?_
  ·rintro i v Hx Hy hi s ⟨rfl,rfl⟩
   walk_at "rd"
   refine⟨Zfa (by omega) (by omega),CW.next hi ?_ s⟩
   rw[show(0:Int)+(i:Int)=(i:Int) by omega]
  intro t Hx sx ht
  have e123:=((e1.trans e2).trans e3).same (sx.ZM (o:=.lst ((List.range 40).map λ(i:Nat)=>V.int ((2*x-1)*(i:Int)))) ht)
  refine k1 t ((List.range 40).map λ(i:Nat)=>(2*x-1)*(i:Int)) _ (((e1.trans e2).trans e3).free (P3.ne (sx.free ht)) (sx.free ht)) (by simp) (by rw[Zd,List.map_map];rfl) (P3.same (sx.ZM ht)) e123
theorem ZaE {ns:List Int}{i:Nat} (h:i<ns.length):(ns.map V.int)[i]?=some (V.int (nth ns i)):=by
 unfold nth
 rw[List.getElem?_map,List.getElem?_eq_getElem h,List.getD_eq_getElem?_getD,List.getElem?_eq_getElem h];rfl
theorem Zcz (F ns:List Int):(hgt F ns).length=F.length:=by unfold hgt;simp
theorem ZE {F ns:List Int}{i:Nat} (h:i<F.length):nth (hgt F ns) i=nth ns i-nth F i:=by
 show List.getD ((List.range F.length).map λi=>nth ns i-nth F i) i 0=_
 rw[List.getD_eq_getElem?_getD,List.getElem?_map,List.getElem?_range h];rfl
theorem Zjc {K:PySem.W.Frag}{H:Hp}{p q:Addr}{a b:Str} (hp:H p=some (.tup [.str a])) (hq:H q=some (.tup [.str b])):EqD K H 3 (.ref p) (.ref q) (a==b):=by
 have:=EqD.tup (K:=K) (H:=H) (n:=2) (λj=>a==b) (SqT.of hp) (SqT.of hq) λj x y z1 z2=>by
  match j,z1,z2 with
  |0,z1,z2=>cases z1;cases z2;exact EqD.flat rfl rfl
 simpa[List.range_succ]using this
theorem Zj7 {f : Addr} {fd : FuncData} (F : Fun K "heights_of" "heights_of" ZaS f fd)  (T : Txt K mg) : FnOk P w K mg base (CXE P w) 1 f fd ["flat", "row"] (ZaH K mg) := by
  refine F.okX Zj6 (fun vs H Q E h => ?_) (fun cdv A outer s H vs Q E hr h => ?_)
  · obtain ⟨f, r, F, ns, rfl, _⟩ := h; rfl
  obtain ⟨f, r, Fl, ns, rfl, hf, hr1, hF, hn, k1, k2⟩ := h
  refine ⟨_, (Zc (ZQ (Zo ZiD (Zk (Zl (K := K) rfl) rfl T.b_len PySem.boot_len (Za (pv 1) Zb)) (Zk (Zl (K := K) rfl) rfl T.b_len PySem.boot_len (Za (pv 0) Zb)) (Zr _)) (Zi (ZiH rfl rfl T.c_Unlike T.x_Unlike (Za (Zhi (Zee (by decide) (ZiI (Zk (Zl (K := K) rfl) rfl T.b_len PySem.boot_len (Za (pv 1) Zb)) (Zee (by decide) (ZiI (Zk (Zl (K := K) rfl) rfl T.b_len PySem.boot_len (Za (pv 0) Zb)) (Zee (by decide) Znn)))))) Zb) Zk5)) ZC)
      (Zi (Zu (Zah ["number", "least"] [none, none] rfl rfl rfl (Zli (K := K) rfl rfl T.b_zip (Za (pv 1) (Za (pv 0) Zb))) (fun _ _ _ _ _ => (ZfO (K := K) (n := 2) rfl rfl (ZJ (Zm (i := 0) (show (["number", "least"] : List Str).Nodup from by decide +kernel) rfl (Or.inl rfl)) (ZJ (Zm (i := 1) (show (["number", "least"] : List Str).Nodup from by decide +kernel) rfl (Or.inl rfl)) Zbv)))) (fun _ _ _ _ _ => ZK) (fun _ _ _ _ _ => (Zn ZS (pv 0) (pv 1))) (ZdR (Z9 Zs (Z9 Zs ZdQ))))))), ?_⟩
  walk_at "rd"
  have ef : (Fl.map V.int).length = Fl.length := List.length_map ..
  have en : (ns.map V.int).length = ns.length := List.length_map ..
  refine ⟨_, hr1, _, .inr (SqT.of hf), ZF (fun c => ?_) (fun c => ?_)⟩
  · exact ⟨_, hr1, by omega, Int.lt_trans (show _ < (2000 : Int) by omega) (by decide), _, .inr (SqT.of hf), by omega, Int.lt_trans (show _ < (2000 : Int) by omega) (by decide), fun y => ⟨by decide, k2 (fun z => c (by omega)) H (Zh.refl H)⟩⟩
  have e : ns.length = Fl.length := by
    have := Decidable.not_not.mp c
    omega
  obtain ⟨tg, hB⟩ := SqB.of hr1
  obtain ⟨tu, hB2⟩ := SqB.of (K := K) (H := H) (a := f) (xs := Fl.map V.int) (.inr (SqT.of hf))
  refine ⟨tg, tu, _, hB, _, hB2, ?_⟩
  refine comp_map (n := Fl.length) (fun i => V.int (nth ns i - nth Fl i)) (Nat.lt_of_le_of_lt hF (by decide)) (fun i Hx s hi => ⟨_, _, _, _, s.ZeZ hB, s.ZeZ hB2, ZaE (by omega), ZaE hi⟩) (fun Hx s => ⟨_, _, s.ZeZ hB, s.ZeZ hB2, .inl (by omega)⟩) ?_ ?_
  · rintro i x Hx Hy hi s ⟨q, x, y, hq, rfl, rfl, hx, hy⟩
    have ex := hx _ (s.ZeZ hB)
    have ey := hy _ (s.ZeZ hB2)
    rw [ZaE (by omega)] at ex
    rw [ZaE hi] at ey
    cases ex; cases ey
    walk_at "rd"
    exact ⟨_, SqT.of Zd, rfl, _, _, rfl, _, _, rfl, rfl, _, rfl, _, rfl, CW.next hi rfl (s.ZM hq)⟩
  · intro l Hx s hl
    have := k1 e l (upd Hx l (.lst ((hgt Fl ns).map V.int))) (s.free hl) (s.ZM hl) Zd
    unfold hgt at this
    rw [List.map_map] at this
    exact this
theorem Zn3 {f:Addr}{fd:FuncData} (F:Fun K "is_over" "is_over" ZcJ f fd) (ZT:Callee P w K mg base "way_up" 1 ["tree","place"] (Zbp K mg)) (T:Txt K mg):FnOk P w K mg base (CXE P w) 2 f fd ["tree","a","b"] (Zeq K mg):=by
 refine F.okX ZnZ (λvs H Q E h=>?_) (λcdv A outer s H vs Q E hr h=>?_)
 ·obtain⟨t,T,a,b,rfl,_⟩:=h;rfl
 obtain⟨t,T',a,b,rfl,ht,hn,k1⟩:=h
 refine⟨_,(Zi (Zu (Zea (ZlX Zoo ZgE Zf (pv 2) (Zk (Zl (K:=K) rfl) rfl T.b_len PySem.boot_len (Za (pv 0) Zb))) (Zd9 (ZaN (ZrB (K:=K) rfl) (pv 1) (Zg ZT (hr.mono (by decide)) rfl Zv (Za (pv 0) (Za (pv 2) Zb))) (by with_unfolding_all rfl)))))),?_⟩
 walk_at "rd"
 have eT:(T'.map V.int).length=T'.length:=List.length_map ..
 have no:∀H',Zh H H'->¬ (0<=b/\b<(T'.length:Int)/\a∈Zak T' b.toNat)->Q (.bl false) H':=λH' s c=>by
  have:=k1 H' s
  rw[decide_eq_false c]at this;exact this
 refine ZF (λc0=>⟨_,.inr (SqT.of ht),ZF (λc1=>?_) λc1=>no H (Zh.refl H) (λz=>c1 (by omega))⟩) λc0=>no H (Zh.refl H) λz=>c0 z.1
 obtain⟨j,rfl⟩:=Int.eq_ofNat_of_zero_le c0
 refine⟨t,T',j,rfl,.inr (SqT.of ht),hn,by omega,λw H1 zw s1 hw=>⟨w,rfl,_,.inl (SqL.of hw),rfl,Zpl _,?_⟩⟩
 rw[ZoL]
 have:=k1 H1 s1
 rw[show decide (0<=(j:Int)/\(j:Int)<(T'.length:Int)/\a∈Zak T' (j:Int).toNat)=decide (a∈Zak T' j)from decide_eq_decide.mpr ⟨λz=>by simpa using z.2.2,λz=>⟨by omega,by omega,by simpa using z⟩⟩]at this
 exact this
theorem Zj8 {f : Addr} {fd : FuncData} (F : Fun K "fits_least" "fits_least" ZaU f fd)  (T : Txt K mg) : FnOk P w K mg base (CXE P w) 1 f fd ["tree", "floors", "roofs", "heights"] (Zdw K mg) := by
  refine F.okX Za1 (fun vs H Q E h => ?_) (fun cdv A outer s H vs Q E hr h => ?_)
  · obtain ⟨t, a, b, c, T, fl, rf, hs, rfl, _⟩ := h; rfl
  obtain ⟨t, a, b, c, T', fl, rf, hs, rfl, ht, ha, hb, hc, hG, l1, l2, l3, k1⟩ := h
  refine ⟨_, (Zc (Zbw (ZcP PassesOwn.never rfl (Zlc (K := K) rfl rfl T.b_enumerate (Za (pv 3) Zb)) (Zhe (n := 2) rfl (ZJ (Zm (i := 4) Za1.nd rfl (Or.inl rfl)) (ZJ (Zm (i := 5) Za1.nd rfl (Or.inl rfl)) Zbv))) (Zc (Zq (i := 6) Za1.nd rfl (Or.inl rfl) (ZD ZaW (pv 0) (pv 4) (fun _ _ => rfl)))
      (Zc (Zq (i := 7) Za1.nd rfl (Or.inl rfl) (ZlS (Zo Zbg (pv 6) (Zok ZkQ Zf) (Zr _)) (ZD Zy (pv 1) (pv 4) (fun _ _ => rfl)) (Zk (Zhf rfl) rfl T.b_max ZiJ (Za (ZD Zy (pv 1) (pv 4) (fun _ _ => rfl)) (Za (ZD Zy (pv 3) (pv 6) (fun _ _ => rfl)) Zb)))))
      (Zi (ZQ (PW.pt (Zf5 (Zo ZiD (pv 5) (pv 7) (Zr _)) (Zd8 (Zo ZeQ (pv 5) (ZD Zy (pv 2) (pv 4) (fun _ _ => rfl)) (Zr _))))) (Zi (Zu Zcv)) ZC))))))
      (Zi (Zu Zcv))), ?_⟩
  walk_at "rd"
  have e3 : (hs.map V.int).length = hs.length := List.length_map ..
  refine ⟨_, SqL.of hc, ?_⟩
  obtain ⟨hG1, nsT, hT⟩ := hG
  refine Zlg (n := T'.length) (fun i σ Hx => ∃ v4 v5 v6 v7, σ = [some (.ref t), some (.ref a), some (.ref b), some (.ref c), v4, v5, v6, v7] ∧ Zh H Hx ∧ ∀ p, p < i → ZcU T' fl rf hs p) ⟨_, _, _, _, rfl, Zh.refl H, fun p hp => absurd hp (by omega)⟩
    (fun i σ Hx hi ⟨_, _, _, _, _, sx, _⟩ => ⟨_, _, SqL.of (sx _ _ hc), ZaE (by omega)⟩) (fun σ Hx ⟨_, _, _, _, _, sx, _⟩ => ⟨_, SqL.of (sx _ _ hc), by omega⟩) ?_ ?_
  · rintro i x σ Hx Hx' hi ⟨v4, v5, v6, v7, rfl, sx, hf⟩ ⟨q, x, hq, rfl, rfl, hx⟩
    have ex := hx _ (SqL.of (sx _ _ hc))
    rw [ZaE (by omega)] at ex
    cases ex
    replace sx := sx.ZM (o := .tup [.int (i : Int), .int (nth hs i)]) hq
    have tq : (upd Hx q (.tup [.int (i : Int), .int (nth hs i)])) q = some (.tup [.int (i : Int), .int (nth hs i)]) := Zd
    generalize upd Hx q (.tup [.int (i : Int), .int (nth hs i)]) = Hy at sx tq ⊢
    walk_at "rd"
    have no : ¬ ZcU T' fl rf hs i → Q (.bl false) Hy := fun z => by
      have := k1 Hy sx
      rw [decide_eq_false (fun y => z (y i hi))] at this; exact this
    have yes : ZcU T' fl rf hs i → ∀ p, p < i + 1 → ZcU T' fl rf hs p := fun z p hp => by
      by_cases e : p = i
      · rw [e]; exact z
      · exact hf p (by omega)
    refine ⟨_, SqT.of tq, rfl, _, _, rfl, _, _, rfl, rfl, _, _, rfl, SqT.of (sx _ _ ht), _, ZI hi, rfl, ZF (fun c0 => ?_) fun c0 => ?_⟩
    · have c1 : nth T' i = -1 := by simpa using c0
      refine ⟨_, _, rfl, SqL.of (sx _ _ ha), _, ZI (by omega), rfl, ZF (fun z => no fun y => z ?_) fun z => ⟨_, _, rfl, SqL.of (sx _ _ hb), _, ZI (by omega), _, rfl, _, rfl, ZF (fun z2 => no fun y => ?_) fun z2 => ⟨sx, yes ?_⟩⟩⟩
      · unfold ZcU at y
        rw [if_pos c1] at y
        rw [y.1]
      · unfold ZcU at y
        omega
      · unfold ZcU
        rw [if_pos c1]
        have z' := Decidable.not_not.mp z
        simp only [V.int.injEq] at z'
        omega
    · have c1 : nth T' i ≠ -1 := fun e => c0 (by rw [e])
      rcases ZA hT (p := i) (by have := hT.1; omega) with e | ⟨q0, e, hq0, _, _⟩
      · exact absurd e c1
      have eq : (nth T' i).toNat = q0 := by omega
      refine ⟨_, _, rfl, SqL.of (sx _ _ ha), _, ZI (by omega), _, _, rfl, SqL.of (sx _ _ hc), _, by rw [e]; exact ZI (by have := hT.1; omega), _, rfl, _, rfl, rfl, ?_⟩
      have em : (if nth hs q0 > nth fl i then nth hs q0 else nth fl i) = max (nth fl i) (nth hs q0) := by
        split <;> omega
      refine ZF (fun z => no fun y => z ?_) fun z => ⟨_, _, rfl, SqL.of (sx _ _ hb), _, ZI (by omega), _, rfl, _, rfl, ZF (fun z2 => no fun y => ?_) fun z2 => ⟨sx, yes ?_⟩⟩
      · unfold ZcU at y
        rw [if_neg c1, eq] at y
        rw [em, y.1]
      · unfold ZcU at y
        omega
      · unfold ZcU
        rw [if_neg c1, eq]
        have z' := Decidable.not_not.mp z
        simp only [V.int.injEq] at z'
        rw [em] at z'
        omega
  · rintro σ Hx ⟨v4, v5, v6, v7, rfl, sx, hf⟩
    walk_at "rd"
    have := k1 Hx sx
    rw [decide_eq_true hf] at this
    exact this
theorem Zmz {f:Addr}{fd:FuncData} (F:Fun K "is_clash" "is_clash" ZbQ f fd) (ZcN:Callee P w K mg base "is_over" 2 ["tree","a","b"] (Zeq K mg)) (T:Txt K mg):FnOk P w K mg base (CXE P w) 3 f fd ["tree","floors","roofs","a","b"] (Zfg K mg):=by
 refine F.okX Zh3 (λvs H Q E h=>?_) (λcdv A outer s H vs Q E hr h=>?_)
 ·obtain⟨t,c,d,T,fl,rf,a,b,rfl,_⟩:=h;rfl
 obtain⟨t,c,d,T',fl,rf,a,b,rfl,ht,hc,hd,hG,l1,l2,k1⟩:=h
 refine⟨_,(Zc (Zq (i:=5) Zh3.nd rfl (Or.inl rfl) (pe_or (Zg ZcN (hr.mono (by decide)) rfl Zv (Za (pv 0) (Za (pv 3) (Za (pv 4) Zb)))) (Zd9 (Zea (ZaN Zbg (pv 3) (pv 4) (Zr _)) (Zd9 (ZlX Zoo ZgE Zf (pv 3) (Zk (Zl (K:=K) rfl) rfl T.b_len PySem.boot_len (Za (pv 0) Zb))))))))
   (Zi (Zu (Zea (pv 5) (Zd9 (ZaN ZeQ (ZD Zy (pv 1) (pv 3) (λ_ _=>rfl)) (ZD Zy (pv 2) (pv 4) (λ_ _=>rfl)) (Zr _))))))),?_⟩
 walk_at "rd"
 have eT:(T'.map V.int).length=T'.length:=List.length_map ..
 obtain⟨hG1,nsT,hT⟩:=hG
 have fin:∀H1,Zh H H1->(0<=b/\b<(T'.length:Int)/\a∈Zak T' b.toNat\/a=b/\0<=a/\a<(T'.length:Int))->∃x,SqL K H1 c x/\∃x_1,atI x a=some x_1/\∃x,SqL K H1 d x/\∃x_2,atI x b=some x_2/\∃i,x_1=V.int i/\∃x,x_2=V.int x/\Q (V.bl (decide (x<i))) H1:=λH1 s1 z=>by
  have z2:∃i j:Nat,a=i/\b=j/\i<T'.length/\j<T'.length:=by
   rcases z with⟨z1,z2,z3⟩|⟨z1,z2,z3⟩
   ·rw[Z0]at z3
    obtain⟨o,ho,e⟩:=List.mem_map.mp z3
    have:=((Zbz hT (by have:=hT.1;omega)).mp ho).1
    exact⟨o,b.toNat,e.symm,by omega,by have:=hT.1;omega,by omega⟩
   ·exact⟨a.toNat,b.toNat,by omega,by omega,by omega,by omega⟩
  obtain⟨i,j,rfl,rfl,hi,hj⟩:=z2
  refine⟨_,SqL.of (s1 _ _ hc),_,ZI (by omega),_,SqL.of (s1 _ _ hd),_,ZI (by omega),_,rfl,_,rfl,?_⟩
  have:=k1 H1 s1
  rw[show decide (Zff T' fl rf (i:Int) (j:Int))=decide (nth rf j<nth fl i)from decide_eq_decide.mpr ⟨λq=>by simpa using q.2,λq=>⟨z,by simpa using q⟩⟩]at this
  exact this
 have no:∀H',Zh H H'->¬ (0<=b/\b<(T'.length:Int)/\a∈Zak T' b.toNat\/a=b/\0<=a/\a<(T'.length:Int))->Q (.bl false) H':=λH' s c=>by
  have:=k1 H' s
  rw[decide_eq_false (λz=>c z.1)]at this;exact this
 refine⟨t,T',a,b,rfl,ht,by omega,λH1 s1=>⟨_,rfl,ZF (λz=>fin H1 s1 (.inl (of_decide_eq_true z))) λz=>?_⟩⟩
 have nz:=λy=>z (decide_eq_true y)
 refine ZF (λc=>ZF (λc0=>⟨_,.inr (SqT.of (s1 _ _ ht)),ZF (λc1=>fin H1 s1 (.inr ⟨c,c0,by omega⟩)) λc1=>no H1 s1 ?_⟩) λc0=>no H1 s1 ?_) λc=>no H1 s1 ?_
 ·rintro(y|y)
  ·exact nz y
  ·omega
 ·rintro(y|y)
  ·exact nz y
  ·omega
 ·rintro(y|y)
  ·exact nz y
  ·exact c y.1
theorem Zil {f:Addr}{fd:FuncData} (F:Fun K "fitted_right" "fitted_right" Zaq f fd) (ZZ:Callee P w K mg base "flattest" 5 ["tree"] (Zbq K mg)) (ZG:Callee P w K mg base "heights_of" 1 ["flat","row"] (ZaH K mg)) (Zew:Callee P w K mg base "fits_least" 1 ["tree","floors","roofs","heights"] (Zdw K mg)) (Zgm:Callee P w K mg base "is_clash" 3 ["tree","floors","roofs","a","b"] (Zfg K mg)) (T:Txt K mg):FnOk P w K mg base (CXE P w) 6 f fd ["tree","least","greatest","told"] (Zce K mg):=by
 refine F.okX Za4 (λvs H Q E h=>?_) (λcdv A outer s H vs Q E hr h=>?_)
 ·obtain⟨t,a,b,c,T,ls,gs,d,rfl,_⟩:=h;rfl
 obtain⟨t,a,b,c,T',ls,gs,d,rfl,ht,ha,hb,hG,l1,l2,hd,k1⟩:=h
 refine⟨_,(Zc (Zq (i:=4) Za4.nd rfl (Or.inl rfl) (Zg ZZ (hr.mono (by decide)) rfl Zaw (Za (pv 0) Zb)))
   (Zc (Zq (i:=5) Za4.nd rfl (Or.inl rfl) (Zg ZG (hr.mono (by decide)) rfl Zaw (Za (pv 4) (Za (pv 1) Zb))))
   (Zc (Zq (i:=6) Za4.nd rfl (Or.inl rfl) (Zg ZG (hr.mono (by decide)) rfl Zaw (Za (pv 4) (Za (pv 2) Zb))))
   (Zc (ZQ (Ze3 (Ze2 (Zk (Zhj (K:=K) rfl) rfl T.b_isinstance Zdu (Za (pv 3) (Za (ZkP (v:=.ty "tuple") rfl T.b_tuple Zb6 rfl) Zb))))) (Zi (Zu Zcv)) ZC)
   (Zc (ZQ (PW.pt (ZiA (Zo (Znq (K:=K) rfl hr) (Ze7 (sl_v (K:=K) rfl) (pv 3) ZkV (Zec Zf)) (Zds (Za Zgc Zb)) (Zr _)) (ZgD (Zo Zbg (Zk (Zl (K:=K) rfl) rfl T.b_len PySem.boot_len (Za (pv 3) Zb)) Zf (Zr _))))) (Zi (Zu (Zea (ZaN Zbg (Zk (Zl (K:=K) rfl) rfl T.b_len PySem.boot_len (Za (ZD ZaW (pv 3) Zf (λ_ _=>rfl)) Zb)) (Zk (Zl (K:=K) rfl) rfl T.b_len PySem.boot_len (Za (pv 0) Zb)) (Zr _)) (Zd9 (Zg Zew (hr.mono (by decide)) rfl Zv (Za (pv 0) (Za (pv 5) (Za (pv 6) (Za (Zg ZG (hr.mono (by decide)) rfl Zaw (Za (pv 4) (Za (ZD ZaW (pv 3) Zf (λ_ _=>rfl)) Zb))) Zb))))))))) ZC)
   (Zi (Zu (Zea (ZaN (Znq (K:=K) rfl hr) (Ze7 (sl_v (K:=K) rfl) (pv 3) ZkV (Zec Zf)) (Zds (Za Zgc Zb)) (Zr _)) (Zea (ZaN Zbg (Zk (Zl (K:=K) rfl) rfl T.b_len PySem.boot_len (Za (pv 3) Zb)) Zf (Zr _)) (Zd9 (Zg Zgm (hr.mono (by decide)) rfl Zv (Za (pv 0) (Za (pv 5) (Za (pv 6) (Za (ZD ZaW (pv 3) Zf (λ_ _=>rfl)) (Za (ZD ZaW (pv 3) Zf (λ_ _=>rfl)) Zb)))))))))))))))),?_⟩
 walk_at "rd"
 have eF:(Ze T').length=T'.length:=ZY T'
 have h40:=hG.1
 refine⟨t,T',rfl,ht,by omega,λ_ f H1 s1 hf=>⟨f,a,Ze T',ls,rfl,hf,s1.q ha,by omega,by omega,λ_ fo H2 zfo s2 hfo=>⟨f,b,Ze T',gs,rfl,s2 _ _ hf,(s1.trans s2).q hb,by omega,by omega,λ_ ro H3 zro s3 hro=>?_,λz=>absurd (by omega) z⟩,λz=>absurd (by omega) z⟩,λz=>absurd hG z⟩
 have s03:=(s1.trans s2).trans s3
 have hf3:=(s2.trans s3) _ _ hf
 have hfo3:=s3 _ _ hfo
 have ht3:=s03 _ _ ht
 have efl:(hgt (Ze T') ls).length=(Ze T').length:=Zcz _ _
 have erf:(hgt (Ze T') gs).length=(Ze T').length:=Zcz _ _
 obtain⟨fl,efl'⟩:∃fl,fl=hgt (Ze T') ls:=⟨_,rfl⟩
 obtain⟨rf,erf'⟩:∃rf,rf=hgt (Ze T') gs:=⟨_,rfl⟩
 rw[<-efl']at hfo3 hfo efl
 rw[<-erf']at hro erf
 cases d with
 |row ns =>
  obtain⟨hn,r,hc,hr2⟩:=hd
  have hc3:=s03 _ _ hc
  have hr3:=s03 _ _ hr2
  refine⟨true,.inl ⟨_,.tup hc3,by with_unfolding_all rfl⟩,ZF (λz=>nomatch z) λ_=>⟨_,hc3,λp H4 s4 hp=>⟨by decide,λp1 hp1=>?_⟩⟩⟩
  have s4':=s4.ZM (o:=.tup [V.str (Str.ofString "row")]) hp1
  have hp':=((Zh.refl H4).ZM (o:=.tup [V.str (Str.ofString "row")]) hp1) _ _ hp
  have hp1':=Zd (H:=H4) (a:=p1) (o:=.tup [V.str (Str.ofString "row")])
  generalize upd H4 p1 (.tup [V.str (Str.ofString "row")])=H5 at s4' hp' hp1'⊢
  have eq:=Zjc (K:=K) (H:=H5) (p:=p) (q:=p1) (a:=Str.ofString "row") (b:=Str.ofString "row") hp' hp1'
  refine⟨_,eq,ZF (λ_=>⟨_,.inr (SqT.of (s4' _ _ hc3)),ZF (λ_=>⟨_,SqT.of (s4' _ _ hc3),_,rfl,r,rfl,_,.inr (SqT.of (s4' _ _ hr3)),_,.inr (SqT.of (s4' _ _ ht3)),ZF (λz=>?_) λz=>?_⟩) λz=>absurd rfl z⟩) λz=>absurd (by simp) z⟩
  ·have z':ns.length=T'.length:=by simp only[List.length_map]at z;omega
   refine⟨_,SqT.of (s4' _ _ hc3),_,rfl,f,r,Ze T',ns,rfl,s4' _ _ hf3,.inr (SqT.of (s4' _ _ hr3)),by omega,by omega,λ_ l H6 zl s6 hl=>⟨t,fo,ro,l,T',fl,rf,hgt (Ze T') ns,rfl,(s4'.trans s6) _ _ ht3,(s4'.trans s6) _ _ hfo3,(s4'.trans s6) _ _ hro,hl,hG,?_,?_,?_,λH7 s7=>?_⟩,λy=>absurd (by omega) y⟩
   ·rw[efl];omega
   ·rw[erf];omega
   ·rw[Zcz];omega
   ·have:=k1 H7 (s03.trans (s4'.trans (s6.trans s7)))
    rw[show decide (Zfi T' ls gs (.row ns))=decide (∀p,p<T'.length->ZcU T' fl rf (hgt (Ze T') ns) p)from decide_eq_decide.mpr ⟨λq=>by rw[efl',erf'];exact q.2,λq=>⟨z',by rw[efl',erf']at q;exact q⟩⟩]at this
    exact this
  ·have:=k1 H5 (s03.trans s4')
   rw[decide_eq_false (λq:Zfi T' ls gs (.row ns)=>z (by have:=q.1;simp only[List.length_map];omega))]at this
   exact this
 |clash x y =>
  have hc3:=s03 _ _ hd
  refine⟨true,.inl ⟨_,.tup hc3,by with_unfolding_all rfl⟩,ZF (λz=>nomatch z) λ_=>⟨_,hc3,λp H4 s4 hp=>⟨by decide,λp1 hp1=>?_⟩⟩⟩
  have s4':=s4.ZM (o:=.tup [V.str (Str.ofString "row")]) hp1
  have hp':=((Zh.refl H4).ZM (o:=.tup [V.str (Str.ofString "row")]) hp1) _ _ hp
  have hp1':=Zd (H:=H4) (a:=p1) (o:=.tup [V.str (Str.ofString "row")])
  generalize upd H4 p1 (.tup [V.str (Str.ofString "row")])=H5 at s4' hp' hp1'⊢
  have eq:=Zjc (K:=K) (H:=H5) (p:=p) (q:=p1) (a:=Str.ofString "clash") (b:=Str.ofString "row") hp' hp1'
  refine⟨_,eq,ZF (λz=>absurd z (by decide)) λ_=>⟨_,s4' _ _ hc3,λp2 H6 s6 hp2=>⟨by decide,λp3 hp3=>?_⟩⟩⟩
  have s6':=(s4'.trans s6).ZM (o:=.tup [V.str (Str.ofString "clash")]) hp3
  have hp2':=((Zh.refl H6).ZM (o:=.tup [V.str (Str.ofString "clash")]) hp3) _ _ hp2
  have hp3':=Zd (H:=H6) (a:=p3) (o:=.tup [V.str (Str.ofString "clash")])
  generalize upd H6 p3 (.tup [V.str (Str.ofString "clash")])=H7 at s6' hp2' hp3'⊢
  have eq:=Zjc (K:=K) (H:=H7) (p:=p2) (q:=p3) (a:=Str.ofString "clash") (b:=Str.ofString "clash") hp2' hp3'
  refine⟨_,eq,ZF (λ_=>⟨_,.inr (SqT.of (s6' _ _ hc3)),ZF (λ_=>⟨_,SqT.of (s6' _ _ hc3),_,rfl,_,SqT.of (s6' _ _ hc3),_,rfl,?_⟩) λz=>absurd rfl z⟩) λz=>absurd (by simp) z⟩
  refine⟨t,fo,ro,T',fl,rf,x,y,rfl,s6' _ _ ht3,s6' _ _ hfo3,s6' _ _ hro,hG,?_,?_,λH8 s8=>?_⟩
  ·rw[efl];omega
  ·rw[erf];omega
  ·have:=k1 H8 (s03.trans (s6'.trans s8))
   rw[show decide (Zfi T' ls gs (.clash x y))=decide (Zff T' fl rf x y)from decide_eq_decide.mpr ⟨λq=>by rw[efl',erf'];exact q,λq=>by rw[efl',erf']at q;exact q⟩]at this
   exact this
theorem Zet {H:Hp}{p t:Addr}{xs:List V} (P:Zz H p) (h:H t=some (.tup xs)):t≠p:=λz=>by
 obtain⟨x,e,_⟩:=P
 rw[z,e]at h;cases h
theorem ZtJ {K:PySem.W.Frag}{mg:Str->Option Value}{x:Str}{H:Hp}{p:Addr} (P:Zz H p) (h:Z6 K mg x H):Zgi K mg x≠p:=λz=>by
 obtain⟨y,e,_⟩:=P
 unfold Z6 at h
 rw[z,e]at h;cases h
theorem Z6.exc {K:PySem.W.Frag}{mg:Str->Option Value}{x:Str}{H H':Hp}{p:Addr} (h:Z6 K mg x H) (P:Zz H p) (e:Exc p H H'):Z6 K mg x H':=e _ _ (ZtJ P h) h
theorem ZfU {ns:List Int}{i:Nat} (h:i<ns.length):nth ns i∈ns:=by
 unfold nth
 rw[List.getD_eq_getElem?_getD,List.getElem?_eq_getElem h];exact List.getElem_mem h
theorem Zbr.uniq {T ls ds es:List Int} (h1:Zbr T ls ds) (h2:Zbr T ls es):ds=es:=by
 refine List.ext_getElem (h1.1.trans h2.1.symm) λi i1 i2=>?_
 have hi:i<T.length:=by have:=h1.1;omega
 obtain⟨⟨o,ho,e1⟩,b1⟩:=h1.2 i hi
 obtain⟨⟨o',ho',e2⟩,b2⟩:=h2.2 i hi
 have c1:=b2 o ho
 have c2:=b1 o' ho'
 have q1:nth ds i=ds[i]:=by unfold nth;rw[List.getD_eq_getElem?_getD,List.getElem?_eq_getElem i1];rfl
 have q2:nth es i=es[i]:=by unfold nth;rw[List.getD_eq_getElem?_getD,List.getElem?_eq_getElem i2];rfl
 omega
theorem Zfj {T ls ds:List Int} (hG:ZO T) (hl:ds.length=T.length):Zbr T ls ds↔∀p,p<T.length->nth (hgt (Ze T) ds) p=(if nth T p=-1 then nth (hgt (Ze T) ls) p else max (nth (hgt (Ze T) ls) p) (nth (hgt (Ze T) ds) (nth T p).toNat)):=by
 obtain⟨h40,nsT,hT⟩:=hG
 have eT:=hT.1
 have eF:(Ze T).length=T.length:=ZY T
 constructor
 ·intro h p hp
  obtain⟨⟨o,ho,e1⟩,b1⟩:=h.2 p hp
  have bp:=b1 p List.mem_cons_self
  rw[ZE (by omega),ZE (by omega)]
  rcases ZA hT (p:=p) (by omega)with e|⟨q,e,hq,_,_⟩
  ·rw[if_pos e]
   rw[Zlb e]at ho
   have:o=p:=by simpa using ho
   subst this
   omega
  ·rw[if_neg (by omega),e,show((q:Nat):Int).toNat=q by omega,ZE (by omega)]
   have hw:=Zfb hT (p:=p) (by omega) e
   obtain⟨⟨o',ho',e2⟩,b2⟩:=h.2 q (by omega)
   have c1:=b1 o' (by rw[hw];exact List.mem_cons_of_mem _ ho')
   rcases List.mem_cons.mp ho with rfl|ho
   ·omega
   ·rw[hw]at ho
    have c2:=b2 o ho
    omega
 ·intro h
  refine⟨hl,?_⟩
  have key:∀d p,p<T.length->dep (nth nsT) nsT.length p=d->(∃o∈p::way T p,nth ds p=nth ls o+nth (Ze T) p-nth (Ze T) o)/\∀o∈p::way T p,nth ls o+nth (Ze T) p-nth (Ze T) o<=nth ds p:=by
   intro d
   induction d with
   |zero =>
    intro p hp hd
    have h1:=h p hp
    rw[ZE (by omega),ZE (by omega)]at h1
    rcases ZA hT (p:=p) (by omega)with e|⟨q,e,hq,_,e5⟩
    ·rw[if_pos e]at h1
     rw[Zlb e]
     refine⟨⟨p,List.mem_cons_self,by omega⟩,λo ho=>?_⟩
     have:o=p:=by simpa using ho
     subst this;omega
    ·omega
   |succ d ih =>
    intro p hp hd
    have h1:=h p hp
    rw[ZE (by omega),ZE (by omega)]at h1
    rcases ZA hT (p:=p) (by omega)with e|⟨q,e,hq,_,e5⟩
    ·rw[if_pos e]at h1
     rw[Zlb e]
     refine⟨⟨p,List.mem_cons_self,by omega⟩,λo ho=>?_⟩
     have:o=p:=by simpa using ho
     subst this;omega
    ·rw[if_neg (by omega),e,show((q:Nat):Int).toNat=q by omega,ZE (by omega)]at h1
     obtain⟨⟨o,ho,e2⟩,b2⟩:=ih q (by omega) (by omega)
     rw[Zfb hT (p:=p) (by omega) e]
     constructor
     ·by_cases c:nth ls p-nth (Ze T) p<nth ds q-nth (Ze T) q
      ·exact⟨o,List.mem_cons_of_mem _ ho,by omega⟩
      ·exact⟨p,List.mem_cons_self,by omega⟩
     ·intro o' ho'
      rcases List.mem_cons.mp ho' with rfl|ho'
      ·omega
      ·have:=b2 o' ho'
       omega
  exact λp hp=>key _ p hp rfl
theorem Zr2 {T ls gs:List Int} (hG:ZO T) (hl:ls.length=T.length) (hg:gs.length=T.length) (d:Td):Zfi T ls gs d↔soT T ls gs d:=by
 have eF:(Ze T).length=T.length:=ZY T
 cases d with
 |row ns =>
  show(ns.length=T.length/\_)↔∃ds,Zbr T ls ds/\ns=ds/\_
  constructor
  ·rintro⟨h1,h2⟩
   refine⟨ns,(Zfj hG h1).mpr λp hp=>(h2 p hp).1,rfl,λp hp=>?_⟩
   have:=(h2 p hp).2
   rw[ZE (by omega),ZE (by omega)]at this
   omega
  ·rintro⟨ds,h1,rfl,h2⟩
   refine⟨h1.1,λp hp=>⟨(Zfj hG h1.1).mp h1 p hp,?_⟩⟩
   have:=h2 p hp
   rw[ZE (by omega),ZE (by omega)]
   omega
 |clash a b =>
  show Zff _ _ _ a b↔Zgk _ _ _ a b
  unfold Zff Zgk
  have hin:0<=b->b<(T.length:Int)->a∈Zak T b.toNat->0<=a/\a<(T.length:Int):=λb0 b1 z=>by
   obtain⟨h40,nsT,hT⟩:=hG
   have eT:=hT.1
   rw[Z0]at z
   obtain⟨o,ho,e⟩:=List.mem_map.mp z
   have:=((Zbz hT (p:=b.toNat) (by omega)).mp ho).1
   omega
  constructor
  ·rintro⟨h1,h2⟩
   have h3:0<=a/\a<(T.length:Int)/\0<=b/\b<(T.length:Int)/\(a=b\/a∈Zak T b.toNat):=by
    rcases h1 with⟨b0,b1,z⟩|⟨e,a0,a1⟩
    ·have:=hin b0 b1 z
     exact⟨this.1,this.2,b0,b1,.inr z⟩
    ·exact⟨a0,a1,by omega,by omega,.inl e⟩
   obtain⟨a0,a1,b0,b1,z⟩:=h3
   rw[ZE (by omega),ZE (by omega)]at h2
   exact⟨a0,b0,a1,b1,z,by omega⟩
  ·rintro⟨a0,b0,a1,b1,z,h⟩
   rw[ZE (by omega),ZE (by omega)]
   refine⟨?_,by omega⟩
   rcases z with z|z
   ·exact .inr ⟨z,a0,a1⟩
   ·exact .inl ⟨b0,b1,z⟩
theorem Zfh.upd {H:Hp}{u l:Addr}{d:Td}{xs ys:List V} (h:Zfh H u d) (hl:H l=some (.lst xs)):Zfh (upd H l (.lst ys)) u d:=by
 cases d with
 |row ns =>
  obtain⟨hn,r,h1,h2⟩:=h
  exact⟨hn,r,by rw[Zj (λz=>by rw[z,hl]at h1;cases h1)];exact h1,by rw[Zj (λz=>by rw[z,hl]at h2;cases h2)];exact h2⟩
 |clash a b =>
  show L2.upd H l _ u=_
  have h':H u=some (.tup [.str (Str.ofString "clash"),.int a,.int b]):=h
  rw[Zj (λz=>by rw[z,hl]at h';cases h')];exact h'
theorem Zfh.same {H H':Hp}{u:Addr}{d:Td} (h:Zfh H u d) (e:Zh H H'):Zfh H' u d:=by
 cases d with
 |row ns =>
  obtain⟨hn,r,h1,h2⟩:=h
  exact⟨hn,r,e _ _ h1,e _ _ h2⟩
 |clash a b=>exact e _ _ h
theorem atI_hd {x:V}{os:List V}:atI (x::os) 0=some x:=by
 have:=Zef (xs:=x::os) (j:=0) (show(0:Int)=((0:Nat):Int)from rfl) (by simp)
 simpa using this
theorem ZmA (F us:List Int):(Zhv F us).length=F.length:=by unfold Zhv;simp
theorem Zr3 {F us:List Int}{i:Nat} (h:i<F.length):nth (Zhv F us) i=nth F i+nth us i:=by
 show List.getD ((List.range F.length).map λi=>nth F i+nth us i) i 0=_
 rw[List.getD_eq_getElem?_getD,List.getElem?_map,List.getElem?_range h];rfl
noncomputable def ZhB (T hs qs us:List Int) (i:Nat):Prop:=us.length=T.length/\∀p:Nat,p<T.length->nth us p=if (p:Int)∈qs.take i/\nth T p≠-1 then max (nth hs p) (nth us (nth T p).toNat)else nth hs p
theorem ZcM {qs:List Int}{i:Nat}{x y:Int} (h:qs[i]?=some y):x∈qs.take (i+1)↔x∈qs.take i\/x=y:=by
 rw[List.take_add_one,h];simp
theorem ZmB {us:List Int}{j:Nat}{z:Int} (h:j<us.length):nth (us.set j z) j=z:=by
 unfold nth
 rw[List.getD_eq_getElem?_getD,List.getElem?_set_self h];rfl
theorem Zd4 {us:List Int}{j p:Nat}{z:Int} (h:p≠j):nth (us.set j z) p=nth us p:=by
 unfold nth
 rw[List.getD_eq_getElem?_getD,List.getD_eq_getElem?_getD,List.getElem?_set_ne (Ne.symm h)]
theorem ZhC {ns T:List Int} (hT:Zw ns T) {p q:Nat} (hp:p<ns.length) (h:nth T p=q):dpI T (p:Int)=dpI T (q:Int)+1:=by
 unfold dpI
 simp only[Int.toNat_natCast,Z0,List.length_map]
 rw[Zfb hT hp h,List.length_cons];omega
theorem Zh4 {ns T qs:List Int} (hT:Zw ns T) (hpm:qs.Perm (nats (T.length:Int))) (hpw:qs.Pairwise λx y=>dpI T x<=dpI T y) {p q i:Nat} (hp:p<T.length) (hq:q<T.length) (h:nth T p=q):(qs[i]?=some (p:Int)->(q:Int)∈qs.take i)/\((p:Int)∈qs.take i->(q:Int)∈qs.take i):=by
 have eT:=hT.1
 have dp:=ZhC hT (p:=p) (by omega) h
 have mq:(q:Int)∈qs:=hpm.mem_iff.mpr (List.mem_map.mpr ⟨q,List.mem_range.mpr (by omega),rfl⟩)
 obtain⟨m,hm,em⟩:=List.getElem_of_mem mq
 have key:∀k,qs[k]?=some (p:Int)->m<k:=λk e=>by
  obtain⟨hk,ek⟩:=List.getElem?_eq_some_iff.mp e
  refine Nat.lt_of_not_le λz=>?_
  rcases Nat.lt_or_eq_of_le z with z|z
  ·have:=List.pairwise_iff_getElem.mp hpw k m hk hm z
   rw[ek,em]at this;omega
  ·subst z
   rw[ek]at em
   rw[em]at dp;omega
 constructor
 ·intro e
  have:=key i e
  rw[List.mem_take_iff_getElem]
  exact⟨m,by omega,em⟩
 ·intro e
  obtain⟨k,hk,ek⟩:=List.mem_take_iff_getElem.mp e
  have:=key k (List.getElem?_eq_some_iff.mpr ⟨by omega,ek⟩)
  rw[List.mem_take_iff_getElem]
  exact⟨m,by omega,em⟩
theorem ZpO {T hs qs us:List Int}{i j:Nat} (h:ZhB T hs qs us i) (e:qs[i]?=some (j:Int)) (ht:nth T j=-1):ZhB T hs qs us (i+1):=by
 refine⟨h.1,λp hp=>?_⟩
 rw[h.2 p hp]
 by_cases c:p=j
 ·subst c
  rw[if_neg (λz=>z.2 ht),if_neg (λz=>z.2 ht)]
 ·have:(p:Int)∈qs.take (i+1)↔(p:Int)∈qs.take i:=by rw[ZcM e];exact⟨λz=>z.elim id λy=>absurd (by omega) c,.inl⟩
  simp only[this]
theorem Zjd (n:Int):(nats n).Nodup:=by
 unfold nats
 exact List.Pairwise.map _ (λa b (h:a≠b)=>λ(e:(a:Int)=(b:Int))=>h (by omega)) List.nodup_range
theorem ZpP {ns T hs qs us:List Int}{i j k:Nat} (hT:Zw ns T) (hpm:qs.Perm (nats (T.length:Int))) (hpw:qs.Pairwise λx y=>dpI T x<=dpI T y) (h:ZhB T hs qs us i) (e:qs[i]?=some (j:Int)) (hj:j<T.length) (hk:k<T.length) (ht:nth T j=k):ZhB T hs qs (us.set j (max (nth us j) (nth us k))) (i+1):=by
 have eT:=hT.1
 have hkj:k≠j:=λz=>by
  have:=ZhC hT (p:=j) (by omega) ht
  rw[z]at this;omega
 have nj:(j:Int)∉qs.take i:=λz=>by
  have nd:qs.Nodup:=hpm.nodup_iff.mpr (Zjd _)
  obtain⟨m,hm,em⟩:=List.mem_take_iff_getElem.mp z
  obtain⟨hi,ei⟩:=List.getElem?_eq_some_iff.mp e
  have:=(List.getElem_inj nd (h₀:=by omega) (h₁:=hi)).mp (em.trans ei.symm)
  omega
 have uj:=h.2 j hj
 rw[if_neg (λz=>nj z.1)]at uj
 refine⟨by rw[List.length_set];exact h.1,λp hp=>?_⟩
 by_cases c:p=j
 ·subst c
  rw[ZmB (by rw[h.1];exact hp),if_pos ⟨(ZcM e).mpr (.inr rfl),by omega⟩,ht,show((k:Nat):Int).toNat=k by omega,Zd4 hkj,uj]
 ·rw[Zd4 c,h.2 p hp]
  have:(p:Int)∈qs.take (i+1)↔(p:Int)∈qs.take i:=by rw[ZcM e];exact⟨λz=>z.elim id λy=>absurd (by omega) c,.inl⟩
  simp only[this]
  by_cases y:(p:Int)∈qs.take i/\nth T p≠-1
  ·rw[if_pos y,if_pos y]
   rcases ZA hT (p:=p) (by omega)with z|⟨q,ez,hq,_,_⟩
   ·exact absurd z y.2
   ·rw[ez,show((q:Nat):Int).toNat=q by omega,Zd4 (λz=>?_)]
    subst z
    exact nj ((Zh4 hT hpm hpw hp (by omega) ez).2 y.1)
  ·rw[if_neg y,if_neg y]
theorem Zr4 {T hs qs us:List Int} (hpm:qs.Perm (nats (T.length:Int))) (h:ZhB T hs qs us qs.length):Zi7 T hs us:=by
 refine⟨h.1,λp hp=>?_⟩
 rw[h.2 p hp,List.take_length]
 have mq:(p:Int)∈qs:=hpm.mem_iff.mpr (List.mem_map.mpr ⟨p,List.mem_range.mpr (by omega),rfl⟩)
 by_cases c:nth T p=-1
 ·rw[if_pos c,if_neg (λz=>z.2 c)]
 ·rw[if_neg c,if_pos ⟨mq,c⟩]
theorem ZmC {T ls us:List Int} (hG:ZO T) (hl:ls.length=T.length) (h:Zi7 T (hgt (Ze T) ls) us):Zbr T ls (Zhv (Ze T) us)/\∀p,p<T.length->nth (Zhv (Ze T) us) p=nth (Ze T) p+nth us p:=by
 have eF:(Ze T).length=T.length:=ZY T
 have e2:∀p,p<T.length->nth (Zhv (Ze T) us) p=nth (Ze T) p+nth us p:=λp hp=>Zr3 (by omega)
 refine⟨(Zfj hG (by rw[ZmA];exact eF)).mpr λp hp=>?_,e2⟩
 have key:∀q,q<T.length->nth (hgt (Ze T) (Zhv (Ze T) us)) q=nth us q:=λq hq=>by rw[ZE (by omega),e2 q hq];omega
 rw[key p hp,h.2 p hp]
 obtain⟨_,nsT,hT⟩:=hG
 have eT:=hT.1
 rcases ZA hT (p:=p) (by omega)with z|⟨q,ez,hq,_,_⟩
 ·rw[if_pos z,if_pos z]
 ·rw[if_neg (by omega),if_neg (by omega),ez,show((q:Nat):Int).toNat=q by omega,key q (by omega)]
theorem Zje {T ls ds:List Int} (hG:ZO T) (h:Zbr T ls ds):Zw ds T:=by
 have hf:=(Zfj hG h.1).mp h
 obtain⟨_,nsT,hT⟩:=hG
 have eT:=hT.1
 have eF:(Ze T).length=T.length:=ZY T
 have hup:∀o p,o<nsT.length->p<nsT.length->Over (nth nsT) o p->nth ds o-nth (Ze T) o<=nth ds p-nth (Ze T) p:=λo p ho hp hO =>
  ZgQ hT (R:=λo p=>nth ds o-nth (Ze T) o<=nth ds p-nth (Ze T) p) (λp q hp hq e _=>by
   have:=hf p (by omega)
   rw[ZE (by omega),if_neg (by omega),e,show((q:Nat):Int).toNat=q by omega,ZE (F:=Ze T) (ns:=ds) (i:=q) (by omega)]at this
   omega) (λo q p _ _ r1 r2=>by omega) _ p o hp ho rfl hO
 refine⟨h.1.symm,λp hp=>?_⟩
 have hl:=h.1
 rw[show ds.length=nsT.length by omega]at hp⊢
 refine ZiT hT (λq p hq hp hO=>?_) p hp
 have h1:=hup q p hq hp hO
 have h2:=Zku hT hp hq hO
 rw[Zaa (by omega),Zaa (by omega)]at h1
 exact⟨λ_=>by omega,λz=>by have:=h2.2 z;omega⟩
theorem ZoV (g:Nat->Int):∀(L:List Nat) (m:Int),(L.foldl (λm o=>max m (g o)) m=m\/∃o∈L,L.foldl (λm o=>max m (g o)) m=g o)/\m<=L.foldl (λm o=>max m (g o)) m/\∀o∈L,g o<=L.foldl (λm o=>max m (g o)) m
 |[],m=>⟨.inl rfl,Int.le_refl _,λo ho=>nomatch ho⟩
 |o::L,m=>by
  obtain⟨h1,h2,h3⟩:=ZoV g L (max m (g o))
  rw[List.foldl_cons]
  refine⟨?_,by omega,λq hq=>?_⟩
  ·rcases h1 with h1|⟨q,hq,e⟩
   ·by_cases c:m<=g o
    ·exact .inr ⟨o,List.mem_cons_self,by omega⟩
    ·exact .inl (by omega)
   ·exact .inr ⟨q,List.mem_cons_of_mem _ hq,e⟩
  ·rcases List.mem_cons.mp hq with rfl|hq
   ·omega
   ·exact h3 q hq
theorem due_ex (T ls:List Int):∃ds,Zbr T ls ds:=by
 refine⟨(List.range T.length).map λp=>(way T p).foldl (λm o=>max m (nth ls o+nth (Ze T) p-nth (Ze T) o)) (nth ls p),by simp,λp hp=>?_⟩
 have e:nth ((List.range T.length).map λp=>(way T p).foldl (λm o=>max m (nth ls o+nth (Ze T) p-nth (Ze T) o)) (nth ls p)) p=(way T p).foldl (λm o=>max m (nth ls o+nth (Ze T) p-nth (Ze T) o)) (nth ls p):=by
  show List.getD _ p 0=_
  rw[List.getD_eq_getElem?_getD,List.getElem?_map,List.getElem?_range hp];rfl
 obtain⟨h1,h2,h3⟩:=ZoV (λo=>nth ls o+nth (Ze T) p-nth (Ze T) o) (way T p) (nth ls p)
 rw[e]
 constructor
 ·rcases h1 with h1|⟨o,ho,h1⟩
  ·exact⟨p,List.mem_cons_self,by omega⟩
  ·exact⟨o,List.mem_cons_of_mem _ ho,h1⟩
 ·intro o ho
  rcases List.mem_cons.mp ho with rfl|ho
  ·omega
  ·exact h3 o ho
theorem ZkC {T ls gs ds:List Int}{a b:Int} (h:Zgk T ls gs a b) (hD:Zbr T ls ds):∃p,p<T.length/\¬ nth ds p<=nth gs p:=by
 obtain⟨a0,b0,a1,b1,z,h⟩:=h
 refine⟨b.toNat,by omega,?_⟩
 have:=(hD.2 b.toNat (by omega)).2 a.toNat (by
  rcases z with z|z
  ·rw[z];exact List.mem_cons_self
  ·rw[Z0]at z
   obtain⟨o,ho,e⟩:=List.mem_map.mp z
   rw[<-e,show((o:Nat):Int).toNat=o by omega]
   exact List.mem_cons_of_mem _ ho)
 omega
theorem ZlB {m j2:Nat}{r:List Nat}{P:Nat->Bool} (h:(List.range m).filter P=j2::r):j2<m/\P j2=true/\∀j,j<j2->P j=false:=by
 have h2:j2∈(List.range m).filter P:=by rw[h];exact List.mem_cons_self
 obtain⟨m1,m2⟩:=List.mem_filter.mp h2
 refine⟨List.mem_range.mp m1,m2,λj hj=>?_⟩
 cases hp:P j with
 |false=>rfl
 |true =>
  have hin:j∈(List.range m).filter P:=List.mem_filter.mpr ⟨List.mem_range.mpr (by have:=List.mem_range.mp m1;omega),hp⟩
  have hs:((List.range m).filter P).Pairwise (· < ·):=List.Pairwise.filter _ List.pairwise_lt_range
  rw[h]at hin hs
  rcases List.mem_cons.mp hin with e|hin
  ·omega
  ·have:=(List.pairwise_cons.mp hs).1 j hin
   omega
theorem Zr5 {T ls gs:List Int}{d1 d2:Td} (h1:ZkB T ls gs d1) (h2:ZkB T ls gs d2):d1=d2:=by
 cases d1 with
 |row e1 =>
  cases d2 with
  |row e2=>rw[h1.1.uniq h2.1]
  |clash a b =>
   obtain⟨p,hp,hn⟩:=ZkC h2.1 h1.1
   exact absurd (h1.2 p hp) hn
 |clash a b =>
  cases d2 with
  |row e2 =>
   obtain⟨p,hp,hn⟩:=ZkC h1.1 h2.1
   exact absurd (h2.2 p hp) hn
  |clash a' b' =>
   obtain⟨_,ds,i,j,hD,hC,rfl,rfl⟩:=h1
   obtain⟨_,ds',i',j',hD',hC',rfl,rfl⟩:=h2
   have ed:=hD'.uniq hD
   subst ed
   have ei:i=i':=by
    rcases Nat.lt_trichotomy i i' with z|z|z
    ·exact absurd (hC'.2.1 i z) hC.2.2.1
    ·exact z
    ·exact absurd (hC.2.1 i' z) hC'.2.2.1
   subst ei
   have ej:j=j':=by
    rcases Nat.lt_trichotomy j j' with z|z|z
    ·exact absurd hC.2.2.2.2.1 (hC'.2.2.2.2.2 j z)
    ·exact z
    ·exact absurd hC'.2.2.2.2.1 (hC.2.2.2.2.2 j' z)
   rw[ej]
theorem Zj9 {f:Addr}{fd:FuncData} (F:Fun K "from_below" "from_below" ZaR f fd) (ZT:Callee P w K mg base "way_up" 1 ["tree","place"] (Zbp K mg)) (L:ZnM K mg "from_below" f) (B:BM mg base) (T:Txt K mg):FnOk P w K mg base (CXE P w) 5 f fd ["tree"] (Zdx K mg):=by
 refine F.okL L B Zj5 (λvs H Q E h=>?_) (λcdv A outer s H vs Q E LI hr h=>?_)
 ·obtain⟨t,T,rfl,_⟩:=h;rfl
 obtain⟨t,T',rfl,ht,hG,hTb,k1⟩:=h
 refine⟨_,(Zi (Zu (ZpE (Nc:=["place","tree"]) (js:=[none,some 0]) (pn:="place") (q:=Zi2 "from_below") (P:=Zgi K mg "from_below") rfl hr ⟨rfl,rfl,rfl,rfl,rfl,rfl,rfl,λ_ _ _ _ _ _=>rfl⟩ (λ_ _ _ _ _ _=>(Zk (Zl (K:=K) rfl) rfl T.b_len PySem.boot_len (Za (Zg ZT ((hr.in1.in1.deeper _).mono (by decide)) rfl Zv (Za (pv 1) (Za (pv 0) Zb))) Zb))) rfl T.b_sorted (Za (Zhk rfl T.b_range (Za (Zk (Zl (K:=K) rfl) rfl T.b_len PySem.boot_len (Za (pv 0) Zb)) Zb)) Zb) (ZfN (ZnJ ⟨LI.code,LI.bm,LI.ql⟩ rfl) (ZfN Zcv ZkT))))),?_⟩
 walk_at "rd"
 have eL:(T'.map V.int).length=T'.length:=List.length_map ..
 have h40:=hG.1
 refine⟨_,.inr (SqT.of ht),by omega,by omega,λp1 hp1=>?_⟩
 rw[eL]
 have g1:=(Zh.refl H).ZM (o:=.rng 0 (T'.length:Int)) hp1
 have h1:=Zd (H:=H) (a:=p1) (o:=.rng 0 (T'.length:Int))
 generalize upd H p1 (.rng 0 (T'.length:Int))=H4 at g1 h1⊢
 refine⟨g1 _ _ hTb,λf1 H5 zf s5 LO=>⟨_,s5 _ _ h1,by omega,by omega,LO,dpI T',λi H6 i0 i1 s6=>?_,λps l H6 hpm hpw s6 zl hl=>k1 l ps H6 ((g1.trans s5).free zl) ((g1.trans s5).trans s6) hpm hpw hl⟩⟩
 obtain⟨j,rfl⟩:=Int.eq_ofNat_of_zero_le i0
 have g6:=(g1.trans s5).trans s6
 exact⟨t,T',j,rfl,.inr (SqT.of (g6 _ _ ht)),by omega,by omega,λw H7 zw s7 hw=>⟨w,rfl,_,.inl (SqL.of hw),by rw[List.length_map];rfl,s7⟩⟩
theorem ZpQ {f : Addr} {fd : FuncData} (F : Fun K "row_by" "row_by" ZdZ f fd)  (T : Txt K mg) : FnOk P w K mg base (CXE P w) 1 f fd ["flat", "heights"] (ZfR K mg) := by
  refine F.okX ZpJ (fun vs H Q E h => ?_) (fun cdv A outer s H vs Q E hr h => ?_)
  · obtain ⟨f, h, F, us, rfl, _⟩ := h; rfl
  obtain ⟨f, h, Fl, us, rfl, hf, hh, e, hn, k1⟩ := h
  refine ⟨_, (Zi (Zu (ZbM (ZdS (K := K) rfl) rfl T.b_tuple Zb6 (Za (Zah ["least", "height"] [none, none] rfl rfl rfl (Zli (K := K) rfl rfl T.b_zip (Za (pv 0) (Za (pv 1) Zb))) (fun _ _ _ _ _ => (ZfO (K := K) (n := 2) rfl rfl (ZJ (Zm (i := 0) (show (["least", "height"] : List Str).Nodup from by decide +kernel) rfl (Or.inl rfl)) (ZJ (Zm (i := 1) (show (["least", "height"] : List Str).Nodup from by decide +kernel) rfl (Or.inl rfl)) Zbv)))) (fun _ _ _ _ _ => ZK) (fun _ _ _ _ _ => (Zn Zaj (pv 0) (pv 1))) (ZdR (Z9 Zs (Z9 Zs ZdQ)))) Zb)))), ?_⟩
  walk_at "rd"
  obtain ⟨tg, hB⟩ := SqB.of (K := K) (H := H) (a := f) (xs := Fl.map V.int) (.inr (SqT.of hf))
  obtain ⟨tu, hB2⟩ := SqB.of (K := K) (H := H) (a := h) (xs := us.map V.int) (.inl (SqL.of hh))
  refine ⟨tg, tu, _, hB, _, hB2, ?_⟩
  refine comp_map (n := Fl.length) (fun i => V.int (nth Fl i + nth us i)) (Nat.lt_of_le_of_lt (show _ ≤ 1000 by omega) (by decide)) (fun i Hx s hi => ⟨_, _, _, _, s.ZeZ hB, s.ZeZ hB2, ZaE (by omega), ZaE (by omega)⟩) (fun Hx s => ⟨_, _, s.ZeZ hB, s.ZeZ hB2, .inl (by rw [List.length_map]; exact Nat.le_refl _)⟩) ?_ ?_
  · rintro i x Hx Hy hi s ⟨q, x, y, hq, rfl, rfl, hx, hy⟩
    have ex := hx _ (s.ZeZ hB)
    have ey := hy _ (s.ZeZ hB2)
    rw [ZaE (by omega)] at ex
    rw [ZaE (by omega)] at ey
    cases ex; cases ey
    walk_at "rd"
    exact ⟨_, SqT.of Zd, rfl, _, _, rfl, _, _, rfl, rfl, _, rfl, _, rfl, CW.next hi rfl (s.ZM hq)⟩
  · intro l Hx s hl
    have e1 : (List.range Fl.length).map (fun i => V.int (nth Fl i + nth us i)) = (Zhv Fl us).map V.int := by unfold Zhv; rw [List.map_map]; rfl
    rw [e1]
    exact ⟨l, rfl, _, .inl ⟨SqL.of Zd, fun q hq => k1 q _ ((s.ZM hl).ZM hq) Zd⟩⟩
theorem ZpR {f:Addr}{fd:FuncData} (F:Fun K "lifted" "lifted" Zd0 f fd) (Zex:Callee P w K mg base "from_below" 5 ["tree"] (Zdx K mg)) (T:Txt K mg):FnOk P w K mg base (CXE P w) 6 f fd ["tree","heights"] (ZfS K mg):=by
 refine F.okX Zhz (λvs H Q E h=>?_) (λcdv A outer s H vs Q E hr h=>?_)
 ·obtain⟨t,h,T,hs,rfl,_⟩:=h;rfl
 obtain⟨t,h,T',hs,rfl,ht,hh,hG,hl,hTb,k1⟩:=h
 refine⟨_,(Zc (Zq (i:=2) Zhz.nd rfl (Or.inl rfl) (ZbM (Znp (K:=K) rfl) rfl T.b_list Zoy (Za (pv 1) Zb)))
   (Zc (Zbw (ZcP PassesOwn.never rfl (ZaM (Zpe (K:=K) rfl (Zg Zex (hr.mono (by decide)) rfl Zv (Za (pv 0) Zb)) (Zok ZkQ Zf))) (Zm (i:=3) Zhz.nd rfl (Or.inl rfl)) (Zi (ZQ (Zo Zop (ZD ZaW (pv 0) (pv 3) (λ_ _=>rfl)) Zf (Zr _)) (Zi (Ze5 (Zk (Zhf rfl) rfl T.b_max ZiJ (Za (ZD Zy (pv 2) (pv 3) (λ_ _=>rfl)) (Za (ZD Zy (pv 2) (ZD ZaW (pv 0) (pv 3) (λ_ _=>rfl)) (λ_ _=>rfl)) Zb))) (ZiB (pv 2) (pv 3) set_list (λ_=>rfl)))) ZC))))
   (Zi (Zu (pv 2))))),?_⟩
 walk_at "rd"
 have eL:(T'.map V.int).length=T'.length:=List.length_map ..
 obtain⟨h40,nsT,hT⟩:=id hG
 have eT:=hT.1
 refine⟨_,.inl (SqL.of hh),λl zl=>?_⟩
 have g1:=(Zh.refl H).ZM (o:=.lst (hs.map V.int)) zl
 have h1:=Zd (H:=H) (a:=l) (o:=.lst (hs.map V.int))
 generalize upd H l (.lst (hs.map V.int))=H1 at g1 h1⊢
 refine⟨t,T',rfl,g1 _ _ ht,hG,Z6.same hTb g1,λq ps H2 zq s2 hpm hpw hq=>⟨q,rfl,_,SqL.of hq,λp zp=>?_⟩⟩
 have nlq:l≠q:=λz=>by rw[z,zq]at h1;cases h1
 have e2:(ps.map V.int).reverse=ps.reverse.map V.int:=(List.map_reverse ..).symm
 rw[e2]
 have hpm2:ps.reverse.Perm (nats (T'.length:Int)):=(List.reverse_perm ps).trans hpm
 have hpw2:ps.reverse.Pairwise λx y=>dpI T' x<=dpI T' y:=List.pairwise_reverse.mpr hpw
 generalize ps.reverse=qs at hpm2 hpw2⊢
 have g3:=s2.ZM (o:=.lst (qs.map V.int)) zp
 have h3:=Zd (H:=H2) (a:=p) (o:=.lst (qs.map V.int))
 have nlp:l≠p:=λz=>by rw[<-z,s2 _ _ h1]at zp;cases zp
 generalize upd H2 p (.lst (qs.map V.int))=H3 at g3 h3⊢
 have g13:=g1.trans g3
 refine⟨⟨_,SqL.of h3⟩,Zlg (n:=qs.length) (λi σ Hx=>∃(v3:Option V) (us:List Int),σ=[some (.ref t),some (.ref h),some (.ref l),v3]/\ZhB T' hs qs us i/\Hx l=some (.lst (us.map V.int))/\Hx p=some (.lst (qs.map V.int))/\Zh H Hx) ⟨none,hs,rfl,⟨hl,λp hp=>by rw[if_neg (λz=>by simpa using z.1)]⟩,g3 _ _ h1,h3,g13⟩ (λi σ Hx hi ⟨_,_,_,_,_,h,_⟩=>⟨_,_,SqL.of h,ZaE hi⟩) (fun σ Hx ⟨_,_,_,_,_,h,_⟩=>⟨_,SqL.of h,by rw[List.length_map];exact Nat.le_refl _⟩) ?_ ?_⟩
 ·rintro i x σ Hx Hx' hi ⟨v3,us,rfl,hL,hlx,hpx,sx⟩ ⟨rfl,hx⟩
  have e1:=hx _ (SqL.of hpx)
  rw[ZaE hi]at e1
  cases e1
  have eqi:qs[i]?=some (nth qs i):=by unfold nth;rw[List.getD_eq_getElem?_getD,List.getElem?_eq_getElem hi];rfl
  have mq:=hpm2.mem_iff.mp (ZfU hi)
  unfold nats at mq
  obtain⟨j,hj,ej⟩:=List.mem_map.mp mq
  have hj':=List.mem_range.mp hj
  have hj2:j<T'.length:=by omega
  rw[<-ej]at eqi⊢
  clear mq hx ej hj
  walk_at "rd"
  have eu:=hL.1
  refine⟨_,SqT.of (sx _ _ ht),_,ZI hj2,_,rfl,ZF (λc0=>?_) λc0=>?_⟩
  ·rcases ZA hT (p:=j) (by omega)with e|⟨k,e,hk,_,_⟩
   ·omega
   have hk2:k<T'.length:=by omega
   refine⟨_,SqL.of hlx,_,ZI (by omega),_,SqT.of (sx _ _ ht),_,ZI hj2,_,_,rfl,SqL.of hlx,_,by rw[e];exact ZI (by omega),_,rfl,_,rfl,_,hlx,j,by rw[List.length_map];exact Ziy (by omega),us.set j (max (nth us j) (nth us k)),ZpP hT hpm2 hpw2 hL eqi hj2 hk2 e,?_,by rw[Zj (Ne.symm nlp)];exact hpx,sx.upd zl⟩
   rw[Zd,List.map_set,show(if nth us k>nth us j then nth us k else nth us j)=max (nth us j) (nth us k) by split<;>omega]
  ·rcases ZA hT (p:=j) (by omega)with e|⟨k,e,hk,_,_⟩
   ·exact⟨us,ZpO hL eqi e,hlx,hpx,sx⟩
   ·omega
 ·rintro σ Hx ⟨v3,us,rfl,hL,hlx,hpx,sx⟩
  walk_at "rd"
  exact k1 l us Hx zl sx (Zr4 hpm2 hL) hlx
theorem ZpS {f:Addr}{fd:FuncData} (F:Fun K "fitted" "fitted" Zd1 f fd) (ZT:Callee P w K mg base "way_up" 1 ["tree","place"] (Zbp K mg)) (ZZ:Callee P w K mg base "flattest" 5 ["tree"] (Zbq K mg)) (ZG:Callee P w K mg base "heights_of" 1 ["flat","row"] (ZaH K mg)) (Zd6:Callee P w K mg base "row_by" 1 ["flat","heights"] (ZfR K mg)) (Zd7:Callee P w K mg base "lifted" 6 ["tree","heights"] (ZfS K mg)) (T:Txt K mg):FnOk P w K mg base (CXE P w) 7 f fd ["tree","least","greatest"] (Zhw K mg):=by
 refine F.okX Zbs (λvs H Q E h=>?_) (λcdv A outer s H vs Q E hr h=>?_)
 ·obtain⟨t,a,b,T,ls,gs,rfl,_⟩:=h;rfl
 obtain⟨t,a,b,T',ls,gs,rfl,ht,ha,hb,hG,l1,l2,hTb,k1⟩:=h
 refine⟨_,(Zc (Zq (i:=3) Zbs.nd rfl (Or.inl rfl) (Zg ZZ (hr.mono (by decide)) rfl Zaw (Za (pv 0) Zb)))
   (Zc (Zq (i:=4) Zbs.nd rfl (Or.inr rfl) (Zg ZG (hr.mono (by decide)) rfl Zaw (Za (pv 3) (Za (pv 1) Zb))))
   (Zc (Zq (i:=5) Zbs.nd rfl (Or.inl rfl) (Zg ZG (hr.mono (by decide)) rfl Zaw (Za (pv 3) (Za (pv 2) Zb))))
   (Zc (Zq (i:=6) Zbs.nd rfl (Or.inl rfl) (Zg Zd7 (hr.mono (by decide)) rfl Zv (Za (pv 0) (Za (pv 4) Zb))))
   (Zc (Zbw (ZcP PassesOwn.never rfl (Zlc (K:=K) rfl rfl T.b_enumerate (Za (pv 6) Zb)) (Zhe (n:=2) rfl (ZJ (Zm (i:=7) Zbs.nd rfl (Or.inl rfl)) (ZJ (Zm (i:=8) Zbs.nd rfl (Or.inr rfl)) Zbv))) (Zi (ZQ (Zo ZeQ (pv 8) (ZD Zy (pv 5) (pv 7) (λ_ _=>rfl)) (Zr _)) (Zc (Za0 (i:=9) ["a","height","floors"] [none,some 8,some 4] Zbs.nd rfl (Or.inl rfl) rfl rfl rfl (ZaM (Zn (Zlk (K:=K) rfl) (Zdt (Za (pv 7) Zb)) (Zg ZT (hr.mono (by decide)) rfl Zv (Za (pv 0) (Za (pv 7) Zb))))) (λ_ _ _ _ _=>(Zm (i:=0) (show(["a","height","floors"]:List Str).Nodup from by decide +kernel) rfl (Or.inl rfl))) (λ_ _ _ _ _=>ZgH (Zo Zbg (ZD (r:=ZkW K) Zy (pv 2) (pv 0) (λ_ _=>rfl)) (pv 1) (Zr _))) (λ_ _ _ _ _=>(pv 0)) Zs)
   (Zi (Zu (Zds (Za Zgc (Za (ZD Zy (pv 9) Zf (λ_ _=>rfl)) (Za (pv 7) Zb))))))) ZC))))
   (Zi (Zu (Zds (Za Zgc (Za (Zg Zd6 (hr.mono (by decide)) rfl Zv (Za (pv 3) (Za (pv 6) Zb))) Zb)))))))))),?_⟩
 walk_at "rd"
 have eF:(Ze T').length=T'.length:=ZY T'
 obtain⟨h40,nsT,hT⟩:=id hG
 have eT:=hT.1
 refine⟨t,T',rfl,ht,by omega,λ_ f H1 s1 hf=>⟨f,a,Ze T',ls,rfl,hf,s1.q ha,by omega,by omega,λ_ fo H2 zfo s2 hfo=>⟨f,b,Ze T',gs,rfl,s2 _ _ hf,(s1.trans s2).q hb,by omega,by omega,λ_ ro H3 zro s3 hro=>?_,λz=>absurd (by omega) z⟩,λz=>absurd (by omega) z⟩,λz=>absurd hG z⟩
 have s03:=(s1.trans s2).trans s3
 have hf3:=(s2.trans s3) _ _ hf
 have hfo3:=s3 _ _ hfo
 have ht3:=s03 _ _ ht
 refine⟨t,fo,T',_,rfl,ht3,hfo3,hG,by rw[Zcz];omega,Z6.same hTb s03,λnd us H4 znd s4 hL hnd=>⟨nd,rfl,_,SqL.of hnd,?_⟩⟩
 have s04:=s03.trans s4
 have hf4:=s4 _ _ hf3
 have hfo4:=s4 _ _ hfo3
 have hro4:=s4 _ _ hro
 obtain⟨hD,hDn⟩:=ZmC hG l1 hL
 have eu:=hL.1
 have efl:(hgt (Ze T') ls).length=T'.length:=by rw[Zcz];exact eF
 have erf:(hgt (Ze T') gs).length=T'.length:=by rw[Zcz];exact eF
 refine Zlg (n:=T'.length) (λi σ Hx=>∃v7 v8:Option V,σ=[some (.ref t),some (.ref a),some (.ref b),some (.ref f),some (.ref fo),some (.ref ro),some (.ref nd),v7,v8,none]/\Zh H4 Hx/\∀p,p<i->nth us p<=nth (hgt (Ze T') gs) p) ⟨none,none,rfl,Zh.refl H4,λp hp=>absurd hp (by omega)⟩ (λi σ Hx hi ⟨_,_,_,sx,_⟩=>⟨_,_,SqL.of (sx _ _ hnd),ZaE (by omega)⟩) (fun σ Hx ⟨_,_,_,sx,_⟩=>⟨_,SqL.of (sx _ _ hnd),by rw[List.length_map];omega⟩) ?_ ?_
 ·rintro i x σ Hx Hx' hi ⟨v7,v8,rfl,sx,hle⟩ ⟨q,x,hq,rfl,rfl,hx⟩
  have ex:=hx _ (SqL.of (sx _ _ hnd))
  rw[ZaE (by omega)]at ex
  cases ex
  replace sx:=sx.ZM (o:=.tup [.int (i:Int),.int (nth us i)]) hq
  have tq:(upd Hx q (.tup [.int (i:Int),.int (nth us i)])) q=some (.tup [.int (i:Int),.int (nth us i)]):=Zd
  generalize upd Hx q (.tup [.int (i:Int),.int (nth us i)])=Hy at sx tq⊢
  walk_at "rd"
  refine⟨_,SqT.of tq,rfl,_,_,rfl,_,_,rfl,rfl,_,_,rfl,SqL.of (sx _ _ hro4),_,ZI (by omega),_,rfl,_,rfl,ZF (λc=>⟨by decide,λp1 hp1=>?_⟩) λc=>⟨sx,λp hp=>?_⟩⟩
  ·have g1:=(Zh.refl Hy).ZM (o:=.lst [V.int (i:Int)]) hp1
   have h1:=Zd (H:=Hy) (a:=p1) (o:=.lst [V.int (i:Int)])
   generalize upd Hy p1 (.lst [V.int (i:Int)])=Hz at g1 h1⊢
   refine⟨t,T',i,rfl,.inr (SqT.of (g1 _ _ (sx _ _ (s4 _ _ ht3)))),by omega,hi,λw H5 zw s5 hw=>⟨w,rfl,_,SqL.of (s5 _ _ h1),_,SqL.of hw,?_,λp2 hp2=>?_⟩⟩
   ·have:=ZdT T' T'.length (nth T' i)
    rw[Zak,List.length_map,List.length_map]
    exact Nat.le_trans (show _<=1000 by simp only[List.length_cons,List.length_nil];omega) (by decide)
   have eW:[V.int (i:Int)]++(Zak T' i).map V.int=((i::way T' i).map λ(q:Nat)=>(q:Int)).map V.int:=by rw[Z0];rfl
   rw[eW]
   have g2:=(g1.trans s5).ZM (o:=.lst (((i::way T' i).map λ(q:Nat)=>(q:Int)).map V.int)) hp2
   have h2:=Zd (H:=H5) (a:=p2) (o:=.lst (((i::way T' i).map λ(q:Nat)=>(q:Int)).map V.int))
   generalize upd H5 p2 (.lst (((i::way T' i).map λ(q:Nat)=>(q:Int)).map V.int))=H6 at g2 h2⊢
   have hW:∀o∈i::way T' i,o<T'.length:=λo ho=>by
    rcases List.mem_cons.mp ho with rfl|ho
    ·exact hi
    ·have:=((Zbz hT (by omega)).mp ho).1;omega
   have hWl:(i::way T' i).length<=1000:=by
    have:=ZdT T' T'.length (nth T' i)
    unfold way
    rw[List.length_cons];omega
   obtain⟨⟨o1,ho1,e1⟩,_⟩:=hD.2 i hi
   rw[hDn i hi]at e1
   have hcl:∀o∈i::way T' i,nth (hgt (Ze T') ls) o=nth us i->Zgk T' ls gs (o:Int) (i:Int):=λo ho e=>by
    have hoT:=hW o ho
    rw[ZE (by omega)]at e c
    unfold Zgk
    simp only[Int.toNat_natCast]
    refine⟨by omega,by omega,by omega,by omega,?_,by omega⟩
    rcases List.mem_cons.mp ho with rfl|ho
    ·exact .inl rfl
    ·exact .inr (by rw[Z0];exact List.mem_map.mpr ⟨o,ho,rfl⟩)
   have ho1':nth (hgt (Ze T') ls) o1=nth us i:=by rw[ZE (by have:=hW o1 ho1;omega)];omega
   generalize hWg:i::way T' i=W at h2 hW hWl hcl ho1⊢
   refine⟨⟨_,SqL.of h2⟩,Zhn (n:=W.length) (λj=>decide (nth (hgt (Ze T') ls) (W.getD j 0)=nth us i)) (λj=>V.int ((W.getD j 0:Nat):Int)) (Nat.lt_of_le_of_lt hWl (by decide)) (λj Hz s hj=>⟨_,_,SqL.of (s _ _ h2),List.getElem?_eq_getElem (by simpa using hj)⟩) (λHz s=>⟨_,SqL.of (s _ _ h2),by simp⟩) ?_ ?_⟩
   ·rintro j x Hz Hw hj sz ⟨rfl,hx⟩
    have ex:=hx _ (SqL.of (sz _ _ h2))
    have eo:(((W.map λ(q:Nat)=>(q:Int)).map V.int))[j]?=some (V.int ((W.getD j 0:Nat):Int)):=by simp[List.getD_eq_getElem?_getD,hj]
    rw[eo]at ex
    cases ex
    have ho:=hW _ (show W.getD j 0∈W by rw[List.getD_eq_getElem?_getD,List.getElem?_eq_getElem hj];exact List.getElem_mem hj)
    walk_at "rd"
    exact⟨_,SqL.of ((g2.trans sz) _ _ (sx _ _ hfo4)),_,ZI (by omega),rfl,ZF (λh=>CF.take hj (decide_eq_true (by simpa using h)) rfl sz) (λh=>CF.skip hj (decide_eq_false (by simpa using h)) sz)⟩
   ·intro lf Hz sz hlf
    have hmem:∃(j2:Nat) (os:List V),(((List.range W.length).filter λj=>decide (nth (hgt (Ze T') ls) (W.getD j 0)=nth us i)).map λj=>V.int ((W.getD j 0:Nat):Int))=V.int ((W.getD j2 0:Nat):Int)::os/\j2<W.length/\nth (hgt (Ze T') ls) (W.getD j2 0)=nth us i/\∀j',j'<j2->nth (hgt (Ze T') ls) (W.getD j' 0)≠nth us i:=by
     obtain⟨j1,hj1,ej1⟩:=List.getElem_of_mem ho1
     have hin:j1∈(List.range W.length).filter λj=>decide (nth (hgt (Ze T') ls) (W.getD j 0)=nth us i):=List.mem_filter.mpr ⟨List.mem_range.mpr hj1,by
      rw[List.getD_eq_getElem?_getD,List.getElem?_eq_getElem hj1]
      simpa[ej1]using ho1'⟩
     cases hf:(List.range W.length).filter λj=>decide (nth (hgt (Ze T') ls) (W.getD j 0)=nth us i)with
     |nil=>rw[hf]at hin;cases hin
     |cons j2 r =>
      obtain⟨m1,m2,m3⟩:=ZlB hf
      exact⟨j2,_,rfl,m1,of_decide_eq_true m2,λj' hj'=>of_decide_eq_false (m3 j' hj')⟩
    obtain⟨j2,os,eos,hj2,hoe,hfst⟩:=hmem
    have hoW:W.getD j2 0∈W:=by rw[List.getD_eq_getElem?_getD,List.getElem?_eq_getElem hj2];exact List.getElem_mem _
    rw[eos]
    have g3:=(g2.trans sz).ZM (o:=.lst (V.int ((W.getD j2 0:Nat):Int)::os)) hlf
    have eus:nth us i=nth (Zhv (Ze T') us) i-nth (Ze T') i:=by rw[hDn i hi];omega
    refine⟨lf,rfl,_,SqL.of Zd,V.int ((W.getD j2 0:Nat):Int),atI_hd,by decide,λcc zc=>k1 cc (.clash ((W.getD j2 0:Nat):Int) (i:Int)) _ (((s04.trans sx).trans g3).ZM zc) Zd ⟨hcl _ hoW hoe,Zhv (Ze T') us,i,j2,hD,⟨hi,λp hp=>?_,?_,by rw[hWg];exact hj2,by rw[hWg,<-eus];exact hoe,λj' hj'=>by rw[hWg,<-eus];exact hfst j' hj'⟩,by rw[hWg],rfl⟩⟩
    ·have:=hle p hp
     rw[ZE (by omega)]at this
     rw[hDn p (by omega)];omega
    ·rw[hDn i hi]
     rw[ZE (by omega)]at c
     omega
  ·by_cases z:p<i
   ·exact hle p z
   ·have:p=i:=by omega
    subst this
    omega
 ·rintro σ Hx ⟨v7,v8,rfl,sx,hle⟩
  walk_at "rd"
  refine⟨f,nd,Ze T',us,rfl,sx _ _ hf4,sx _ _ hnd,by omega,by omega,λr H5 s5 hr5=>⟨by decide,λc zc=>?_⟩⟩
  have g6:=(Zh.refl H5).upd (o:=.tup [V.str (Str.ofString "row"),V.ref r]) zc
  refine k1 c (.row (Zhv (Ze T') us)) _ (((s04.trans sx).trans s5).trans g6) ⟨by rw[ZmA];omega,r,Zd,g6 _ _ hr5⟩ ⟨hD,λp hp=>?_⟩
  have:=hle p hp
  rw[ZE (by omega)]at this
  rw[hDn p hp]
  omega
theorem ZoW {T us:List Int} (hG:ZO T) (hl:us.length=T.length) (h:∀p q:Nat,p<T.length->nth T p=q->nth us q-nth (Ze T) q<=nth us p-nth (Ze T) p):Zw us T:=by
 obtain⟨_,nsT,hT⟩:=hG
 have eT:=hT.1
 have hup:∀o p,o<nsT.length->p<nsT.length->Over (nth nsT) o p->nth us o-nth (Ze T) o<=nth us p-nth (Ze T) p:=λo p ho hp hO =>
  ZgQ hT (R:=λo p=>nth us o-nth (Ze T) o<=nth us p-nth (Ze T) p) (λp q hp hq e _=>h p q (by omega) e) (λo q p _ _ r1 r2=>by omega) _ p o hp ho rfl hO
 refine⟨hl.symm,λp hp=>?_⟩
 rw[show us.length=nsT.length by omega]at hp⊢
 refine ZiT hT (λq p hq hp hO=>?_) p hp
 have h1:=hup q p hq hp hO
 have h2:=Zku hT hp hq hO
 rw[Zaa (by omega),Zaa (by omega)]at h1
 exact⟨λ_=>by omega,λz=>by have:=h2.2 z;omega⟩
noncomputable def ZkD (T:List Int) (C:Int) (qs ini us:List Int) (i:Nat):Prop:=us.length=T.length/\∀p:Nat,p<T.length->(((p:Int)∈qs.take i/\nth T p≠-1)->∃m,0<=m/\m<=2*C/\nth us p=nth us (nth T p).toNat+(nth (Ze T) p-nth (Ze T) (nth T p).toNat)+m)/\(¬ ((p:Int)∈qs.take i/\nth T p≠-1)->nth us p=nth ini p)
theorem Zr6 {T ini qs us:List Int}{C:Int}{i j:Nat} (h:ZkD T C qs ini us i) (e:qs[i]?=some (j:Int)) (ht:nth T j=-1):ZkD T C qs ini us (i+1):=by
 refine⟨h.1,λp hp=>?_⟩
 by_cases c:p=j
 ·subst c
  exact⟨λz=>absurd ht z.2,λ_=>(h.2 p hp).2 λz=>z.2 ht⟩
 ·have:(p:Int)∈qs.take (i+1)↔(p:Int)∈qs.take i:=by rw[ZcM e];exact⟨λz=>z.elim id λy=>absurd (by omega) c,.inl⟩
  rw[this]
  exact h.2 p hp
theorem ZmD {ns T ini qs us:List Int}{C m:Int}{i j k:Nat} (hT:Zw ns T) (hpm:qs.Perm (nats (T.length:Int))) (hpw:qs.Pairwise λx y=>dpI T x<=dpI T y) (h:ZkD T C qs ini us i) (e:qs[i]?=some (j:Int)) (hj:j<T.length) (hk:k<T.length) (ht:nth T j=k) (m0:0<=m) (m1:m<=2*C):nth us j=nth ini j/\ZkD T C qs ini (us.set j (nth us k+(nth (Ze T) j-nth (Ze T) k+m))) (i+1):=by
 have eT:=hT.1
 have hkj:k≠j:=λz=>by
  have:=ZhC hT (p:=j) (by omega) ht
  rw[z]at this;omega
 have nj:(j:Int)∉qs.take i:=λz=>by
  have nd:qs.Nodup:=hpm.nodup_iff.mpr (Zjd _)
  obtain⟨m,hm,em⟩:=List.mem_take_iff_getElem.mp z
  obtain⟨hi,ei⟩:=List.getElem?_eq_some_iff.mp e
  have:=(List.getElem_inj nd (h₀:=by omega) (h₁:=hi)).mp (em.trans ei.symm)
  omega
 refine⟨(h.2 j hj).2 λz=>nj z.1,by rw[List.length_set];exact h.1,λp hp=>?_⟩
 by_cases c:p=j
 ·subst c
  refine⟨λ_=>⟨m,m0,m1,?_⟩,λz=>absurd ⟨(ZcM e).mpr (.inr rfl),by omega⟩ z⟩
  rw[ZmB (by rw[h.1];exact hp),ht,show((k:Nat):Int).toNat=k by omega,Zd4 hkj]
  omega
 ·have:(p:Int)∈qs.take (i+1)↔(p:Int)∈qs.take i:=by rw[ZcM e];exact⟨λz=>z.elim id λy=>absurd (by omega) c,.inl⟩
  rw[this,Zd4 c]
  refine⟨λy=>?_,(h.2 p hp).2⟩
  obtain⟨m',a0,a1,e'⟩:=(h.2 p hp).1 y
  refine⟨m',a0,a1,?_⟩
  rcases ZA hT (p:=p) (by omega)with z|⟨q,ez,hq,_,_⟩
  ·exact absurd z y.2
  ·rw[ez,show((q:Nat):Int).toNat=q by omega]at e'⊢
   rw[Zd4 (λz=>?_)]
   ·exact e'
   ·subst z
    exact nj ((Zh4 hT hpm hpw hp (by omega) ez).2 y.1)
theorem Zr7 {T ini qs us:List Int}{C:Int} (hG:ZO T) (hC:0<=C) (hpm:qs.Perm (nats (T.length:Int))) (h:ZkD T C qs ini us qs.length) (hb:∀p,p<T.length->-C<=nth ini p/\nth ini p<=C):Zw us T/\∀p,p<T.length->-C<=nth us p/\nth us p<=C+41*(2*C+1):=by
 obtain⟨h40,nsT,hT⟩:=id hG
 have eT:=hT.1
 have el:∀p q:Nat,p<T.length->nth T p=q->∃m,0<=m/\m<=2*C/\nth us p=nth us q+(nth (Ze T) p-nth (Ze T) q)+m:=λp q hp e=>by
  have mq:(p:Int)∈qs:=hpm.mem_iff.mpr (List.mem_map.mpr ⟨p,List.mem_range.mpr (by omega),rfl⟩)
  have:=(h.2 p hp).1 ⟨by rw[List.take_length];exact mq,by omega⟩
  rw[e,show((q:Nat):Int).toNat=q by omega]at this
  exact this
 refine⟨ZoW hG h.1 λp q hp e=>?_,?_⟩
 ·obtain⟨m,m0,_,e2⟩:=el p q hp e
  omega
 ·have key:∀d p,p<T.length->dep (nth nsT) nsT.length p=d->-C<=nth us p/\nth us p<=C+(d:Int)*(2*C+1):=by
   intro d
   induction d with
   |zero =>
    intro p hp hd
    rcases ZA hT (p:=p) (by omega)with z|⟨q,e,hq,_,e5⟩
    ·have:=hb p hp
     rw[(h.2 p hp).2 λy=>y.2 z]
     omega
    ·omega
   |succ d ih =>
    intro p hp hd
    rcases ZA hT (p:=p) (by omega)with z|⟨q,e,hq,hO,e5⟩
    ·have:=hb p hp
     rw[(h.2 p hp).2 λy=>y.2 z]
     have hm:(0:Int)<=((d+1:Nat):Int)*(2*C+1):=Int.mul_nonneg (by omega) (by omega)
     omega
    ·obtain⟨m,m0,m1,e2⟩:=el p q hp e
     have:=ih q (by omega) (by omega)
     have hfs:=Zho hT (p:=p) (q:=q) (by omega) hq e hO
     rw[Zaa hp,Zaa (by omega)]at e2
     have hx:((d+1:Nat):Int)*(2*C+1)=(d:Int)*(2*C+1)+(2*C+1):=by
      rw[show((d+1:Nat):Int)=(d:Int)+1 by omega,Int.add_mul];omega
     rw[hx]
     split at hfs<;>omega
  intro p hp
  have h1:=key _ p hp rfl
  have hd:dep (nth nsT) nsT.length p<nsT.length:=ZiQ (by omega)
  have h2:((dep (nth nsT) nsT.length p:Nat):Int)*(2*C+1)<=41*(2*C+1):=Int.mul_le_mul_of_nonneg_right (by omega) (by omega)
  omega
theorem Zr8 {T rs:List Int} (hG:ZO T) (hr:Zw rs T):Zbr T rs rs:=by
 have eT:=hr.1
 have eF:(Ze T).length=T.length:=ZY T
 refine(Zfj hG eT.symm).mpr λp hp=>?_
 rcases ZA hr (p:=p) (by omega)with z|⟨q,e,hq,hO,_⟩
 ·rw[if_pos z]
 ·rw[if_neg (by omega),e,show((q:Nat):Int).toNat=q by omega,ZE (by omega),ZE (by omega)]
  have:=Zlh hr (p:=p) (o:=q) (by omega) hq hO
  rw[Zaa hp,Zaa (by omega)]
  omega
theorem Zr9 {T ls ds:List Int} (h:Zbr T ls ds):∀p,p<T.length->nth ls p<=nth ds p:=λp hp=>by
 have:=(h.2 p hp).2 p List.mem_cons_self
 omega
noncomputable def CB:Int:=3*10 ^ 57
theorem CB3:(3:Int)<=CB:=by decide
theorem CB_KB:CB+41*(2*CB+1)<=KB/\CB<=KB:=by decide
theorem cb_mul {x:Int} (h1:-3<=x) (h2:x<=3):-CB<=x*10 ^ 57/\x*10 ^ 57<=CB:=by
 have a:=Int.mul_le_mul_of_nonneg_right h2 (show(0:Int)<=10 ^ 57 by decide)
 have b:=Int.mul_le_mul_of_nonneg_right h1 (show(0:Int)<=10 ^ 57 by decide)
 rw[Int.neg_mul]at b
 exact⟨b,a⟩
theorem ZtK {ns:List Int}{q:Int} (h:q∈ns):∃j,j<ns.length/\nth ns j=q:=by
 obtain⟨j,hj,e⟩:=List.getElem_of_mem h
 exact⟨j,hj,by unfold nth;rw[List.getD_eq_getElem?_getD,List.getElem?_eq_getElem hj];exact e⟩
theorem Zim {f:Addr}{fd:FuncData} (F:Fun K "_law_kin_row" "_law_kin_row" Zar f fd) (Zp:Callee P w K mg base "_law_take" 1 ["pot","many"] (Zaz K mg)) (Zbt:Callee P w K mg base "_law_over" 1 ["tree","place"] (Zcx K mg)) (Zfl:Callee P w K mg base "_law_flat" 2 ["tree"] (Zep K mg)) (L:ZnM K mg "_law_kin_row" f) (B:BM mg base) (T:Txt K mg):FnOk P w K mg base (CXE P w) 5 f fd ["pot","tree"] (Za3 K mg):=by
 refine F.okL L B ZR (λvs H Q E h=>?_) (λcdv A outer s H vs Q E LI hr h=>?_)
 ·obtain⟨p,t,T,rfl,_⟩:=h;rfl
 obtain⟨p,t,T',rfl,hP,ht,hG,hTb,k1⟩:=h
 refine⟨_,(Zc (Zq (i:=2) ZR.nd rfl (Or.inl rfl) (Zg Zfl (hr.mono (by decide)) rfl Zv (Za (pv 1) Zb)))
   (Zc (Za0 (i:=3) ["place","pot"] [none,some 0] ZR.nd rfl (Or.inl rfl) rfl rfl rfl (pi_tup (pv 1)) (λ_ _ _ _ _=>(Zm (i:=0) (show(["place","pot"]:List Str).Nodup from by decide +kernel) rfl (Or.inl rfl))) (λ_ _ _ _ _=>ZK) (λ_ _ _ _ _=>(Zn ZS (Zg Zp (hr.mono (by decide)) rfl Zv (Za (pv 1) (Za Zf Zb))) Zf)) Zs)
   (Zc (ZQ (Zo Zbg (Zg Zp (hr.mono (by decide)) rfl Zv (Za (pv 0) (Za Zf Zb))) Zf (Zr _)) (Zi (Za0 (i:=3) ["number"] [none] ZR.nd rfl (Or.inl rfl) rfl rfl rfl (ZaM (pv 3)) (λ_ _ _ _ _=>(Zm (i:=0) (show(["number"]:List Str).Nodup from by decide +kernel) rfl (Or.inl rfl))) (λ_ _ _ _ _=>ZK) (λ_ _ _ _ _=>(Zn Zax (pv 0) (Zn Zeb Zf Zf))) Zs)) ZC)
   (Zc (Zbw (ZcP PassesOwn.never rfl (ZaM (ZpD (Nc:=["place","tree"]) (js:=[none,some 1]) (pn:="place") (q:=Zi2 "_law_kin_row") (P:=Zgi K mg "_law_kin_row") rfl hr ⟨rfl,rfl,rfl,rfl,rfl,rfl,rfl,λ_ _ _ _ _ _=>rfl⟩ (λ_ _ _ _ _ _=>(Zk (Zl (K:=K) rfl) rfl T.b_len PySem.boot_len (Za (Zg Zbt ((hr.in1.in1.deeper _).mono (by decide)) rfl Zv (Za (pv 1) (Za (pv 0) Zb))) Zb))) rfl T.b_sorted (Za (Zhk rfl T.b_range (Za (Zk (Zl (K:=K) rfl) rfl T.b_len PySem.boot_len (Za (pv 1) Zb)) Zb)) Zb) (ZfN (ZnJ ⟨LI.code,LI.bm,LI.ql⟩ rfl) ZkT))) (Zm (i:=4) ZR.nd rfl (Or.inl rfl)) (Zc (Zq (i:=5) ZR.nd rfl (Or.inl rfl) (ZD ZaW (pv 1) (pv 4) (λ_ _=>rfl)))
   (Zi (ZQ (Zo Zop (pv 5) Zf (Zr _)) (Zc (Zq (i:=6) ZR.nd rfl (Or.inl rfl) (Zn ZS (ZD Zy (pv 2) (pv 4) (λ_ _=>rfl)) (ZD Zy (pv 2) (pv 5) (λ_ _=>rfl))))
   (Zc (Zq (i:=6) ZR.nd rfl (Or.inl rfl) (Zn Zaj (pv 6) (Zn Zax (Zg Zp (hr.mono (by decide)) rfl Zv (Za (pv 0) (Za Zf Zb))) (Zk ZiE rfl T.b_abs ZnA (Za (ZD Zy (pv 3) (pv 4) (λ_ _=>rfl)) Zb)))))
   (Zi (Ze5 (Zn Zaj (ZD Zy (pv 3) (pv 5) (λ_ _=>rfl)) (pv 6)) (ZiB (pv 3) (pv 4) set_list (λ_=>rfl)))))) ZC)))))
   (Zi (Zu (pv 3))))))),?_⟩
 have eL:(T'.map V.int).length=T'.length:=List.length_map ..
 have eF:(Ze T').length=T'.length:=ZY T'
 obtain⟨h40,nsT,hT⟩:=id hG
 have eT:=hT.1
 have npt:t≠p:=Zet hP ht
 refine ZaX (fun σ Hx=>∃fl:Addr,σ=[some (.ref p),some (.ref t),some (.ref fl),none,none,none,none]/\H fl=none/\Zh H Hx/\Hx fl=some (.lst ((Ze T').map V.int))) (λR hR=>?_) ?_
 ·walk_at "rd"
  exact⟨t,T',rfl,ht,by omega,λq hq=>ZiW hT hq,λfl H1 zfl s1 hfl=>hR _ _ ⟨fl,rfl,zfl,s1,hfl⟩⟩
 rintro σ H1 ⟨fl,rfl,zfl,s1,hfl⟩
 refine ZaX (fun σ Hx=>∃(r:Addr) (ns:List Int),σ=[some (.ref p),some (.ref t),some (.ref fl),some (.ref r),none,none,none]/\H r=none/\r≠fl/\ns.length=T'.length/\(∀q∈ns,-3<=q/\q<=3)/\Zz Hx p/\Exc p H Hx/\Hx fl=some (.lst ((Ze T').map V.int))/\Hx r=some (.lst (ns.map V.int))) (λR hR=>?_) ?_
 ·walk_at "rd"
  have nfp:fl≠p:=hP.ne zfl
  refine⟨⟨_,SqT.of (s1 _ _ ht)⟩,ZgK (n:=T'.length) (λj acc Hz=>∃bs:List Int,acc=bs.map V.int/\bs.length=j/\(∀q∈bs,-3<=q/\q<=3)/\Zz Hz p/\Exc p H1 Hz) (Nat.lt_of_le_of_lt (show _<=1000 by omega) (by decide)) ⟨[],rfl,rfl,(λq hq=>nomatch hq),hP.same s1,(Zh.refl H1).ZhY⟩ (λj acc Hz ⟨_,_,_,_,_,e⟩ hj=>⟨_,_,SqT.of (e _ _ npt (s1 _ _ ht)),ZaE hj⟩) (λacc Hz ⟨_,_,_,_,_,e⟩=>⟨_,SqT.of (e _ _ npt (s1 _ _ ht)),Nat.le_of_eq eL⟩) ?_ ?_⟩
  ·rintro j x acc Hz Hw hj hla ⟨bs,rfl,hbs,hbb,Pz,ez⟩ ⟨rfl,hx⟩
   walk_at "rd"
   refine⟨p,_,rfl,by decide,by decide,Pz,λz H4 z0 z1 P4 e4=>⟨z,rfl,CA.take hj hla ⟨bs++[z-3],by simp,by simp[hbs],λq hq=>?_,P4,ez.trans e4⟩⟩⟩
   rcases List.mem_append.mp hq with hq|hq
   ·exact hbb q hq
   ·have:q=z-3:=by simpa using hq
    omega
  ·rintro r acc Hz ⟨bs,rfl,hbs,hbb,Pz,ez⟩ _ hr
   have zr1:H1 r=none:=ez.free (Pz.ne hr) hr
   exact hR _ _ ⟨r,bs,rfl,s1.free zr1,(λz=>by rw[z,hfl]at zr1;cases zr1),hbs,hbb,Pz.upd hr,(s1.ZhY.trans ez).same ((Zh.refl Hz).upd hr),((Zh.refl Hz).upd hr) _ _ (ez _ _ nfp hfl),Zd⟩
 rintro σ H2 ⟨r,ns,rfl,zr,nrf,hnl,hnb,P2,e2,hfl2,hr2⟩
 refine ZaX (fun σ Hx=>∃(r:Addr) (ns:List Int),σ=[some (.ref p),some (.ref t),some (.ref fl),some (.ref r),none,none,none]/\H r=none/\r≠fl/\ns.length=T'.length/\(∀q∈ns,-CB<=q/\q<=CB)/\Zz Hx p/\Exc p H Hx/\Hx fl=some (.lst ((Ze T').map V.int))/\Hx r=some (.lst (ns.map V.int))) (λR hR=>?_) ?_
 ·walk_at "rd"
  have nfp:fl≠p:=hP.ne zfl
  have nrp:r≠p:=hP.ne zr
  refine⟨p,_,rfl,by decide,by decide,P2,λd H3 d0 d1 P3 e3=>⟨rfl,ZF (λz=>?_) λz=>hR _ _ ⟨r,ns,rfl,zr,nrf,hnl,(λq hq=>by have:=hnb q hq;have:=CB3;omega),P3,e2.trans e3,e3 _ _ nfp hfl2,e3 _ _ nrp hr2⟩⟩⟩
  have hr3:=e3 _ _ nrp hr2
  refine⟨⟨_,SqL.of hr3⟩,comp_map (n:=T'.length) (λj=>V.int (nth ns j*10 ^ 57)) (Nat.lt_of_le_of_lt (show _<=1000 by omega) (by decide)) (λj Hz s hj=>⟨_,_,SqL.of (s _ _ hr3),ZaE (by omega)⟩) (λHz s=>⟨_,SqL.of (s _ _ hr3),by rw[List.length_map];omega⟩) ?_ ?_⟩
  ·rintro j x Hz Hw hj sz ⟨rfl,hx⟩
   have ex:=hx _ (SqL.of (sz _ _ hr3))
   rw[ZaE (by omega)]at ex
   cases ex
   walk_at "rd"
   have hb:=hnb _ (ZfU (ns:=ns) (i:=j) (by omega))
   exact⟨by unfold ZlU;decide,Zfa (by omega) (by omega),CW.next hj rfl sz⟩
  ·intro l Hz sz hl
   have e23:=(e2.trans e3).same (sz.ZM (o:=.lst ((List.range T'.length).map λj=>V.int (nth ns j*10 ^ 57))) hl)
   refine hR _ _ ⟨l,(List.range T'.length).map λj=>nth ns j*10 ^ 57,rfl,(e2.trans e3).free ((P3.same sz).ne hl) (sz.free hl),(λz=>?_),by simp,(λq hq=>?_),(P3.same sz).upd hl,e23,(sz.ZM hl) _ _ (e3 _ _ nfp hfl2),by rw[Zd,List.map_map];rfl⟩
   ·rw[z,sz _ _ (e3 _ _ nfp hfl2)]at hl;cases hl
   ·obtain⟨j,hj,rfl⟩:=List.mem_map.mp hq
    have hb:=hnb _ (ZfU (ns:=ns) (i:=j) (by have:=List.mem_range.mp hj;omega))
    exact cb_mul hb.1 hb.2
 clear hr2 hfl2 e2 P2 hnl nrf zr
 rintro σ H3 ⟨r,ns,rfl,zr,nrf,hnl,hnC,P3,e3,hfl3,hr3⟩
 walk_at "rd"
 have ht3:=e3 _ _ npt ht
 have nrp:r≠p:=hP.ne zr
 have nfp:fl≠p:=hP.ne zfl
 refine⟨_,.inr (SqT.of ht3),by omega,by omega,λp1 hp1=>?_⟩
 rw[eL]
 have g1:=(Zh.refl H3).ZM (o:=.rng 0 (T'.length:Int)) hp1
 have h1:=Zd (H:=H3) (a:=p1) (o:=.rng 0 (T'.length:Int))
 generalize upd H3 p1 (.rng 0 (T'.length:Int))=H4 at g1 h1⊢
 refine⟨g1 _ _ (Z6.exc hTb hP e3),λf1 H5 zf s5 LO=>⟨_,s5 _ _ h1,by omega,by omega,LO,dpI T',λi H6 i0 i1 s6=>?_,λps l H6 hpm hpw s6 zl hl=>?_⟩⟩
 ·obtain⟨j,rfl⟩:=Int.eq_ofNat_of_zero_le i0
  have g6:=(g1.trans s5).trans s6
  exact⟨t,T',j,rfl,g6 _ _ ht3,by omega,by omega,ZiW hT (by omega),λw H7 zw s7 hw=>⟨w,rfl,_,.inl (SqL.of hw),by rw[List.length_map];rfl,s7⟩⟩
 have g6:=(g1.trans s5).trans s6
 have zl3:H3 l=none:=(g1.trans s5).free zl
 have nlp:l≠p:=P3.ne zl3
 have nlr:l≠r:=λz=>by rw[z,hr3]at zl3;cases zl3
 have nlf:l≠fl:=λz=>by rw[z,hfl3]at zl3;cases zl3
 have pin:∀q∈ps,0<=q/\q<(T'.length:Int):=λq hq=>by
  have:=hpm.mem_iff.mp hq
  unfold nats at this
  obtain⟨k,hk,rfl⟩:=List.mem_map.mp this
  have:=List.mem_range.mp hk
  omega
 have eps:(ps.map V.int).length=ps.length:=List.length_map ..
 obtain⟨ns0,hns0⟩:∃ns0,ns0=ns:=⟨ns,rfl⟩
 subst hns0
 refine⟨⟨_,SqL.of hl⟩,Zlg (n:=ps.length) (λi σ Hx=>∃(v4 v5 v6:Option V) (ns:List Int),σ=[some (.ref p),some (.ref t),some (.ref fl),some (.ref r),v4,v5,v6]/\ZkD T' CB ps ns0 ns i/\Zz Hx p/\Exc p H Hx/\Hx fl=some (.lst ((Ze T').map V.int))/\Hx r=some (.lst (ns.map V.int))/\Hx l=some (.lst (ps.map V.int))) ⟨none,none,none,ns0,rfl,⟨hnl,λp hp=>⟨λz=>absurd z.1 (by simp),λ_=>rfl⟩⟩,P3.same g6,e3.same g6,g6 _ _ hfl3,g6 _ _ hr3,hl⟩ (λi σ Hx hi ⟨_,_,_,_,_,_,_,_,_,_,h⟩=>⟨_,_,SqL.of h,ZaE hi⟩) (fun σ Hx ⟨_,_,_,_,_,_,_,_,_,_,h⟩=>⟨_,SqL.of h,Nat.le_of_eq eps⟩) ?_ ?_⟩
 ·rintro i x σ Hx Hx' hi ⟨v4,v5,v6,ms,rfl,hK,Px,ex,hfx,hrx,hlx⟩ ⟨rfl,hx⟩
  have hml:=hK.1
  have e1:=hx _ (SqL.of hlx)
  rw[ZaE hi]at e1
  cases e1
  obtain⟨q0,q1⟩:=pin _ (ZfU hi)
  obtain⟨j,hj⟩:=Int.eq_ofNat_of_zero_le q0
  have eqi:ps[i]?=some (nth ps i):=by unfold nth;rw[List.getD_eq_getElem?_getD,List.getElem?_eq_getElem hi];rfl
  rw[hj]at q1 eqi⊢
  walk_at "rd"
  have htx:=ex _ _ npt ht
  refine⟨_,SqT.of htx,_,ZI (by omega),_,rfl,ZF (λc0=>?_) λc0=>⟨ms,Zr6 hK eqi (by rcases ZA hT (p:=j) (by omega)with e|⟨k,e,_⟩<;>omega),Px,ex,hfx,hrx,hlx⟩⟩
  rcases ZA hT (p:=j) (by omega)with e|⟨k,e,hk,_,_⟩
  ·omega
  rw[e]
  refine⟨_,SqL.of hfx,_,ZI (by omega),_,_,rfl,SqL.of hfx,_,ZI (by omega),_,rfl,_,rfl,p,_,rfl,by decide,by decide,Px,λd H7 d0 d1 P7 e7=>⟨_,SqL.of (e7 _ _ nrp hrx),_,ZI (by omega),_,rfl,_,rfl,Zfa (by omega) (by omega),?_⟩⟩
  have em:(ms.map V.int).length=ms.length:=List.length_map ..
  refine⟨_,_,rfl,SqL.of (e7 _ _ nrp hrx),_,ZI (by omega),_,rfl,_,e7 _ _ nrp hrx,j,by rw[em];exact Ziy (by omega),?_⟩
  have hij:=hnC _ (ZfU (ns:=ns0) (i:=j) (by omega))
  obtain⟨emj,_⟩:=ZmD (m:=0) hT hpm hpw hK eqi (by omega) (by omega) e (Int.le_refl 0) (by have:=CB3;omega)
  have hmj:0<=(if nth ms j<0 then -nth ms j else nth ms j)/\(if nth ms j<0 then -nth ms j else nth ms j)<=CB:=by
   rw[emj];split<;>omega
  generalize (if nth ms j<0 then -nth ms j else nth ms j)=aj at hmj⊢
  have hm0:0<=d*aj:=Int.mul_nonneg d0 hmj.1
  have hm1:d*aj<=2*CB:=Int.le_trans (Int.mul_le_mul_of_nonneg_right (show d<=2 by omega) hmj.1) (Int.mul_le_mul_of_nonneg_left hmj.2 (by decide))
  obtain⟨_,hK'⟩:=ZmD hT hpm hpw hK eqi (by omega) (by omega) e hm0 hm1
  generalize nth ms k+(nth (Ze T') j-nth (Ze T') k+d*aj)=z at hK'⊢
  refine⟨ms.set j z,hK',P7.Znr nrp,(ex.trans e7).Znr zr,by rw[Zj (Ne.symm nrf)];exact e7 _ _ nfp hfx,by rw[Zd,List.map_set],by rw[Zj nlr];exact e7 _ _ nlp hlx⟩
 ·rintro σ Hx ⟨v4,v5,v6,ms,rfl,hK,Px,ex,hfx,hrx,hlx⟩
  walk_at "rd"
  have hkd:=Zr7 hG (by have:=CB3;omega) hpm hK λp hp=>hnC _ (ZfU (by omega))
  refine k1 r ms Hx zr hkd.1 (λq hq=>?_) hrx Px ex
  obtain⟨j,hj,rfl⟩:=ZtK hq
  have hb:=hkd.2 j (by have:=hK.1;omega)
  have hkb:=CB_KB
  omega
theorem Zjf {T:List Int} (hG:ZO T) {a b:Nat} (hb:b<T.length) (h:a∈way T b):a<T.length:=by
 obtain⟨_,nsT,hT⟩:=hG
 have eT:=hT.1
 have:=((Zbz hT (by omega)).mp h).1
 omega
theorem Zsa {T:List Int} (hG:ZO T) {a b:Int} (h:Zmu T a b):∃x y:Nat,a=x/\b=y/\y<T.length/\x<T.length/\x∈way T y:=by
 obtain⟨h0,h1,h2⟩:=h
 obtain⟨y,rfl⟩:=Int.eq_ofNat_of_zero_le h0
 rw[Z0]at h2
 obtain⟨x,hx,e⟩:=List.mem_map.mp h2
 rw[show((y:Int)).toNat=y by omega]at hx
 exact⟨x,y,e.symm,rfl,by omega,Zjf hG (by omega) hx,hx⟩
theorem over_of {T:List Int}{x y:Nat} (hy:y<T.length) (h:x∈way T y):Zmu T (x:Int) (y:Int):=⟨by omega,by omega,by rw[Z0];exact List.mem_map.mpr ⟨x,h,rfl⟩⟩
theorem in_two (x a b:Int):inV (.int x) [.int a,.int b]=decide (x=a\/x=b):=by
 have:=ZoL x [a,b]
 simpa using this
theorem ZbB.same {H H':Hp}{v:V}{pr:Option (Int×Int)} (h:ZbB H v pr) (s:Zh H H'):ZbB H' v pr:=by
 cases pr with
 |none=>exact h
 |some z=>obtain⟨a,e,h⟩:=h;exact⟨a,e,s _ _ h⟩
theorem ZbB.exc {H H':Hp}{v:V}{p:Addr}{pr:Option (Int×Int)} (h:ZbB H v pr) (P:Zz H p) (s:Exc p H H'):ZbB H' v pr:=by
 cases pr with
 |none=>exact h
 |some z=>obtain⟨a,e,h⟩:=h;exact⟨a,e,s _ _ (Zet P h) h⟩
theorem Zd5 {z:Bool}{P:Prop} (h:z=false) (n:¬ P):z=true↔P:=⟨λy=>(by rw[h]at y;cases y),λy=>absurd y n⟩
noncomputable instance (T:List Int) (a b:Int):Decidable (Zmu T a b):=by unfold Zmu;exact inferInstance
theorem Zmv.nil (H:Hp):Zmv H [] []:=⟨rfl,λi a z h=>by simp at h⟩
theorem Zmv.same {H H':Hp}{as:List Addr}{zs:List (Nat×Nat)} (h:Zmv H as zs) (s:Zh H H'):Zmv H' as zs:=⟨h.1,λi a z h1 h2=>s _ _ (h.2 i a z h1 h2)⟩
theorem Zdk {ns:List Int}{far:Int}{i:Nat} (h:i<ns.length):nth (ns.map λx=>x-far) i=nth ns i-far:=by
 simp[nth,List.getD_eq_getElem?_getD,h]
theorem Zjg {T ns ms:List Int}{far:Int} (hG:ZO T) (hl:ns.length=T.length) (hF:Zi8 T ns far) (hD:Zbr T (ns.map λx=>x-far) ms):∀p,p<T.length->(if nth ms p-nth ns p<0 then -(nth ms p-nth ns p)else nth ms p-nth ns p)<=far:=λp hp=>by
 obtain⟨⟨o,ho,e⟩,h2⟩:=hD.2 p hp
 have h1:=h2 p List.mem_cons_self
 rw[Zdk (by omega)]at h1
 have f0:=hF.1
 have h3:nth ms p<=nth ns p+far:=by
  rcases List.mem_cons.mp ho with rfl|ho
  ·rw[Zdk (by omega)]at e;omega
  ·have oT:=Zjf hG hp ho
   rw[Zdk (by omega)]at e
   have:=hF.2.1 p hp o ho
   unfold obN at this
   omega
 split<;>omega
theorem Zb8 {T:List Int}{p:Nat}{a:Int} (h:a∈Zak T p):0<=a/\a<T.length:=by
 have key:∀k x,∀o∈Z5 T k x,o<T.length:=by
  intro k
  induction k with
  |zero=>intro x o ho;cases ho
  |succ k ih =>
   intro x o ho
   rw[Z5]at ho
   split at ho
   ·rcases List.mem_cons.mp ho with z|z
    ·omega
    ·exact ih _ o z
   ·cases ho
 obtain⟨o,ho,rfl⟩:=List.mem_map.mp h
 have:=key _ _ o ho
 omega
theorem ZmE {T:List Int}{p:Nat}:(Zak T p).length<=T.length:=by
 unfold Zak
 rw[List.length_map]
 exact ZdT _ _ _
noncomputable def ZcX (T hs:List Int) (b:Nat):List (List Int):=((Zak T b).filter λa=>decide (nth hs b<nth hs a.toNat)).map λa=>[a,(b:Int)]
noncomputable def ZdB (T hs:List Int) (i j:Nat):List (List Int):=(List.range i).flatMap (ZcX T hs)++(((Zak T i).take j).filter λa=>decide (nth hs i<nth hs a.toNat)).map λa=>[a,(i:Int)]
theorem pairs_len (T hs:List Int):∀i,((List.range i).flatMap (ZcX T hs)).length<=i*T.length
 |0=>by simp
 |i+1=>by
  have:=pairs_len T hs i
  have h2:(ZcX T hs i).length<=T.length:=by
   unfold ZcX
   rw[List.length_map]
   exact Nat.le_trans (List.length_filter_le _ _) ZmE
  rw[List.range_succ,List.flatMap_append,List.length_append,Nat.add_mul]
  simp only[List.flatMap_cons,List.flatMap_nil,List.append_nil,Nat.one_mul]
  omega
theorem ZfV {T hs r:List Int}{i:Nat} (h:r∈(List.range i).flatMap (ZcX T hs)):∃(a:Int) (b:Nat),r=[a,(b:Int)]/\b<i/\a∈Zak T b/\nth hs b<nth hs a.toNat:=by
 obtain⟨b,hb,hr⟩:=List.mem_flatMap.mp h
 obtain⟨a,ha,rfl⟩:=List.mem_map.mp hr
 have:=List.mem_filter.mp ha
 exact⟨a,b,rfl,List.mem_range.mp hb,this.1,by simpa using this.2⟩
theorem Zjh {T hs:List Int}{i j:Nat} (hj:j<(Zak T i).length):ZdB T hs i (j+1)=if nth hs i<nth hs (Zak T i)[j].toNat then ZdB T hs i j++[[(Zak T i)[j],(i:Int)]]else ZdB T hs i j:=by
 unfold ZdB
 rw[List.take_add_one,List.getElem?_eq_getElem hj,List.filter_append,List.map_append]
 by_cases c:nth hs i<nth hs (Zak T i)[j].toNat
 ·rw[if_pos c];simp[c]
 ·rw[if_neg c];simp[c]
theorem ZpT {T hs:List Int}{i:Nat}:ZdB T hs i (Zak T i).length=(List.range (i+1)).flatMap (ZcX T hs):=by
 unfold ZdB
 rw[List.take_length,List.range_succ,List.flatMap_append]
 simp[ZcX]
theorem Zn4 {T hs:List Int}{i j:Nat}:(ZdB T hs i j).length<=(i+1)*T.length:=by
 unfold ZdB
 have:=pairs_len T hs i
 rw[List.length_append,List.length_map,Nat.add_mul,Nat.one_mul]
 have h3:((((Zak T i).take j).filter λa=>decide (nth hs i<nth hs a.toNat))).length<=T.length:=Nat.le_trans (List.length_filter_le _ _) (Nat.le_trans (by rw[List.length_take];exact Nat.min_le_right _ _) ZmE)
 omega
theorem Zsb {i n:Nat} (h1:i<=41) (h2:n<=40):i*n<=2000:=Nat.le_trans (Nat.mul_le_mul h1 h2) (by decide)
theorem ZpU {T hs:List Int}{rs rs':List (List Int)} (hn:T.length<=40) (h1:ZoU rs (Zcg T hs)) (h2:ZoU rs' (Zcg T hs)):rs=rs':=by
 refine Zmt (h1.1.trans h2.1.symm) h1.2 h2.2 λx hx y hy e=>?_
 obtain⟨a,b,rfl,hb,_⟩:=ZfV (show x∈(List.range T.length).flatMap (ZcX T hs)from(List.Perm.mem_iff h1.1).mp hx)
 obtain⟨a',b',rfl,hb',_⟩:=ZfV (show y∈(List.range T.length).flatMap (ZcX T hs)from(List.Perm.mem_iff h1.1).mp hy)
 simp only[ZeS,List.getD_cons_zero,List.getD_cons_succ]at e
 have e1:a=a':=by omega
 have e2:(b:Int)=b':=by omega
 rw[e1,e2]
theorem Zin {f:Addr}{fd:FuncData} (F:Fun K "higher_pairs" "higher_pairs" Zap f fd) (ZT:Callee P w K mg base "way_up" 1 ["tree","place"] (Zbp K mg)) (T:Txt K mg):FnOk P w K mg base (CXE P w) 2 f fd ["tree","heights"] (Zch K mg):=by
 refine F.okX ZeT (λvs H Q E h=>?_) (λcdv A outer s H vs Q E hr h=>?_)
 ·obtain⟨t,h,T,hs,rfl,_⟩:=h;rfl
 obtain⟨t,h,T',hs,rfl,ht,hh,hn,hl,k1⟩:=h
 refine⟨_,(Zc (ZrY (i:=2) ["b","a","heights","tree"] [none,none,some 1,some 0] ZeT.nd rfl (Or.inl rfl) rfl rfl rfl (Z8 rfl T.b_range (Za (Zk (Zl (K:=K) rfl) rfl T.b_len PySem.boot_len (Za (pv 0) Zb)) Zb)) (λ_ _ _ _ _=>(Zm (i:=0) (show(["b","a","heights","tree"]:List Str).Nodup from by decide +kernel) rfl (Or.inl rfl))) (λ_ _ _ _ _=>ZK) (λ_ _ _ _ _=>(Zma (K:=K) rfl (Zg ZT (hr.mono (by decide)) rfl Zv (Za (pv 3) (Za (pv 0) Zb))))) (λ_ _ _ _ _=>(Zm (i:=1) (show(["b","a","heights","tree"]:List Str).Nodup from by decide +kernel) rfl (Or.inl rfl))) (λ_ _ _ _ _=>ZgH (Zo ZeQ (ZD (r:=ZkW K) Zy (pv 2) (pv 1) (λ_ _=>rfl)) (ZD (r:=ZkW K) Zy (pv 2) (pv 0) (λ_ _=>rfl)) (Zr _))) (λ_ _ _ _ _=>(Zds (Za (pv 1) (Za (pv 0) Zb)))) Zs Zs)
   (Zi (Zu (Zk (Zj4 (K:=K) rfl) rfl T.b_sorted Zhq (Za (pv 2) Zb))))),?_⟩
 walk_at "rd"
 have eL:(T'.map V.int).length=T'.length:=List.length_map ..
 refine⟨_,.inr (SqT.of ht),by omega,by rw[eL];omega,?_⟩
 rw[eL,Int.toNat_natCast]
 refine ZnV T'.length (λi=>(List.range i).flatMap (ZcX T' hs)) rfl (λi hi=>Nat.le_trans (pairs_len T' hs i) (Nat.le_trans (Zsb (by omega) hn) (by decide))) (λi Hx s hi=>hi) (λHx s=>Nat.le_refl _) ?_ ?_
 ·rintro i x acc Hx Hy hi tv s ⟨rfl,rfl⟩
  have ei:((0:Int)+(i:Int))=(i:Int):=by omega
  rw[ei]
  walk_at "rd"
  refine⟨t,T',i,rfl,.inr (SqT.of (s _ _ ht)),by omega,hi,λw H2 zw s2 hw=>⟨w,rfl,⟨_,SqL.of hw⟩,?_⟩⟩
  refine ZrZ (Zak T' i).length (ZdB T' hs i) (by unfold ZdB;simpa using tv.same s2) (λj hj=>Nat.le_trans Zn4 (Nat.le_trans (Zsb (by omega) hn) (by decide))) (λj Hz sz hj=>⟨_,_,SqL.of (sz _ _ hw),List.getElem?_eq_getElem (by simpa using hj)⟩) (λHz sz=>⟨_,SqL.of (sz _ _ hw),by simp⟩) ?_ ?_
  ·rintro j x acc2 H5 H6 hj t5 s5 ⟨rfl,hx⟩
   have ex:=hx _ (SqL.of (s5 _ _ hw))
   rw[List.getElem?_map,List.getElem?_eq_getElem hj]at ex
   cases ex
   have hm:=Zb8 (List.getElem_mem hj)
   have hh5:H6 h=some (.lst (hs.map V.int)):=(s.trans (s2.trans s5)) _ _ hh
   have ea:((Zak T' i)[j]:Int)=(((Zak T' i)[j].toNat:Nat):Int):=by omega
   walk_at "rd"
   refine⟨_,SqL.of hh5,_,(congrArg (atI _) ea).trans (ZI (by omega)),_,SqL.of hh5,_,ZI (by omega),?_⟩
   refine⟨_,rfl,_,rfl,ZF (λc=>⟨by decide,λp hp=>C2W.next hj ?_ (s5.ZM hp)⟩) (λc=>C2W.next hj ?_ s5)⟩
   ·rw[Zjh hj,if_pos c];exact(t5.same ((Zh.refl _).upd hp)).snoc Zd
   ·rw[Zjh hj,if_neg c];exact t5
  ·intro acc2 H5 t5 s5
   rw[ZpT]at t5
   exact C2W.next hi t5 (s.trans (s2.trans s5))
 ·intro l acc H' s' hl' tv
  refine⟨l,rfl,_,tv.at hl',λr hr=>?_,Nat.le_trans (pairs_len T' hs _) (Nat.le_trans (Zsb (by omega) hn) (by decide)),λrs' l2 H2 p1 p2 z2 s2 t2=>k1 l2 rs' H2 ((s'.ZM hl').free z2) ((s'.ZM hl').trans s2) t2 ⟨p1,p2⟩⟩
  obtain⟨a,b,rfl,hb,_⟩:=ZfV hr
  exact⟨a,b,rfl,by omega,by omega⟩
noncomputable def vInt:V->Int
 |.int i=>i
 |_=>0
noncomputable def rowOf (H:Hp):V->List Int
 |.ref a=>match H a with
  |some (.tup xs)=>xs.map vInt
  |_=>[]
 |_=>[]
theorem Zsc {H:Hp}{a:Addr}{r:List Int} (h:H a=some (.tup (r.map V.int))):rowOf H (.ref a)=r:=by
 unfold rowOf
 simp only[h,List.map_map]
 have:(vInt ∘ V.int)=id:=rfl
 rw[this,List.map_id]
theorem Zbb {T hs r:List Int}:r∈Zcg T hs↔∃(a:Int) (b:Nat),r=[a,(b:Int)]/\b<T.length/\a∈Zak T b/\nth hs b<nth hs a.toNat:=by
 constructor
 ·intro h;exact ZfV (show r∈(List.range T.length).flatMap (ZcX T hs)from h)
 ·rintro⟨a,b,rfl,hb,ha,hd⟩
  exact List.mem_flatMap.mpr ⟨b,List.mem_range.mpr hb,List.mem_map.mpr ⟨a,List.mem_filter.mpr ⟨ha,decide_eq_true hd⟩,rfl⟩⟩
theorem ZlC {T ns:List Int}{a b:Nat} (hl:ns.length=T.length) (ha:a<T.length) (hb:b<T.length):obN (Ze T) ns a b=nth (hgt (Ze T) ns) a-nth (hgt (Ze T) ns) b:=by
 have eF:(Ze T).length=T.length:=ZY T
 rw[ZE (by omega),ZE (by omega)]
 unfold obN
 omega
theorem ZgX {T hs:List Int}{z:Int×Int} (h:IsPair T hs (some z)):(∃b:Nat,z.2=(b:Int)/\b<T.length/\z.1∈Zak T b)/\0<nth hs z.1.toNat-nth hs z.2.toNat/\∀(a:Int) (b:Nat),b<T.length->a∈Zak T b->nth hs a.toNat-nth hs b<=nth hs z.1.toNat-nth hs z.2.toNat:=by
 obtain⟨rs,i,hS,hi,e,hB⟩:=h
 have hm:rs.getD i []∈rs:=by rw[List.getD_eq_getElem?_getD,List.getElem?_eq_getElem hi];exact List.getElem_mem hi
 obtain⟨a,b,e2,hb,ha,hd⟩:=Zbb.mp ((List.Perm.mem_iff hS.1).mp hm)
 rw[e]at e2
 simp only[List.cons.injEq,and_true]at e2
 obtain⟨e3,e4⟩:=e2
 have eb:z.2.toNat=b:=by omega
 refine⟨⟨b,e4,hb,e3▸ha⟩,by rw[e3,eb];omega,?_⟩
 intro a' b' hb' ha'
 by_cases c:nth hs b'<nth hs a'.toNat
 ·have:=(List.Perm.mem_iff hS.1).mpr (Zbb.mpr ⟨a',b',rfl,hb',ha',c⟩)
  obtain⟨j,hj,ej⟩:=List.mem_iff_getElem.mp this
  have hb2:=(hB j hj).1
  rw[e,show rs.getD j []=[a',(b':Int)] by rw[List.getD_eq_getElem?_getD,List.getElem?_eq_getElem hj];exact ej]at hb2
  simpa[dfK]using hb2
 ·rw[e3,eb];omega
theorem Zji {T ns:List Int}{pr:Option (Int×Int)} (hG:ZO T) (hl:ns.length=T.length) (h:IsPair T (hgt (Ze T) ns) pr):Zi8 T ns (ZaD (hgt (Ze T) ns) pr)/\ZnX T (hgt (Ze T) ns) (ZaD (hgt (Ze T) ns) pr) pr:=by
 cases pr with
 |none =>
  refine⟨⟨by simp[ZaD],λb hb a ha=>?_,.inl rfl⟩,rfl⟩
  have haT:=Zjf hG hb ha
  rw[ZlC hl haT hb]
  have hm:((a:Int))∈Zak T b:=by rw[Z0];exact List.mem_map.mpr ⟨a,ha,rfl⟩
  by_cases c:nth (hgt (Ze T) ns) b<nth (hgt (Ze T) ns) a
  ·have:=Zbb.mpr ⟨(a:Int),b,rfl,hb,hm,by simpa using c⟩
   rw[show Zcg T (hgt (Ze T) ns)=[]from h]at this
   cases this
  ·simp only[ZaD];omega
 |some z =>
  obtain⟨⟨b,e2,hb,hm⟩,hpos,hmax⟩:=ZgX h
  have hw:=Zb8 hm
  have ea:z.1=((z.1.toNat:Nat):Int):=by omega
  have eb:z.2.toNat=b:=by omega
  have hmw:z.1.toNat∈way T b:=by
   rw[Z0]at hm
   obtain⟨x,hx,e⟩:=List.mem_map.mp hm
   have:z.1.toNat=x:=by omega
   rw[this];exact hx
  refine⟨⟨by simp only[ZaD];omega,λb' hb' a' ha'=>?_,.inr ⟨b,hb,z.1.toNat,hmw,?_⟩⟩,by simp only[ZaD];omega,⟨by omega,by omega,by rw[eb];exact hm⟩,by simp only[ZaD];omega⟩
  ·have haT:=Zjf hG hb' ha'
   rw[ZlC hl haT hb']
   have:=hmax (a':Int) b' hb' (by rw[Z0];exact List.mem_map.mpr ⟨a',ha',rfl⟩)
   simp only[ZaD]
   rw[show((a':Int)).toNat=a' by omega]at this
   omega
  ·rw[ZlC hl (by omega) hb]
   simp only[ZaD]
   rw[eb];omega
theorem ZpV {T hs:List Int}{p q:Option (Int×Int)} (hn:T.length<=40) (h1:IsPair T hs p) (h2:IsPair T hs q):p=q:=by
 have no:∀{z},IsPair T hs none->¬ IsPair T hs (some z):=λ{z} a b=>by
  obtain⟨rs,i,hS,hi,_⟩:=b
  have:=hS.1.length_eq
  rw[show Zcg T hs=[]from a]at this
  simp at this
  rw[this]at hi
  simp at hi
 cases p with
 |none =>
  cases q with
  |none=>rfl
  |some z=>exact absurd h2 (no h1)
 |some y =>
  cases q with
  |none=>exact absurd h1 (no h2)
  |some z =>
   obtain⟨rs,i,hS,hi,e,hB⟩:=h1
   obtain⟨rs',i',hS',hi',e',hB'⟩:=h2
   have er:=ZpU hn hS hS'
   subst er
   have:i=i':=by
    rcases Nat.lt_trichotomy i i' with c|c|c
    ·have:=(hB' i hi).2 c
     have:=(hB i' hi').1
     omega
    ·exact c
    ·have:=(hB i' hi').2 c
     have:=(hB' i hi).1
     omega
   subst this
   rw[e]at e'
   simp only[List.cons.injEq,and_true]at e'
   exact congrArg some (Prod.ext e'.1 e'.2)
theorem Zsd {T hs us:List Int}{far:Int} (hG:ZO T) (hl:hs.length=T.length) (h:Zi7 T hs us):Zi7 T (hs.map λx=>x-far) (us.map λx=>x-far):=by
 obtain⟨_,nsT,hT⟩:=hG
 have eT:=hT.1
 refine⟨by simp[h.1],λp hp=>?_⟩
 have h2:=h.2 p hp
 have e1:=h.1
 rw[Zdk (by omega),Zdk (by omega)]
 rcases ZA hT (p:=p) (by omega)with e|⟨q,e,hq,_,_⟩
 ·rw[if_pos e]at h2⊢;omega
 ·rw[if_neg (by omega),e,show((q:Nat):Int).toNat=q by omega]at h2⊢
  rw[Zdk (by omega)];omega
theorem ZtL {F ns:List Int}{far:Int} (hl:ns.length=F.length):(hgt F ns).map (λx=>x-far)=hgt F (ns.map λx=>x-far):=by
 unfold hgt
 rw[List.map_map]
 refine List.map_congr_left λi hi=>?_
 have:=List.mem_range.mp hi
 simp only[Function.comp]
 rw[Zdk (by omega)];omega
theorem Zn5 {T ns ms:List Int}{pr:Option (Int×Int)} (hG:ZO T) (hl:ns.length=T.length) (h:IsPair T (hgt (Ze T) ns) pr) (hD:Zbr T (ns.map λx=>x-ZaD (hgt (Ze T) ns) pr) ms):Zr1 T ns (ZaD (hgt (Ze T) ns) pr) ms pr :=
 ⟨Zje hG hD,Zjg hG hl (Zji hG hl h).1 hD,(Zji hG hl h).2⟩
theorem ZmF {T ns ms:List Int}{far a:Int} (hG:ZO T) (hl:ns.length=T.length) (hF:Zi8 T ns far) (hT:Zw ms T) (ha:0<=a) (hd:∀p,p<T.length->Zlt (nth ms p-nth ns p)<=a):far<=a:=by
 rcases hF.2.2 with e|⟨b,hb,o,ho,e⟩
 ·omega
 ·have eT:=hT.1
  have hO:=(Zbz hT (by omega)).mp ho
  have h1:=Zlh hT (p:=b) (o:=o) (by omega) hO.1 hO.2
  have d1:=hd o (by omega)
  have d2:=hd b hb
  unfold obN at e
  rw[Zaa hb,Zaa (by omega)]at e
  unfold Zlt at d1 d2
  split at d1<;>split at d2<;>omega
theorem ZmG {K:PySem.W.Frag}{H:Hp}{q q' m m':Addr}{v v':V}{far:Int}{ms:List Int}{pr:Option (Int×Int)} (hq:H q=some (.tup [.int far,.ref m,v])) (hq':H q'=some (.tup [.int far,.ref m',v'])) (hm:H m=some (.tup (ms.map V.int))) (hm':H m'=some (.tup (ms.map V.int))) (hv:ZbB H v pr) (hv':ZbB H v' pr):EqD K H 3 (.ref q) (.ref q') true:=by
 have h1:EqD K H 2 (V.int far) (V.int far) true:=by
  have:=EqD.flat (K:=K) (H:=H) (n:=2) (x:=V.int far) (y:=V.int far) rfl rfl
  rwa [ZiK (x:=V.int far) rfl]at this
 have h2:EqD K H 2 (V.ref m) (V.ref m') true:=by
  have:=Zeg (n:=1) (K:=K) (H:=H) Zdh (V.ref m) (V.ref m') ms ms (Zag (SqT.of hm)) (Zag (SqT.of hm'))
  simpa using this
 have h3:EqD K H 2 v v' true:=by
  cases pr with
  |none =>
   have e1:v=.non:=hv
   have e2:v'=.non:=hv'
   subst e1 e2
   have:=EqD.flat (K:=K) (H:=H) (n:=2) (x:=V.non) (y:=V.non) rfl rfl
   rwa [ZiK (x:=V.non) rfl]at this
  |some z =>
   obtain⟨a,rfl,ha⟩:=hv
   obtain⟨a',rfl,ha'⟩:=hv'
   have:=Zeg (n:=1) (K:=K) (H:=H) Zdh (V.ref a) (V.ref a') [z.1,z.2] [z.1,z.2] (Zag (SqT.of ha)) (Zag (SqT.of ha'))
   simpa using this
 have:=EqD.tup (K:=K) (H:=H) (n:=2) (λ_=>true) (SqT.of hq) (SqT.of hq') λj x y z1 z2=>by
  match j,z1,z2 with
  |0,z1,z2=>cases z1;cases z2;exact h1
  |1,z1,z2=>cases z1;cases z2;exact h2
  |2,z1,z2=>cases z1;cases z2;exact h3
  |j+3,z1,z2=>simp at z1
 simpa[List.range_succ]using this
theorem Zn6 {f:Addr}{fd:FuncData} (F:Fun K "nearest" "nearest" ZcK f fd) (ZZ:Callee P w K mg base "flattest" 5 ["tree"] (Zbq K mg)) (ZG:Callee P w K mg base "heights_of" 1 ["flat","row"] (ZaH K mg)) (Zd6:Callee P w K mg base "row_by" 1 ["flat","heights"] (ZfR K mg)) (Zd7:Callee P w K mg base "lifted" 6 ["tree","heights"] (ZfS K mg)) (ZcY:Callee P w K mg base "higher_pairs" 2 ["tree","heights"] (Zch K mg)) (L:ZnM K mg "nearest" f) (B:BM mg base) (T:Txt K mg):FnOk P w K mg base (CXE P w) 7 f fd ["tree","row"] (Zer K mg):=by
 refine F.okL L B ZaA (λvs H Q E h=>?_) (λcdv A outer s H vs Q E LI hr h=>?_)
 ·obtain⟨t,r,T,ns,rfl,_⟩:=h;rfl
 obtain⟨t,r,T',ns,rfl,ht,hr1,hG,hl,hTb,hTf,k1⟩:=h
 refine⟨_,(Zc (Zq (i:=2) ZaA.nd rfl (Or.inl rfl) (Zg ZZ (hr.mono (by decide)) rfl Zaw (Za (pv 0) Zb)))
   (Zc (Zq (i:=3) ZaA.nd rfl (Or.inr rfl) (Zg ZG (hr.mono (by decide)) rfl Zaw (Za (pv 2) (Za (pv 1) Zb))))
   (Zc (Zq (i:=4) ZaA.nd rfl (Or.inl rfl) (Zr0 (Nc:=["ab","heights"]) (js:=[none,some 3]) (pn:="ab") (q:=Zi2 "nearest") (P:=Zgi K mg "nearest") rfl hr ⟨rfl,rfl,rfl,rfl,rfl,rfl,rfl,λ_ _ _ _ _ _=>rfl⟩ (λ_ _ _ _ _ _=>(Zn ZS (ZD (r:=ZkW K) Zy (pv 1) (ZD (r:=rIxT K) ZaW (pv 0) Zf (λ_ _=>rfl)) (λ_ _=>rfl)) (ZD (r:=ZkW K) Zy (pv 1) (ZD (r:=rIxT K) ZaW (pv 0) Zf (λ_ _=>rfl)) (λ_ _=>rfl)))) rfl T.b_max (Za (Zg ZcY (hr.mono (by decide)) rfl Zv (Za (pv 0) (Za (pv 3) Zb))) Zb) (ZfN (ZnJ ⟨LI.code,LI.bm,LI.ql⟩ rfl) (ZfN Ze1 ZkT))))
   (Zc (Zq (i:=5) ZaA.nd rfl (Or.inr rfl) Zf)
   (Zc (ZQ (Zo Zoq (pv 4) Ze1 (Zr _)) (Zc (Ze5 (pv 4) (Zhe (n:=2) rfl (ZJ (Zm (i:=6) ZaA.nd rfl (Or.inl rfl)) (ZJ (Zm (i:=7) ZaA.nd rfl (Or.inl rfl)) Zbv))))
   (Zi (Zq (i:=5) ZaA.nd rfl (Or.inr rfl) (Zn ZgS (Zn Zaj (Zn ZS (ZD Zy (pv 3) (pv 6) (λ_ _=>rfl)) (ZD Zy (pv 3) (pv 7) (λ_ _=>rfl))) Zf) Zf)))) ZC)
   (Zc (Zq (i:=8) ZaA.nd rfl (Or.inl rfl) (Zg Zd6 (hr.mono (by decide)) rfl Zv (Za (pv 2) (Za (Zah ["height","far"] [none,some 5] rfl rfl rfl (ZaM (Zg Zd7 (hr.mono (by decide)) rfl Zv (Za (pv 0) (Za (pv 3) Zb)))) (λ_ _ _ _ _=>(Zm (i:=0) (show(["height","far"]:List Str).Nodup from by decide +kernel) rfl (Or.inl rfl))) (λ_ _ _ _ _=>ZK) (λ_ _ _ _ _=>(Zn ZS (pv 0) (pv 1))) Zs) Zb))))
   (Zi (Zu (Zds (Za (pv 5) (Za (pv 8) (Za (pv 4) Zb)))))))))))),?_⟩
 have hn:=hG.1
 have eF:(Ze T').length=T'.length:=ZY T'
 have eH:(hgt (Ze T') ns).length=T'.length:=by rw[Zcz,eF]
 refine ZaX (fun σ Hx=>∃f,σ=[some (.ref t),some (.ref r),some (.ref f),none,none,none,none,none,none]/\Hx f=some (.tup ((Ze T').map V.int))/\Zh H Hx) (λR hR=>?_) ?_
 ·walk_at "rd"
  exact⟨t,T',rfl,ht,by omega,λ_ f H1 s1 hf=>hR _ _ ⟨f,rfl,hf,s1⟩,λg=>absurd hG g⟩
 rintro σ H1 ⟨f,rfl,hf,s1⟩
 refine ZaX (fun σ Hx=>∃h,σ=[some (.ref t),some (.ref r),some (.ref f),some (.ref h),none,none,none,none,none]/\Hx h=some (.lst ((hgt (Ze T') ns).map V.int))/\Zh H1 Hx) (λR hR=>?_) ?_
 ·walk_at "rd"
  exact⟨f,r,_,ns,rfl,hf,hr1.elim (λz=>.inl (s1.seq z)) (λz=>.inr (s1.seqT z)),by omega,by omega,λ_ l H2 zl s2 hl2=>hR _ _ ⟨l,rfl,hl2,s2⟩,λz=>absurd (by omega) z⟩
 rintro σ H2 ⟨h,rfl,hh,s2⟩
 replace hf:=s2 _ _ hf
 replace s1:=s1.trans s2
 clear s2 H1
 refine ZaX (fun σ Hx=>∃(v:V) (pr:Option (Int×Int)),σ=[some (.ref t),some (.ref r),some (.ref f),some (.ref h),some v,none,none,none,none]/\ZbB Hx v pr/\IsPair T' (hgt (Ze T') ns) pr/\Zh H2 Hx) (λR hR=>?_) ?_
 ·walk_at "rd"
  refine⟨t,h,T',_,rfl,s1 _ _ ht,hh,hn,eH,λl rs H3 zl s3 tl pl=>?_⟩
  obtain⟨as,l1,l2,l3⟩:=id tl
  have hrow:∀i (h1:i<as.length),rowOf H3 (V.ref as[i])=rs.getD i []:=λi h1=>by
   rw[Zsc (l3 i h1 (by omega)),List.getD_eq_getElem?_getD,List.getElem?_eq_getElem (by omega)];rfl
  refine⟨Z6.same hTb (s1.trans s3),λf1 H5 zf s5 LO=>⟨l,rfl,_,s5 _ _ l1,LO,λv=>dfK (hgt (Ze T') ns) (rowOf H3 v),λv H6 hv s6=>?_,λhns H6 s6=>?_,λi H6 hi hB s6=>?_⟩⟩
  ·obtain⟨a0,ha0,rfl⟩:=List.mem_map.mp hv
   obtain⟨i,hi,rfl⟩:=List.mem_iff_getElem.mp ha0
   obtain⟨a,b,e,hb,ha,_⟩:=Zbb.mp ((List.Perm.mem_iff pl.1).mp (List.getElem_mem (show i<rs.length by omega)))
   have hx:=s6 _ _ (s5 _ _ (l3 i hi (by omega)))
   rw[e]at hx
   have hw:=Zb8 ha
   have ea:a=((a.toNat:Nat):Int):=by omega
   have hh6:=s6 _ _ (s5 _ _ (s3 _ _ hh))
   refine⟨_,rfl,_,SqT.of hx,_,rfl,_,_,rfl,SqL.of hh6,_,(congrArg (atI _) ea).trans (ZI (by omega)),_,rfl,_,SqT.of hx,_,rfl,_,_,rfl,SqL.of hh6,_,ZI (by omega),_,rfl,_,rfl,?_,Zh.refl _⟩
   show _=dfK (hgt (Ze T') ns) (rowOf H3 (V.ref as[i]))
   rw[hrow i hi,List.getD_eq_getElem?_getD,List.getElem?_eq_getElem (show i<rs.length by omega),Option.getD_some,e]
   simp[dfK]
  ·refine hR _ _ ⟨.non,none,rfl,rfl,?_,s3.trans (s5.trans s6)⟩
   have:as=[]:=by simpa using hns
   have e:=pl.1.length_eq
   rw[<-l2,this]at e
   exact List.length_eq_zero_iff.mp e.symm
  ·have hi:i<as.length:=by simpa using hi
   obtain⟨a,b,e,hb,ha,_⟩:=Zbb.mp ((List.Perm.mem_iff pl.1).mp (List.getElem_mem (show i<rs.length by omega)))
   have hx:=s6 _ _ (s5 _ _ (l3 i hi (by omega)))
   rw[e]at hx
   have eg:∀j,j<as.length->Zba (as.map V.ref) j=V.ref (as.getD j 0):=λj hj=>by
    unfold Zba
    rw[List.getD_eq_getElem?_getD,List.getElem?_map,List.getElem?_eq_getElem hj,List.getD_eq_getElem?_getD,List.getElem?_eq_getElem hj];rfl
   have eg2:∀j (hj:j<as.length),as.getD j 0=as[j]:=λj hj=>by rw[List.getD_eq_getElem?_getD,List.getElem?_eq_getElem hj];rfl
   refine hR _ _ ⟨_,some (a,(b:Int)),rfl,⟨as[i],by rw[eg i hi,eg2 i hi],hx⟩,⟨rs,i,pl,by omega,?_,λj hj=>?_⟩,s3.trans (s5.trans s6)⟩
   ·rw[List.getD_eq_getElem?_getD,List.getElem?_eq_getElem (show i<rs.length by omega)];exact e
   ·have:=hB j (by simpa using(show j<as.length by omega))
    simp only[eg j (by omega),eg i hi,eg2 j (by omega),eg2 i hi,hrow j (by omega),hrow i hi]at this
    exact this
 rintro σ H3 ⟨v,pr,rfl,hv,hp,s3⟩
 replace hf:=s3 _ _ hf
 replace hh:=s3 _ _ hh
 replace s1:=s1.trans s3
 clear s3 H2
 refine ZaX (fun σ Hx=>σ=[some (.ref t),some (.ref r),some (.ref f),some (.ref h),some v,some (.int 0),none,none,none]/\Hx=H3) (λR hR=>?_) ?_
 ·walk_at "rd"
  exact hR _ _ ⟨rfl,rfl⟩
 rintro σ H4 ⟨rfl,rfl⟩
 refine ZaX (fun σ Hx=>∃v6 v7,σ=[some (.ref t),some (.ref r),some (.ref f),some (.ref h),some v,some (.int (ZaD (hgt (Ze T') ns) pr)),v6,v7,none]/\Hx=H4) (λR hR=>?_) ?_
 ·walk_at "rd"
  cases pr with
  |none =>
   have:v=.non:=hv
   exact ZF (λz=>absurd this z) λ_=>hR _ _ ⟨_,_,rfl,rfl⟩
  |some z =>
   obtain⟨a0,rfl,ha0⟩:=hv
   obtain⟨⟨b,e2,hb,hm⟩,_⟩:=ZgX hp
   have hw:=Zb8 hm
   have ea:z.1=((z.1.toNat:Nat):Int):=by omega
   have eb:z.2=((z.2.toNat:Nat):Int):=by omega
   refine ZF (λ_=>?_) λz=>absurd (λy=>nomatch y) z
   exact⟨a0,rfl,_,SqT.of ha0,rfl,_,_,rfl,_,_,rfl,rfl,_,_,rfl,SqL.of hh,_,(congrArg (atI _) ea).trans (ZI (by omega)),_,_,rfl,SqL.of hh,_,(congrArg (atI _) eb).trans (ZI (by omega)),_,rfl,_,rfl,⟨by decide,by decide⟩,hR _ _ ⟨_,_,rfl,rfl⟩⟩
 rintro σ H5 ⟨v6,v7,rfl,rfl⟩
 walk_at "rd"
 refine⟨t,h,T',_,rfl,s1 _ _ ht,hh,hG,eH,Z6.same hTf s1,λl us H6 zl s6 hL hl6=>⟨l,rfl,⟨_,SqL.of hl6⟩,?_⟩⟩
 have eU:=hL.1
 refine comp_map (n:=us.length) (λi=>V.int (nth us i-ZaD (hgt (Ze T') ns) pr)) (Nat.lt_of_le_of_lt (show _<=1000 by omega) (by decide)) (λi Hx s hi=>⟨_,_,SqL.of (s _ _ hl6),ZaE hi⟩) (λHx s=>⟨_,SqL.of (s _ _ hl6),by simp⟩) ?_ ?_
 ·rintro i x Hx Hy hi sx ⟨rfl,hx⟩
  have ex:=hx _ (SqL.of (sx _ _ hl6))
  rw[ZaE hi]at ex
  cases ex
  walk_at "rd"
  exact CW.next hi rfl sx
 ·intro l2 Hx sx zl2
  have g:=sx.ZM (o:=.lst ((List.range us.length).map λi=>V.int (nth us i-ZaD (hgt (Ze T') ns) pr))) zl2
  have e7:((List.range us.length).map λi=>V.int (nth us i-ZaD (hgt (Ze T') ns) pr))=(us.map λx=>x-ZaD (hgt (Ze T') ns) pr).map V.int:=by
   refine List.ext_getElem (by simp) λi i1 i2=>?_
   have:i<us.length:=by simpa using i1
   simp[nth,List.getD_eq_getElem?_getD,this]
  rw[e7]at g⊢
  have sA:=s6.trans g
  refine⟨f,l2,Ze T',us.map λx=>x-ZaD (hgt (Ze T') ns) pr,rfl,sA _ _ hf,Zd,by simp;omega,by simp;omega,λm H8 s8 hm=>⟨by decide,λq zq=>?_⟩⟩
  have g8:=(Zh.refl H8).upd (o:=.tup [V.int (ZaD (hgt (Ze T') ns) pr),V.ref m,v]) zq
  refine k1 q m v _ pr _ (s1.trans (sA.trans (s8.trans g8))) Zd (g8 _ _ hm) (hv.same (sA.trans (s8.trans g8))) hp ?_
  have hl1:=Zsd (far:=ZaD (hgt (Ze T') ns) pr) hG eH hL
  rw[ZtL (by omega)]at hl1
  exact(ZmC hG (by simp;omega) hl1).1
theorem Zka {f:Addr}{fd:FuncData} (F:Fun K "pair_shows" "pair_shows" ZaT f fd) (ZcN:Callee P w K mg base "is_over" 2 ["tree","a","b"] (Zeq K mg)) (T:Txt K mg):FnOk P w K mg base (CXE P w) 3 f fd ["tree","heights","far","pair"] (Zdy K mg):=by
 refine F.okX Zdz (λvs H Q E h=>?_) (λcdv A outer s H vs Q E hr h=>?_)
 ·obtain⟨t,h,far,v,T,hs,pr,rfl,_⟩:=h;rfl
 obtain⟨t,h,far,v,T',hs,pr,rfl,ht,hh,hv,hG,hl,k1⟩:=h
 refine⟨_,(Zc (ZQ (Zo Zbg (pv 2) Zf (Zr _)) (Zi (Zu (ZaN Zrc (pv 3) Ze1 (Zr _)))) ZC)
   (Zc (ZQ (PW.pt (Zf5 (Ze3 (Ze2 (Zk (Zhj (K:=K) rfl) rfl T.b_isinstance Zdu (Za (pv 3) (Za (ZkP (v:=.ty "tuple") rfl T.b_tuple Zb6 rfl) Zb))))) (Zd8 (Zo ZiD (Zk (Zl (K:=K) rfl) rfl T.b_len PySem.boot_len (Za (pv 3) Zb)) Zf (Zr _))))) (Zi (Zu Zcv)) ZC)
   (Zc (Ze5 (pv 3) (Zhe (n:=2) rfl (ZJ (Zm (i:=4) Zdz.nd rfl (Or.inl rfl)) (ZJ (Zm (i:=5) Zdz.nd rfl (Or.inl rfl)) Zbv))))
   (Zi (Zu (Zea (Zg ZcN (hr.mono (by decide)) rfl Zv (Za (pv 0) (Za (pv 4) (Za (pv 5) Zb)))) (Zd9 (ZaN (ZrB (K:=K) rfl) (Zn ZS (ZD Zy (pv 1) (pv 4) (λ_ _=>rfl)) (ZD Zy (pv 1) (pv 5) (λ_ _=>rfl))) (Zds (Za (Zn Zax Zf (pv 2)) (Za (Zn ZS (Zn Zax Zf (pv 2)) Zf) Zb))) (by with_unfolding_all rfl))))))))),?_⟩
 have h40:=hG.1
 walk_at "rd"
 cases pr with
 |none =>
  have ev:v=.non:=hv
  subst ev
  exact ZF (λc=>k1 _ H ⟨λ_=>c,λ_=>decide_eq_true rfl⟩ (Zh.refl H)) λc=>⟨false,.inl ⟨_,.non,by with_unfolding_all rfl⟩,ZF (λ_=>k1 false H (Zd5 rfl c) (Zh.refl H)) λz=>absurd rfl z⟩
 |some z =>
  obtain⟨q,rfl,hq⟩:=hv
  obtain⟨a,b⟩:=z
  refine ZF (λc=>k1 _ H (Zd5 (decide_eq_false λz=>nomatch z) λz=>z.1 c) (Zh.refl H)) λc=>⟨true,.inl ⟨_,.tup hq,by with_unfolding_all rfl⟩,ZF (λz=>nomatch z) λ_=>⟨q,rfl,_,.inr (SqT.of hq),ZF (λz=>absurd rfl z) λ_=>⟨q,rfl,_,SqT.of hq,rfl,_,_,rfl,_,_,rfl,rfl,t,T',a,b,rfl,ht,by omega,λH1 s1=>⟨_,rfl,ZF (λo=>?_) λo=>k1 false H1 (Zd5 rfl λz=>o (decide_eq_true (show 0<=b/\b<(T'.length:Int)/\a∈Zak T' b.toNat from z.2.1))) s1⟩⟩⟩⟩
  obtain⟨x,y,rfl,rfl,hy,hx,hw⟩:=Zsa hG (of_decide_eq_true o)
  refine⟨_,_,rfl,SqL.of (s1 _ _ hh),_,ZI (by omega),_,_,rfl,SqL.of (s1 _ _ hh),_,ZI (by omega),?_⟩
  refine⟨_,rfl,_,rfl,Zfa (by decide) (by decide),Zfa (by decide) (by decide),by decide,λq2 zq2=>⟨_,.inr (SqT.of Zd),rfl,rfl,?_⟩⟩
  rw[in_two]
  refine k1 _ _ (decide_eq_true_iff.trans ⟨λz=>⟨c,over_of hy hw,?_⟩,λz=>?_⟩) (s1.ZM zq2)
  ·simpa only[Int.toNat_natCast]using z
  ·simpa only[Int.toNat_natCast]using z.2.2
theorem ZhD {f:Addr}{fd:FuncData} (F:Fun K "nearest_right" "nearest_right" Zab f fd) (Z3:Callee P w K mg base "tree_of" 2 ["row"] (ZbS K mg)) (ZZ:Callee P w K mg base "flattest" 5 ["tree"] (Zbq K mg)) (ZG:Callee P w K mg base "heights_of" 1 ["flat","row"] (ZaH K mg)) (Zey:Callee P w K mg base "pair_shows" 3 ["tree","heights","far","pair"] (Zdy K mg)) (T:Txt K mg):FnOk P w K mg base (CXE P w) 6 f fd ["tree","row","far","made","pair"] (ZbU K mg):=by
 refine F.okX ZbW (λvs H Q E h=>?_) (λcdv A outer s H vs Q E hr h=>?_)
 ·obtain⟨t,r,m,far,v,T,ns,ms,pr,rfl,_⟩:=h;rfl
 obtain⟨t,r,m,far,v,T',ns,ms,pr,rfl,ht,hr1,hm,hv,hG,hl,hml,k1⟩:=h
 refine⟨_,(Zc (Zq (i:=5) ZbW.nd rfl (Or.inl rfl) (Zg ZG (hr.mono (by decide)) rfl Zaw (Za (Zg ZZ (hr.mono (by decide)) rfl Zaw (Za (pv 0) Zb)) (Za (pv 1) Zb))))
   (Zc (ZQ (Zo (Zge (K:=K) rfl hr) (Zg Z3 (hr.mono (by decide)) rfl Zv (Za (pv 3) Zb)) (pv 0) (Zr _)) (Zi (Zu Zcv)) ZC)
   (Zc (Zq (i:=6) ZbW.nd rfl (Or.inl rfl) (Zk (Zru (K:=K) rfl rfl) rfl T.b_all bt_all (Za (Zah ["number","other","far"] [none,none,some 2] rfl rfl rfl (Zli (K:=K) rfl rfl T.b_zip (Za (pv 3) (Za (pv 1) Zb))) (λ_ _ _ _ _=>(ZfO (K:=K) (n:=2) rfl rfl (ZJ (Zm (i:=0) (show(["number","other","far"]:List Str).Nodup from by decide +kernel) rfl (Or.inl rfl)) (ZJ (Zm (i:=1) (show(["number","other","far"]:List Str).Nodup from by decide +kernel) rfl (Or.inl rfl)) Zbv)))) (λ_ _ _ _ _=>ZK) (λ_ _ _ _ _=>(ZaN Zoo (Zk ZiE rfl T.b_abs ZnA (Za (Zn ZS (pv 0) (pv 1)) Zb)) (pv 2) (Zr _))) (ZdR (Z9 Zs (Z9 Zs ZdQ)))) Zb)))
   (Zi (Zu (Zea (pv 6) (Zd9 (Zg Zey (hr.mono (by decide)) rfl Zv (Za (pv 0) (Za (pv 5) (Za (pv 2) (Za (pv 4) Zb)))))))))))),?_⟩
 have h40:=hG.1
 have eF:(Ze T').length=T'.length:=ZY T'
 walk_at "rd"
 refine⟨t,T',rfl,ht,by omega,λ_ fl H1 s1 hfl=>?_,λz=>absurd hG z⟩
 refine⟨fl,r,Ze T',ns,rfl,hfl,s1.q hr1,by omega,by omega,λ_ hh H2 zh s2 hhh=>?_,λz=>absurd (by omega) z⟩
 refine⟨m,ms,rfl,(s1.trans s2).q hm,hml,λt2 es H3 hE s3 ht2=>⟨t2,rfl,?_⟩⟩
 have s13:=s1.trans (s2.trans s3)
 have e3:=Zeg (n:=2) (K:=K) (H:=H3) Zdh (V.ref t2) (V.ref t) es T' (Zag (SqT.of ht2)) (Zag (SqT.of (s13 _ _ ht)))
 refine⟨_,e3,ZF (λz=>k1 false H3 (Zd5 rfl λy=>of_decide_eq_false z (hE.unique y.1)) s13) λz=>?_⟩
 have ee:es=T':=of_decide_eq_true (by simpa using z)
 subst ee
 obtain⟨tm,bm⟩:=SqB.of (s13.q hm)
 obtain⟨tr,br⟩:=SqB.of (s13.q hr1)
 have eN:=hE.1
 refine⟨tm,tr,_,bm,_,br,?_⟩
 refine comp_map (n:=es.length) (λk=>V.bl (decide ((if nth ms k-nth ns k<0 then -(nth ms k-nth ns k)else nth ms k-nth ns k)<=far))) (Nat.lt_of_le_of_lt (show _<=1000 by omega) (by decide)) (λj Hz s hj=>⟨_,_,_,_,s.ZeZ bm,s.ZeZ br,ZaE (by omega),ZaE (by omega)⟩) (λHz s=>⟨_,_,s.ZeZ bm,s.ZeZ br,.inl (by rw[List.length_map];omega)⟩) ?_ ?_
 ·rintro k x Hz Hw hk sz ⟨q,x1,y1,zq,rfl,rfl,hx,hy⟩
  have ex:=hx _ (sz.ZeZ bm)
  have ey:=hy _ (sz.ZeZ br)
  rw[ZaE (by omega)]at ex ey
  cases ex
  cases ey
  walk_at "rd"
  exact⟨_,SqT.of Zd,rfl,_,_,rfl,_,_,rfl,rfl,_,rfl,_,rfl,CW.next hk rfl (sz.ZM zq)⟩
 ·intro q Hz sz hq
  refine⟨q,rfl,(List.range es.length).map λk=>decide ((if nth ms k-nth ns k<0 then -(nth ms k-nth ns k)else nth ms k-nth ns k)<=far),SqL.of (by rw[Zd,List.map_map];rfl),?_⟩
  have g:=sz.ZM (o:=.lst ((List.range es.length).map λk=>V.bl (decide ((if nth ms k-nth ns k<0 then -(nth ms k-nth ns k)else nth ms k-nth ns k)<=far)))) hq
  refine ZF (λc=>?_) λc=>k1 false _ (Zd5 rfl λy=>c (List.all_eq_true.mpr λx hx=>?_)) (s13.trans g)
  ·refine⟨t,hh,far,v,es,hgt (Ze es) ns,pr,rfl,(s13.trans g) _ _ ht,g _ _ (s3 _ _ hhh),hv.same (s13.trans g),hG,by rw[Zcz];omega,λz H4 hz s4=>k1 z H4 (hz.trans ⟨λy=>⟨hE,λp hp=>?_,y⟩,λy=>y.2.2⟩) ((s13.trans g).trans s4)⟩
   exact of_decide_eq_true (List.all_eq_true.mp c _ (List.mem_map.mpr ⟨p,List.mem_range.mpr hp,rfl⟩))
  ·obtain⟨p,hp,rfl⟩:=List.mem_map.mp hx
   exact decide_eq_true (y.2.1 p (List.mem_range.mp hp))
theorem Zio {f:Addr}{fd:FuncData} (F:Fun K "_law_any_row" "_law_any_row" Zas f fd) (Zp:Callee P w K mg base "_law_take" 1 ["pot","many"] (Zaz K mg)) (Zat:Callee P w K mg base "_law_kin_row" 5 ["pot","tree"] (Za3 K mg)) (T:Txt K mg):FnOk P w K mg base (CXE P w) 6 f fd ["pot","tree"] (Zcf K mg):=by
 refine F.okX Zad (λvs H Q E h=>?_) (λcdv A outer s H vs Q E hr h=>?_)
 ·obtain⟨p,t,T,rfl,_⟩:=h;rfl
 obtain⟨p,t,T',rfl,hP,ht,hG,hTb,k1⟩:=h
 refine⟨_,(Zc (Zq (i:=2) Zad.nd rfl (Or.inl rfl) (Zg Zat (hr.mono (by decide)) rfl Zv (Za (pv 0) (Za (pv 1) Zb))))
   (Zc (Zq (i:=3) Zad.nd rfl (Or.inl rfl) (Zg Zp (hr.mono (by decide)) rfl Zv (Za (pv 0) (Za Zf Zb))))
   (Zc (ZQ (Zo Zbg (pv 3) Zf (Zr _)) (Zi (Za0 (i:=2) ["number","pot"] [none,some 0] Zad.nd rfl (Or.inl rfl) rfl rfl rfl (ZaM (pv 2)) (λ_ _ _ _ _=>(Zm (i:=0) (show(["number","pot"]:List Str).Nodup from by decide +kernel) rfl (Or.inl rfl))) (λ_ _ _ _ _=>ZK) (λ_ _ _ _ _=>(Zn ZS (Zn Zaj (pv 0) (Zg Zp (hr.mono (by decide)) rfl Zv (Za (pv 1) (Za Zf Zb)))) Zf)) Zs)) ZC)
   (Zc (ZQ (Zo Zbg (pv 3) Zf (Zr _)) (Zi (Za0 (i:=2) ["number","pot"] [none,some 0] Zad.nd rfl (Or.inl rfl) rfl rfl rfl (ZaM (pv 2)) (λ_ _ _ _ _=>(Zm (i:=0) (show(["number","pot"]:List Str).Nodup from by decide +kernel) rfl (Or.inl rfl))) (λ_ _ _ _ _=>ZK) (λ_ _ _ _ _=>(Zn ZS (Zg Zp (hr.mono (by decide)) rfl Zv (Za (pv 1) (Za Zf Zb))) Zf)) Zs)) ZC)
   (Zc (ZQ (Zo Zbg (pv 3) Zf (Zr _)) (Zi (Za0 (i:=2) ["number","pot"] [none,some 0] Zad.nd rfl (Or.inl rfl) rfl rfl rfl (ZaM (pv 2)) (λ_ _ _ _ _=>(Zm (i:=0) (show(["number","pot"]:List Str).Nodup from by decide +kernel) rfl (Or.inl rfl))) (λ_ _ _ _ _=>ZK) (λ_ _ _ _ _=>(Zn Zax (Zn ZS (Zg Zp (hr.mono (by decide)) rfl Zv (Za (pv 1) (Za Zf Zb))) Zf) (Zn Zaj (Zn Zeb Zf Zf) (Zg Zp (hr.mono (by decide)) rfl Zv (Za (pv 1) (Za Zf Zb)))))) Zs)) ZC)
   (Zi (Zu (pv 2)))))))),?_⟩
 have h40:=hG.1
 refine ZaX (fun σ Hx=>∃(r:Addr) (ns:List Int),σ=[some (.ref p),some (.ref t),some (.ref r),none]/\H r=none/\ns.length=T'.length/\Hx r=some (.lst (ns.map V.int))/\Zz Hx p/\Exc p H Hx) (λR hR=>?_) ?_
 ·walk_at "rd"
  exact⟨p,t,T',rfl,hP,ht,hG,hTb,λr ns H1 zr hT1 _ hr1 P1 e1=>hR _ _ ⟨r,ns,rfl,zr,hT1.1.symm,hr1,P1,e1⟩⟩
 rintro σ H1 ⟨r,ns,rfl,zr,hn,hr1,P1,e1⟩
 refine ZaX (fun σ Hx=>∃(d:Int),σ=[some (.ref p),some (.ref t),some (.ref r),some (.int d)]/\Hx r=some (.lst (ns.map V.int))/\Zz Hx p/\Exc p H Hx) (λR hR=>?_) ?_
 ·walk_at "rd"
  exact⟨p,_,rfl,by decide,by decide,P1,λd H2 d0 d1 P2 e2=>hR _ _ ⟨d,rfl,e2 _ _ (hP.ne zr) hr1,P2,e1.trans e2⟩⟩
 clear hr1 P1 e1 H1
 rintro σ H1 ⟨d,rfl,hr1,P1,e1⟩
 refine ZaX (fun σ Hx=>∃(r:Addr) (ns:List Int),σ=[some (.ref p),some (.ref t),some (.ref r),some (.int d)]/\H r=none/\ns.length=T'.length/\Hx r=some (.lst (ns.map V.int))/\Zz Hx p/\Exc p H Hx) (λR hR=>?_) ?_
 ·walk_at "rd"
  have nrp:r≠p:=hP.ne zr
  refine ZF (λ_=>?_) λ_=>hR _ _ ⟨r,ns,rfl,zr,hn,hr1,P1,e1⟩
  refine⟨⟨_,SqL.of hr1⟩,ZgK (n:=T'.length) (λj acc Hz=>∃bs:List Int,acc=bs.map V.int/\bs.length=j/\Zz Hz p/\Exc p H1 Hz) (Nat.lt_of_le_of_lt (show _<=1000 by omega) (by decide)) ⟨[],rfl,rfl,P1,(Zh.refl H1).ZhY⟩ (λj acc Hz ⟨_,_,_,_,e⟩ hj=>⟨_,_,SqL.of (e _ _ nrp hr1),ZaE (by omega)⟩) (λacc Hz ⟨_,_,_,_,e⟩=>⟨_,SqL.of (e _ _ nrp hr1),by rw[List.length_map];omega⟩) ?_ ?_⟩
  ·rintro j x acc Hz Hw hj hla ⟨bs,rfl,hbs,Pz,ez⟩ ⟨rfl,hx⟩
   have exx:=hx _ (SqL.of (ez _ _ nrp hr1))
   rw[ZaE (by omega)]at exx
   cases exx
   walk_at "rd"
   exact⟨p,_,rfl,by decide,by decide,Pz,λz H4 z0 z1 P4 e4=>⟨z,rfl,CA.take hj hla ⟨bs++[nth ns j+z-2],by simp,by simp[hbs],P4,ez.trans e4⟩⟩⟩
  ·rintro l acc Hz ⟨bs,rfl,hbs,Pz,ez⟩ _ zl
   have zl1:H1 l=none:=ez.free (Pz.ne zl) zl
   exact hR _ _ ⟨l,bs,rfl,e1.free (P1.ne zl1) zl1,hbs,Zd,Pz.upd zl,(e1.trans ez).same ((Zh.refl Hz).upd zl)⟩
 clear hr1 P1 e1 H1 zr hn
 rintro σ H1 ⟨r,ns,rfl,zr,hn,hr1,P1,e1⟩
 refine ZaX (fun σ Hx=>∃(r:Addr) (ns:List Int),σ=[some (.ref p),some (.ref t),some (.ref r),some (.int d)]/\H r=none/\ns.length=T'.length/\Hx r=some (.lst (ns.map V.int))/\Zz Hx p/\Exc p H Hx) (λR hR=>?_) ?_
 ·walk_at "rd"
  have nrp:r≠p:=hP.ne zr
  refine ZF (λ_=>?_) λ_=>hR _ _ ⟨r,ns,rfl,zr,hn,hr1,P1,e1⟩
  refine⟨⟨_,SqL.of hr1⟩,ZgK (n:=T'.length) (λj acc Hz=>∃bs:List Int,acc=bs.map V.int/\bs.length=j/\Zz Hz p/\Exc p H1 Hz) (Nat.lt_of_le_of_lt (show _<=1000 by omega) (by decide)) ⟨[],rfl,rfl,P1,(Zh.refl H1).ZhY⟩ (λj acc Hz ⟨_,_,_,_,e⟩ hj=>⟨_,_,SqL.of (e _ _ nrp hr1),ZaE (by omega)⟩) (λacc Hz ⟨_,_,_,_,e⟩=>⟨_,SqL.of (e _ _ nrp hr1),by rw[List.length_map];omega⟩) ?_ ?_⟩
  ·rintro j x acc Hz Hw hj hla ⟨bs,rfl,hbs,Pz,ez⟩ ⟨rfl,hx⟩
   walk_at "rd"
   exact⟨p,_,rfl,by decide,by decide,Pz,λz H4 z0 z1 P4 e4=>⟨z,rfl,CA.take hj hla ⟨bs++[z-4],by simp,by simp[hbs],P4,ez.trans e4⟩⟩⟩
  ·rintro l acc Hz ⟨bs,rfl,hbs,Pz,ez⟩ _ zl
   have zl1:H1 l=none:=ez.free (Pz.ne zl) zl
   exact hR _ _ ⟨l,bs,rfl,e1.free (P1.ne zl1) zl1,hbs,Zd,Pz.upd zl,(e1.trans ez).same ((Zh.refl Hz).upd zl)⟩
 clear hr1 P1 e1 H1 zr hn
 rintro σ H1 ⟨r,ns,rfl,zr,hn,hr1,P1,e1⟩
 walk_at "rd"
 have nrp:r≠p:=hP.ne zr
 refine ZF (λ_=>?_) λ_=>k1 r ns H1 zr hn hr1 P1 e1
 refine⟨⟨_,SqL.of hr1⟩,ZgK (n:=T'.length) (λj acc Hz=>∃bs:List Int,acc=bs.map V.int/\bs.length=j/\Zz Hz p/\Exc p H1 Hz) (Nat.lt_of_le_of_lt (show _<=1000 by omega) (by decide)) ⟨[],rfl,rfl,P1,(Zh.refl H1).ZhY⟩ (λj acc Hz ⟨_,_,_,_,e⟩ hj=>⟨_,_,SqL.of (e _ _ nrp hr1),ZaE (by omega)⟩) (λacc Hz ⟨_,_,_,_,e⟩=>⟨_,SqL.of (e _ _ nrp hr1),by rw[List.length_map];omega⟩) ?_ ?_⟩
 ·rintro j x acc Hz Hw hj hla ⟨bs,rfl,hbs,Pz,ez⟩ ⟨rfl,hx⟩
  walk_at "rd"
  refine⟨p,_,rfl,by decide,by decide,Pz,λz H4 z0 z1 P4 e4=>⟨z,rfl,⟨by decide,by decide,by decide⟩,p,_,rfl,by decide,by decide,P4,λy H5 y0 y1 P5 e5=>⟨y,rfl,Zfa (by omega) (by omega),CA.take hj hla ⟨bs++[_],by rw[List.map_append];rfl,by simp[hbs],P5,ez.trans (e4.trans e5)⟩⟩⟩⟩
 ·rintro l acc Hz ⟨bs,rfl,hbs,Pz,ez⟩ _ zl
  have zl1:H1 l=none:=ez.free (Pz.ne zl) zl
  exact k1 l bs _ (e1.free (P1.ne zl1) zl1) hbs Zd (Pz.upd zl) ((e1.trans ez).same ((Zh.refl Hz).upd zl))
theorem ZpW {f : Addr} {fd : FuncData} (F : Fun K "lesser" "lesser" Zd2 f fd)  (T : Txt K mg) : FnOk P w K mg base (CXE P w) 1 f fd ["row", "one", "other"] (Zhx K mg) := by
  refine F.okX ZpK (fun vs H Q E h => ?_) (fun cdv A outer s H vs Q E hr h => ?_)
  · obtain ⟨r, ns, i, j, rfl, _⟩ := h; rfl
  obtain ⟨r, ns, i, j, rfl, hS, hi, hj, k1⟩ := h
  refine ⟨_, (Zi (Zu (ZlS (Zo ZgE (ZD (Zpf (K := K) rfl) (pv 0) (pv 2) (fun _ _ => rfl)) (ZD (Zpf (K := K) rfl) (pv 0) (pv 1) (fun _ _ => rfl)) (Zr _)) (pv 2) (pv 1)))), ?_⟩
  walk_at "rd"
  refine ⟨_, hS, _, ZI hj, _, hS, _, ZI hi, _, rfl, _, rfl, ?_⟩
  by_cases h : nth ns j < nth ns i
  · rw [if_pos h] at k1 ⊢; exact k1
  · rw [if_neg h] at k1 ⊢; exact k1
theorem ZlD {f:Addr}{fd:FuncData} (F:Fun K "low_steps" "low_steps" Zbk f fd) (Zjl:Callee P w K mg base "lesser" 1 ["row","one","other"] (Zhx K mg)) (T:Txt K mg):FnOk P w K mg base (CXE P w) 2 f fd ["row"] (Zes K mg):=by
 refine F.okX ZbC (λvs H Q E h=>?_) (λcdv A outer s H vs Q E hr h=>?_)
 ·obtain⟨r,ns,rfl,_⟩:=h;rfl
 obtain⟨r,ns,rfl,hS,hn,k1⟩:=h
 refine⟨_,(Zc (Zq (i:=1) ZbC.nd rfl (Or.inl rfl) (Zdt Zb))
   (Zc (Zq (i:=2) ZbC.nd rfl (Or.inr rfl) (ZbM (Zj0 rfl) rfl T.b_list Zoy (Za (Zhk rfl T.b_range (Za (Zk (Zl (K:=K) rfl) rfl T.b_len PySem.boot_len (Za (pv 0) Zb)) Zb)) Zb)))
   (Zc (Zbw (ZcP PassesOwn.never rfl (Zkh rfl T.b_range (Za Zf (Za (Zn Zaj (Zk (Zl (K:=K) rfl) rfl T.b_len PySem.boot_len (Za (pv 0) Zb)) Zf) Zb))) (Zm (i:=3) ZbC.nd rfl (Or.inr rfl)) (Zc (Zq (i:=2) ZbC.nd rfl (Or.inr rfl) (Zah ["a","row","lows","size"] [none,some 0,some 2,some 3] rfl rfl rfl (Z8 rfl T.b_range (Za (Zn Zaj (Zn ZS (Zk (Zl (K:=K) rfl) rfl T.b_len PySem.boot_len (Za (pv 0) Zb)) (pv 3)) Zf) Zb)) (λ_ _ _ _ _=>(Zm (i:=0) (show(["a","row","lows","size"]:List Str).Nodup from by decide +kernel) rfl (Or.inl rfl))) (λ_ _ _ _ _=>ZK) (λ_ _ _ _ _=>(Zg Zjl (hr.mono (by decide)) rfl Zv (Za (pv 1) (Za (ZD (r:=ZkW K) Zy (pv 2) (pv 0) (λ_ _=>rfl)) (Za (Zn ZS (Zn Zaj (pv 0) (pv 3)) Zf) Zb))))) Zs))
   (Zi (Za2 (ZeR PySem.F.plainAttrs_list PySem.F.slot_list_append PySem.F.type_list_append ZaO (pv 1) (Za (Zah ["a","place"] [none,none] rfl rfl rfl (Zlc (K:=K) rfl rfl T.b_enumerate (Za (pv 2) Zb)) (λ_ _ _ _ _=>(ZfO (K:=K) (n:=2) rfl rfl (ZJ (Zm (i:=0) (show(["a","place"]:List Str).Nodup from by decide +kernel) rfl (Or.inl rfl)) (ZJ (Zm (i:=1) (show(["a","place"]:List Str).Nodup from by decide +kernel) rfl (Or.inl rfl)) Zbv)))) (λ_ _ _ _ _=>ZK) (λ_ _ _ _ _=>(Zn ZS (pv 1) (pv 0))) (ZdR (Z9 Zs (Z9 Zs ZdQ)))) Zb)))))))
   (Zi (Zu (pv 1)))))),?_⟩
 walk_at "rd"
 have eL:(ns.map V.int).length=ns.length:=List.length_map ..
 refine⟨Nat.zero_le _,λtb htb=>⟨_,((Zh.refl H).upd htb).q hS,by omega,by rw[eL];omega,λrg hrg=>⟨_,Zd,by omega,by rw[eL];omega,λlw hlw=>?_⟩⟩⟩
 have en:(((ns.map V.int).length:Nat):Int).toNat=ns.length:=by rw[eL];omega
 rw[en]at *
 rw[eL]at hlw⊢
 have s0:Zh H (upd (upd (upd H tb (.lst [])) rg (.rng 0 (ns.length:Nat))) lw (.lst ((List.range ns.length).map λ(i:Nat)=>V.int (i:Int)))):=(((Zh.refl H).upd htb).ZM hrg).ZM hlw
 have hlw0:(upd (upd (upd H tb (.lst [])) rg (.rng 0 (ns.length:Nat))) lw (.lst ((List.range ns.length).map λ(i:Nat)=>V.int (i:Int)))) lw=some (.lst ((Zca (nth ns) ns.length 0).map V.int)):=by
  rw[Zd,Zmc,List.map_map];rfl
 have hR0:Zb7 H (upd (upd (upd H tb (.lst [])) rg (.rng 0 (ns.length:Nat))) lw (.lst ((List.range ns.length).map λ(i:Nat)=>V.int (i:Int)))) tb []:=(Zb7.nil htb).same (((Zh.refl _).ZM hrg).ZM hlw)
 generalize (upd (upd (upd H tb (.lst [])) rg (.rng 0 (ns.length:Nat))) lw (.lst ((List.range ns.length).map λ(i:Nat)=>V.int (i:Int))))=H0 at s0 hlw0 hR0⊢
 refine⟨_,s0.q hS,by decide,by decide,by omega,by rw[eL];omega,?_⟩
 have en2:((((ns.map V.int).length:Nat):Int)+1-1).toNat=ns.length:=by rw[eL];omega
 rw[en2]
 refine ZbL (λi σ Hx=>∃lw v3,σ=[some (.ref r),some (.ref tb),some (.ref lw),v3]/\Zh H Hx/\Hx lw=some (.lst ((Zca (nth ns) ns.length (i-1)).map V.int))/\Zb7 H Hx tb ((List.range i).map (Zay (nth ns) ns.length))) ⟨lw,none,rfl,s0,hlw0,hR0⟩ ?_ ?_
 ·rintro i σ Hx hi ⟨lw,v3,rfl,sx,hxl,hR⟩
  have e1:((1:Int)+(i:Int))=((i+1:Nat):Int):=by omega
  rw[e1]
  refine ZaX (fun σ Hy=>∃lw,σ=[some (.ref r),some (.ref tb),some (.ref lw),some (.int ((i+1:Nat):Int))]/\Zh H Hy/\Hy lw=some (.lst ((Zca (nth ns) ns.length i).map V.int))/\Zb7 H Hy tb ((List.range i).map (Zay (nth ns) ns.length))) (λR hRR=>?_) ?_
  ·walk_at "rd"
   refine⟨_,sx.q hS,by omega,by rw[eL];omega,?_⟩
   have en3:(((((ns.map V.int).length:Nat):Int)-((i+1:Nat):Int)+1)).toNat=ns.length-i:=by rw[eL];omega
   rw[en3]
   refine comp_map (n:=ns.length-i) (λa=>V.int (ZV (nth ns) a i:Nat)) (Nat.lt_of_le_of_lt (show _<=1000 by omega) (by decide)) (λj Hy s hj=>hj) (λHy s=>Nat.le_refl _) ?_ ?_
   ·rintro a x Hy Hz ha sy ⟨rfl,rfl⟩
    have ea:((0:Int)+(a:Int))=(a:Int):=by omega
    rw[ea]
    walk_at "rd"
    have hlt:=ZoI (nth ns) a (i-1)
    refine⟨_,SqL.of (sy _ _ hxl),_,ZI (by rw[ZcS];omega),r,ns,ZV (nth ns) a (i-1),a+i,?_,(sx.trans sy).q hS,by omega,by omega,CW.next ha ?_ sy⟩
    ·rw[ZnB (by omega),show((a:Int)+((i+1:Nat):Int)-1)=((a+i:Nat):Int) by omega]
    ·rw[ZnC]
   ·intro q Hy sy hq
    refine hRR _ _ ⟨q,rfl,(sx.trans sy).ZM hq,?_,hR.same (sy.ZM hq)⟩
    rw[Zd];simp[Zca]
  clear hxl hR sx Hx
  rintro σ Hx ⟨lw,rfl,sx,hxl,hR⟩
  walk_at "rd"
  obtain⟨as,r1,r2,r3,r4,r5,r6⟩:=id hR
  refine⟨ZaC r1,_,SqL.of hxl,?_⟩
  refine comp_map (n:=ns.length-i) (λa=>V.int ((ZV (nth ns) a i:Int)-(a:Int))) (Nat.lt_of_le_of_lt (show _<=1000 by omega) (by decide)) (λj Hy s hj=>⟨_,_,SqL.of (s _ _ hxl),List.getElem?_eq_getElem (by rw[List.length_map,ZcS];exact hj)⟩) (λHy s=>⟨_,SqL.of (s _ _ hxl),by rw[List.length_map,ZcS]⟩) ?_ ?_
  ·rintro a x Hy Hz ha sy ⟨q,v,hq,rfl,rfl,hv⟩
   have ex:=hv _ (SqL.of (sy _ _ hxl))
   have ev:v=V.int (ZV (nth ns) a i:Nat):=by
    rw[List.getElem?_map,List.getElem?_eq_getElem (by rw[ZcS];exact ha)]at ex
    cases ex
    simp[Zca]
   subst ev
   walk_at "rd"
   exact⟨_,SqT.of Zd,rfl,_,_,rfl,_,_,rfl,rfl,_,rfl,_,rfl,CW.next ha rfl (sy.ZM hq)⟩
  ·intro q Hy sy hq
   have u:=sy.ZM (o:=.lst ((List.range (ns.length-i)).map λa=>V.int ((ZV (nth ns) a i:Int)-(a:Int)))) hq
   have ntq:tb≠q:=λz=>by rw[<-z,sy _ _ r1]at hq;cases hq
   have hqq:(upd Hy q (.lst ((List.range (ns.length-i)).map λa=>V.int ((ZV (nth ns) a i:Int)-(a:Int))))) q=some (.lst ((Zay (nth ns) ns.length i).map V.int)):=by rw[Zd];simp[Zay]
   have RN:=Zb7.push (H0:=H) (p:=q) (rs:=(List.range i).map (Zay (nth ns) ns.length)) (r:=Zay (nth ns) ns.length i) (u _ _ r1) r2 r3 (λj h1 h2=>u _ _ (r4 j h1 h2)) r5 r6 hqq ntq.symm ((sx.trans sy).free hq)
   rw[<-Zle]at RN
   have nlt:lw≠tb:=λz=>by
    rw[z,r1]at hxl
    have:=HO.lst.inj (Option.some.inj hxl)
    cases as with
    |nil =>
     have h9:=congrArg List.length this
     rw[List.length_map,List.length_map,ZcS]at h9
     simp at h9;omega
    |cons c as =>
     have h9:=congrArg List.head? this
     rw[List.map_cons,List.head?_cons]at h9
     cases hc:(Zca (nth ns) ns.length i)with
     |nil=>rw[hc]at h9;cases h9
     |cons d ds=>rw[hc]at h9;cases h9
   refine⟨_,u _ _ r1,Nat.lt_of_le_of_lt (show _<=1000 by rw[List.length_map,r3];simp;omega) (by decide),(sx.trans u).upd r5,?_,RN⟩
   rw[Zj nlt]
   exact u _ _ hxl
 ·rintro σ Hx ⟨lw,v3,rfl,sx,hxl,hR⟩
  walk_at "rd"
  exact k1 tb Hx sx hR.rows
theorem Zn7 {f : Addr} {fd : FuncData} (F : Fun K "parting" "parting" ZcL f fd)  (T : Txt K mg) : FnOk P w K mg base (CXE P w) 1 f fd ["ones", "others", "one", "other", "size"] (Zgl K mg) := by
  refine F.okX ZcW (fun vs H Q E h => ?_) (fun cdv A outer s H vs Q E hr h => ?_)
  · obtain ⟨l, l', f, g, n, n', x, y, size, rfl, _⟩ := h; rfl
  obtain ⟨l, l', f', g, n, n', x, y, size, rfl, hL, hL', hx, hy, hn, hn', k1, k2⟩ := h
  refine ⟨_, (Zc (Zbw (ZcP PassesOwn.never rfl (Zkh rfl T.b_range (Za Zf (Za (pv 4) Zb))) (Zm (i := 5) ZcW.nd rfl (Or.inl rfl)) (Zc (Zq (i := 6) ZcW.nd rfl (Or.inl rfl) (Ze7 Ziw (ZD Zy (pv 0) (pv 5) (fun _ _ => rfl)) (Zec (pv 2)) (Zec (Zn ZS (Zn Zaj (pv 2) (pv 4)) (pv 5)))))
      (Zc (Zq (i := 7) ZcW.nd rfl (Or.inl rfl) (Ze7 Ziw (ZD Zy (pv 1) (pv 5) (fun _ _ => rfl)) (Zec (pv 3)) (Zec (Zn ZS (Zn Zaj (pv 3) (pv 4)) (pv 5)))))
      (Zi (ZQ (Zo (Zge (K := K) rfl hr) (pv 6) (pv 7) (Zr _)) (Zc (Zq (i := 8) ZcW.nd rfl (Or.inl rfl) (ZeR PySem.F.plainAttrs_list PySem.F.slot_list_index PySem.F.type_list_index (Zps (K := K) rfl) (Zah ["x", "y"] [none, none] rfl rfl rfl (Zro rfl T.b_zip (Za (pv 6) (Za (pv 7) Zb))) (fun _ _ _ _ _ => (ZfO (K := K) (n := 2) rfl rfl (ZJ (Zm (i := 0) (show (["x", "y"] : List Str).Nodup from by decide +kernel) rfl (Or.inl rfl)) (ZJ (Zm (i := 1) (show (["x", "y"] : List Str).Nodup from by decide +kernel) rfl (Or.inl rfl)) Zbv)))) (fun _ _ _ _ _ => ZK) (fun _ _ _ _ _ => (ZaN Zbg (pv 0) (pv 1) (Zr _))) (ZdR (Z9 Zs (Z9 Zs ZdQ)))) (Za Zcv Zb)))
      (Zi (Zu (Zds (Za (pv 8) (Za (Zn Zaj (pv 8) (pv 5)) Zb)))))) ZC))))))
      (Zi (Zu Ze1))), ?_⟩
  walk_at "rd"
  have en : ((size : Int) - 1).toNat = size - 1 := by omega
  rw [en]
  refine ⟨by decide, by decide, by omega, by omega, ZbL (fun i σ Hx => ∃ v5 v6 v7 v8, σ = [some (.ref l), some (.ref l'), some (.int x), some (.int y), some (.int size), v5, v6, v7, v8] ∧ Zh H Hx ∧ ∀ m, m < i + 1 → ∀ a, a + m < size → (ZV f' (x + a) m : Int) - (x + a : Nat) = (ZV g (y + a) m : Int) - (y + a : Nat)) ⟨_, _, _, _, rfl, Zh.refl H, fun m hm a ha => ?_⟩ ?_ ?_⟩
  · have : m = 0 := by omega
    subst this
    simp [ZV]
  · rintro i σ Hx hi ⟨v5, v6, v7, v8, rfl, sx, hI⟩
    have e1 : ((1 : Int) + (i : Int)) = ((i + 1 : Nat) : Int) := by omega
    rw [e1]
    have cutE : ∀ (f : Nat → Int) (n x : Nat), x + size ≤ n → Ze8 ((Zay f n (i + 1)).map V.int) (some (x : Int)) (some ((x : Int) + (size : Int) - ((i + 1 : Nat) : Int))) = (((List.range (size - (i + 1))).map fun a => (ZV f (x + a) (i + 1) : Int) - (x + a : Nat)).map V.int) := fun f n x hx => by
      have e2 : ((x : Int) + (size : Int) - ((i + 1 : Nat) : Int)) = ((x + (size - (i + 1)) : Nat) : Int) := by omega
      rw [e2, Ztu _ _ _ (by omega) (by simp [Zay]; omega), ← List.map_drop, ← List.map_take]
      congr 1
      refine List.ext_getElem (by simp [Zay]; omega) fun j h1 h2 => ?_
      have hj : j < size - (i + 1) := by simpa using h2
      simp [Zay]
    refine ZaX (fun σ Hy => ∃ q q', σ = [some (.ref l), some (.ref l'), some (.int x), some (.int y), some (.int size), some (.int ((i + 1 : Nat) : Int)), some (.ref q), v7, v8] ∧ q = q' ∧ Zh H Hy ∧ Hy q = some (.lst (((List.range (size - (i + 1))).map fun a => (ZV f' (x + a) (i + 1) : Int) - (x + a : Nat)).map V.int))) (fun R hR => ?_) ?_
    · walk_at "rd"
      obtain ⟨xs, a, g1, g2, g3⟩ := ZiV (K := K) (hL.same sx) (i := i + 1) (by omega)
      refine ⟨_, g1, _, g2, a, rfl, _, SqL.of g3, fun q hq => ?_⟩
      rw [cutE f' n x hx]
      exact hR _ _ ⟨q, q, rfl, rfl, sx.ZM hq, Zd⟩
    rintro σ H1 ⟨q, _, rfl, rfl, s1, hq⟩
    refine ZaX (fun σ Hy => ∃ q', σ = [some (.ref l), some (.ref l'), some (.int x), some (.int y), some (.int size), some (.int ((i + 1 : Nat) : Int)), some (.ref q), some (.ref q'), v8] ∧ Zh H Hy ∧ Hy q = some (.lst (((List.range (size - (i + 1))).map fun a => (ZV f' (x + a) (i + 1) : Int) - (x + a : Nat)).map V.int)) ∧ Hy q' = some (.lst (((List.range (size - (i + 1))).map fun a => (ZV g (y + a) (i + 1) : Int) - (y + a : Nat)).map V.int))) (fun R hR => ?_) ?_
    · walk_at "rd"
      obtain ⟨xs, a, g1, g2, g3⟩ := ZiV (K := K) (hL'.same s1) (i := i + 1) (by omega)
      refine ⟨_, g1, _, g2, a, rfl, _, SqL.of g3, fun q' hq' => ?_⟩
      rw [cutE g n' y hy]
      exact hR _ _ ⟨q', rfl, s1.ZM hq', ((Zh.refl H1).upd hq') _ _ hq, Zd⟩
    clear s1 hq H1
    rintro σ H1 ⟨q', rfl, s1, hq, hq'⟩
    walk_at "rd"
    refine ⟨_, Ztt (n := 2) Zdh _ _ _ _ (Zl4 (SqL.of hq)) (Zl4 (SqL.of hq')), ZF (fun z => ⟨_, SqL.of hq, _, SqL.of hq', ?_⟩) fun z => ⟨s1, fun m hm a ha => ?_⟩⟩
    · have hne := of_decide_eq_false z
      have hne2 : ¬ ∀ a, a < size - (i + 1) → (ZV f' (x + a) (i + 1) : Int) - (x + a : Nat) = (ZV g (y + a) (i + 1) : Int) - (y + a : Nat) := fun h => hne (List.map_congr_left fun a ha => h a (by simpa using ha))
      obtain ⟨a, a1, a2, a3⟩ := Zhp _ hne2
      have PA' : Zcb f' g x y size a (i + 1) := ⟨by omega, a2, fun m' hm' a' ha' => hI m' hm' a' ha', a3⟩
      refine comp_map (n := size - (i + 1)) (fun j => V.bl (decide ((ZV f' (x + j) (i + 1) : Int) - (x + j : Nat) = (ZV g (y + j) (i + 1) : Int) - (y + j : Nat)))) (Nat.lt_of_le_of_lt (show _ ≤ 1000 by omega) (by decide)) (fun j Hy s hj => ⟨_, _, _, _, SqL.of (s _ _ hq), SqL.of (s _ _ hq'), List.getElem?_eq_getElem (by simpa using hj), List.getElem?_eq_getElem (by simpa using hj)⟩) (fun Hy s => ⟨_, _, SqL.of (s _ _ hq), SqL.of (s _ _ hq'), .inl (by simp)⟩) ?_ ?_
      · rintro j v Hy Hz hj sy ⟨p, v1, v2, hp, rfl, rfl, w1, w2⟩
        have ex1 := w1 _ (SqL.of (sy _ _ hq))
        have ex2 := w2 _ (SqL.of (sy _ _ hq'))
        rw [List.getElem?_eq_getElem (by simpa using hj)] at ex1 ex2
        have ev1 := (Option.some.inj ex1).symm
        have ev2 := (Option.some.inj ex2).symm
        simp only [List.getElem_map, List.getElem_range] at ev1 ev2
        subst ev1 ev2
        walk_at "rd"
        refine ⟨_, SqT.of Zd, rfl, _, _, rfl, _, _, rfl, rfl, rfl, CW.next hj ?_ (sy.ZM hp)⟩
        congr 1
        rw [Bool.eq_iff_iff, decide_eq_true_eq, decide_eq_true_eq]
        exact ⟨fun h => V.int.inj h, fun h => by rw [h]⟩
      · intro b Hy sy hb
        refine ⟨ZaC Zd, b, rfl, _, SqL.of Zd, by simp; omega, ?_, rfl, a, ⟨V.bl false, ?_, rfl⟩, fun j v hj hv => ?_, by decide, fun t ht => ?_⟩
        · rw [List.all_eq_true]
          intro v hv
          obtain ⟨k, _, rfl⟩ := List.mem_map.mp hv
          rfl
        · simp [a1]
          exact a2
        · rw [List.getElem?_map, List.getElem?_range (by omega)] at hv
          cases hv
          show eqV (V.bl (decide _)) (V.bl false) = false
          rw [decide_eq_true (a3 j hj)]; rfl
        · refine k2 a (i + 1) PA' t _ ((s1.trans (sy.ZM hb)).ZM ht) ?_
          rw [Zd]; simp
    · have heq := Decidable.of_not_not (fun y => z (decide_eq_false y))
      by_cases e : m = i + 1
      · subst e
        have := congrArg (fun l => l.getD a 0) heq
        simpa [List.getD_eq_getElem?_getD, show a < size - (i + 1) by omega] using this
      · exact hI m (by omega) a ha
  · rintro σ Hx ⟨v5, v6, v7, v8, rfl, sx, hI⟩
    walk_at "rd"
    refine k1 (fun m a ha => ?_) _ sx
    exact hI m (by omega) a ha
theorem ZpX {f:Addr}{fd:FuncData} (F:Fun K "parted" "parted" Zd3 f fd) (Zdl:Callee P w K mg base "low_steps" 2 ["row"] (Zes K mg)) (ZhG:Callee P w K mg base "parting" 1 ["ones","others","one","other","size"] (Zgl K mg)) (T:Txt K mg):FnOk P w K mg base (CXE P w) 3 f fd ["one","other"] (Zhy K mg):=by
 refine F.okX ZpL (λvs H Q E h=>?_) (λcdv A outer s H vs Q E hr h=>?_)
 ·obtain⟨r,r',ns,ms,rfl,_⟩:=h;rfl
 obtain⟨r,r',ns,ms,rfl,hS,hS',hn,hm,k0,k1,k2⟩:=h
 refine⟨_,(Zc (ZQ (Zo ZiD (Zk (Zl (K:=K) rfl) rfl T.b_len PySem.boot_len (Za (pv 0) Zb)) (Zk (Zl (K:=K) rfl) rfl T.b_len PySem.boot_len (Za (pv 1) Zb)) (Zr _)) (Zi (ZiH rfl rfl T.c_Unlike T.x_Unlike (Za (Zhi (Zee (by decide) (ZiI (Zk (Zl (K:=K) rfl) rfl T.b_len PySem.boot_len (Za (pv 0) Zb)) (Zee (by decide) (ZiI (Zk (Zl (K:=K) rfl) rfl T.b_len PySem.boot_len (Za (pv 1) Zb)) Znn))))) Zb) Zk5)) ZC)
   (Zi (Zu (Zg ZhG (hr.mono (by decide)) rfl Zv (Za (Zg Zdl (hr.mono (by decide)) rfl Zv (Za (pv 0) Zb)) (Za (Zg Zdl (hr.mono (by decide)) rfl Zv (Za (pv 1) Zb)) (Za Zf (Za Zf (Za (Zk (Zl (K:=K) rfl) rfl T.b_len PySem.boot_len (Za (pv 0) Zb)) Zb))))))))),?_⟩
 walk_at "rd"
 have eL:(ns.map V.int).length=ns.length:=List.length_map ..
 have eM:(ms.map V.int).length=ms.length:=List.length_map ..
 refine⟨_,hS,_,hS',ZF (λz=>⟨_,hS,by omega,by rw[eL];omega,_,hS',by omega,by rw[eM];omega,λy=>⟨by decide,k0 (λe=>z (by rw[eL,eM,e]))⟩⟩) λz=>?_⟩
 have hlen:ns.length=ms.length:=by rw[eL,eM]at z;omega
 refine⟨r,ns,rfl,hS,hn,λl H1 s1 R1=>⟨r',ms,rfl,s1.q hS',hm,λl' H2 s2 R2=>⟨_,(s1.trans s2).q hS,l,l',nth ns,nth ms,ns.length,ms.length,0,0,ns.length,by rw[eL];rfl,R1.same s2,R2,by omega,by omega,hn,hm,λhN H3 s3=>?_,λa m hA t H3 s3 ht=>?_⟩⟩⟩
 ·exact k1 hlen (Zmd.mp hN) _ ((s1.trans s2).trans s3)
 ·exact k2 hlen a m hA t _ ((s1.trans s2).trans s3) ht
theorem ok_kin {f:Addr}{fd:FuncData} (F:Fun K "kin" "kin" ZkA f fd) (Zjm:Callee P w K mg base "parted" 3 ["one","other"] (Zhy K mg)) (T:Txt K mg):FnOk P w K mg base (CXE P w) 4 f fd ["one","other"] (ZnY K mg):=by
 refine F.okX sc_kin (λvs H Q E h=>?_) (λcdv A outer s H vs Q E hr h=>?_)
 ·obtain⟨r,r',ns,ms,rfl,_⟩:=h;rfl
 obtain⟨r,r',ns,ms,rfl,hS,hS',hn,hm,k1⟩:=h
 refine⟨_,(Zi (Zu (Zea (ZaN Zbg (Zk (Zl (K:=K) rfl) rfl T.b_len PySem.boot_len (Za (pv 0) Zb)) (Zk (Zl (K:=K) rfl) rfl T.b_len PySem.boot_len (Za (pv 1) Zb)) (Zr _)) (Zd9 (ZaN Zrc (Zg Zjm (hr.mono (by decide)) rfl Zaw (Za (pv 0) (Za (pv 1) Zb))) Ze1 (Zr _)))))),?_⟩
 walk_at "rd"
 have eL:(ns.map V.int).length=ns.length:=List.length_map ..
 have eM:(ms.map V.int).length=ms.length:=List.length_map ..
 refine⟨_,hS,_,hS',ZF (λz=>?_) λz=>k1 false H (by rw[eL,eM]at z;exact⟨λy=>(nomatch y),λy=>absurd (by omega) z⟩) (Zh.refl H)⟩
 have hlen:ns.length=ms.length:=by rw[eL,eM]at z;omega
 refine⟨r,r',ns,ms,rfl,hS,hS',hn,hm,λy=>absurd hlen y,λ_ hE H1 s1=>?_,λ_ a m hA t H1 s1 ht=>?_⟩
 ·exact k1 _ H1 ⟨λ_=>⟨hlen,hE⟩,λ_=>rfl⟩ s1
 ·refine k1 _ H1 ⟨λy=>?_,λy=>?_⟩ s1
  ·exact absurd (of_decide_eq_true y) (λe=>nomatch e)
  ·have:=y.2 a m hA.1
   have:=hA.2.1
   rw[Nat.zero_add]at this
   omega
theorem Zeu {ns:List Int}{c:Int}{i:Nat} (h:i<ns.length):nth (ns.map λx=>x+c) i=nth ns i+c:=by
 simp[nth,List.getD_eq_getElem?_getD,h]
theorem ZpY {T ls gs:List Int}{d:Td} (hG:ZO T) (hl:ls.length=T.length) (hg:gs.length=T.length) (h:ZkB T ls gs d):Zfi T ls gs d:=by
 refine(Zr2 hG hl hg d).mpr ?_
 cases d with
 |row ds=>exact⟨ds,h.1,rfl,h.2⟩
 |clash a b=>exact h.1
theorem Zn8 {T ns:List Int}{F:Int}{d:Td} (hG:ZO T) (hl:ns.length=T.length) (hF:Zi8 T ns F) (h:ZkB T (ns.map λx=>x-F) (ns.map λx=>x+F) d):∃ds,d=.row ds:=by
 obtain⟨ds,hD⟩:=due_ex T (ns.map λx=>x-F)
 refine⟨ds,Zr5 h ⟨hD,λp hp=>?_⟩⟩
 have:=Zjg hG hl hF hD p hp
 rw[Zeu (by omega)]
 split at this<;>omega
theorem ZlE {T ns:List Int}{F far:Int}{d:Td} (hG:ZO T) (hl:ns.length=T.length) (hF:Zi8 T ns F) (h0:0<=far) (h1:far<F) (h:ZkB T (ns.map λx=>x-far) (ns.map λx=>x+far) d):∃a b,d=.clash a b:=by
 cases d with
 |clash a b=>exact⟨a,b,rfl⟩
 |row ds =>
  exfalso
  have hT:=Zje hG h.1
  have:=ZmF hG hl hF hT h0 λp hp=>by
   have m1:=Zr9 h.1 p hp
   have m2:=h.2 p hp
   rw[Zdk (by omega)]at m1
   rw[Zeu (by omega)]at m2
   unfold Zlt
   split<;>omega
  omega
theorem ZpZ {T os:List Int}{pr:Option (Int×Int)} (hG:ZO T) (hT:Zw os T) (h:IsPair T (hgt (Ze T) os) pr):pr=none:=by
 cases pr with
 |none=>rfl
 |some z =>
  exfalso
  obtain⟨⟨b,e2,hb,hm⟩,hpos,_⟩:=ZgX h
  have hw:=Zb8 hm
  have eT:=hT.1
  have eF:(Ze T).length=T.length:=ZY T
  rw[Z0]at hm
  obtain⟨x,hx,ex⟩:=List.mem_map.mp hm
  have hO:=(Zbz hT (by omega)).mp hx
  have h1:=Zlh hT (p:=b) (o:=x) (by omega) hO.1 hO.2
  rw[<-ex,e2,show((x:Int)).toNat=x by omega,show((b:Int)).toNat=b by omega,ZE (by omega),ZE (by omega),Zaa hb,Zaa (by omega)]at hpos
  omega
theorem Zse (os:List Int):(os.map λx=>x-0)=os:=by
 rw[show(λx:Int=>x-0)=id from funext λx=>by simp,List.map_id]
theorem ZhE {T os ms:List Int}{pr:Option (Int×Int)} (hG:ZO T) (hT:Zw os T) (h:IsPair T (hgt (Ze T) os) pr) (hD:Zbr T (os.map λx=>x-ZaD (hgt (Ze T) os) pr) ms):pr=none/\ms=os:=by
 have e:=ZpZ hG hT h
 subst e
 rw[show ZaD (hgt (Ze T) os) none=0 from rfl,Zse]at hD
 exact⟨rfl,hD.uniq (Zr8 hG hT)⟩
theorem Zp0 {T ns ms:List Int}{pr:Option (Int×Int)} (hG:ZO T) (hl:ns.length=T.length) (h:IsPair T (hgt (Ze T) ns) pr) (h0:ZaD (hgt (Ze T) ns) pr=0) (hD:Zbr T (ns.map λx=>x-ZaD (hgt (Ze T) ns) pr) ms):pr=none/\ms=ns:=by
 have e:pr=none:=by
  cases pr with
  |none=>rfl
  |some z =>
   obtain⟨_,hpos,_⟩:=ZgX h
   simp only[ZaD]at h0
   omega
 subst e
 have hT:Zw ns T:=ZoW hG hl λp q hp e=>by
  obtain⟨_,nsT,hTT⟩:=id hG
  have eT:=hTT.1
  have eF:(Ze T).length=T.length:=ZY T
  have hw:=Zfb hTT (p:=p) (by omega) e
  have hqT:=Zjf hG hp (a:=q) (by rw[hw];exact List.mem_cons_self)
  by_cases c:nth (hgt (Ze T) ns) p<nth (hgt (Ze T) ns) q
  ·have:=Zbb.mpr ⟨(q:Int),p,rfl,hp,by rw[Z0,hw];exact List.mem_map.mpr ⟨q,List.mem_cons_self,rfl⟩,by simpa using c⟩
   rw[show Zcg T (hgt (Ze T) ns)=[]from h]at this
   cases this
  ·rw[ZE (by omega),ZE (by omega)]at c
   omega
 exact⟨rfl,(ZhE hG hT h hD).2⟩
theorem ZkE {T hs:List Int}{c:Int} (hl:hs.length=T.length):Zcg T (hs.map λx=>x+c)=Zcg T hs:=by
 unfold Zcg
 rw[List.flatMap_def,List.flatMap_def]
 congr 1
 refine List.map_congr_left λb hb=>?_
 have hb:=List.mem_range.mp hb
 congr 1
 refine List.filter_congr λa ha=>?_
 have:=Zb8 ha
 rw[Zeu (by omega),Zeu (by omega)]
 exact decide_eq_decide.mpr (by omega)
theorem ZtM {T hs:List Int}{c:Int}{pr:Option (Int×Int)} (hl:hs.length=T.length) (h:IsPair T hs pr):IsPair T (hs.map λx=>x+c) pr/\ZaD (hs.map λx=>x+c) pr=ZaD hs pr:=by
 cases pr with
 |none=>exact⟨(ZkE hl).trans h,rfl⟩
 |some z =>
  obtain⟨⟨b,e2,hb,hm⟩,_⟩:=ZgX h
  have hw:=Zb8 hm
  refine⟨?_,by simp only[ZaD];rw[Zeu (by omega),Zeu (by omega)];congr 1;omega⟩
  obtain⟨rs,i,hS,hi,e,hB⟩:=h
  have dk:∀j,j<rs.length->dfK (hs.map λx=>x+c) (rs.getD j [])=dfK hs (rs.getD j []):=λj hj=>by
   have hmj:rs.getD j []∈rs:=by rw[List.getD_eq_getElem?_getD,List.getElem?_eq_getElem hj];exact List.getElem_mem hj
   obtain⟨a',b',e',hb',ha',_⟩:=Zbb.mp ((List.Perm.mem_iff hS.1).mp hmj)
   have:=Zb8 ha'
   rw[e']
   simp only[dfK,List.getD_cons_zero,List.getD_cons_succ]
   rw[Zeu (by omega),Zeu (by omega)];omega
  refine⟨rs,i,by rw[ZkE hl];exact hS,hi,e,λj hj=>?_⟩
  rw[dk j hj,dk i hi]
  exact hB j hj
theorem hgt_up {F ns:List Int}{c:Int} (hl:ns.length=F.length):(hgt F ns).map (λx=>x+c)=hgt F (ns.map λx=>x+c):=by
 unfold hgt
 rw[List.map_map]
 refine List.map_congr_left λi hi=>?_
 have:=List.mem_range.mp hi
 simp only[Function.comp]
 rw[Zeu (by omega)];omega
theorem Zjj {f:Addr}{fd:FuncData} (F:Fun K "_law_within" "_law_within" ZaG f fd) (Zjn:Callee P w K mg base "fitted" 7 ["tree","least","greatest"] (Zhw K mg)) (ZcZ:Callee P w K mg base "fitted_right" 6 ["tree","least","greatest","told"] (Zce K mg)) (T:Txt K mg):FnOk P w K mg base (CXE P w) 8 f fd ["tree","row","far"] (ZcV K mg):=by
 refine F.okX ZbD (λvs H Q E h=>?_) (λcdv A outer s H vs Q E hr h=>?_)
 ·obtain⟨t,r,T,ns,far,F,rfl,_⟩:=h;rfl
 obtain⟨t,r,T',ns,far,F',rfl,ht,hr1,hG,hl,hTf,hF,h0,hor,k1,k2⟩:=h
 refine⟨_,(Zc (Za0 (i:=3) ["number","far"] [none,some 2] ZbD.nd rfl (Or.inl rfl) rfl rfl rfl (ZaM (pv 1)) (λ_ _ _ _ _=>(Zm (i:=0) (show(["number","far"]:List Str).Nodup from by decide +kernel) rfl (Or.inl rfl))) (λ_ _ _ _ _=>ZK) (λ_ _ _ _ _=>(Zn ZS (pv 0) (pv 1))) Zs)
   (Zc (Za0 (i:=4) ["number","far"] [none,some 2] ZbD.nd rfl (Or.inl rfl) rfl rfl rfl (ZaM (pv 1)) (λ_ _ _ _ _=>(Zm (i:=0) (show(["number","far"]:List Str).Nodup from by decide +kernel) rfl (Or.inl rfl))) (λ_ _ _ _ _=>ZK) (λ_ _ _ _ _=>(Zn Zaj (pv 0) (pv 1))) Zs)
   (Zc (Zq (i:=5) ZbD.nd rfl (Or.inl rfl) (Zg Zjn (hr.mono (by decide)) rfl Zaw (Za (pv 0) (Za (pv 3) (Za (pv 4) Zb)))))
   (Zc (ZQ (Ze3 (Ze2 (Zg ZcZ (hr.mono (by decide)) rfl Zaw (Za (pv 0) (Za (pv 3) (Za (pv 4) (Za (pv 5) Zb))))))) (Zi (Zu Zgc)) ZC)
   (Zi (Zu (ZD ZaW (pv 5) Zf (λ_ _=>rfl)))))))),?_⟩
 walk_at "rd"
 have h40:=hG.1
 refine⟨⟨_,SqL.of hr1⟩,?_⟩
 refine comp_map (n:=ns.length) (λi=>V.int (nth ns i-far)) (Nat.lt_of_le_of_lt (show _<=1000 by omega) (by decide)) (λi Hx s hi=>⟨_,_,SqL.of (s _ _ hr1),ZaE hi⟩) (λHx s=>⟨_,SqL.of (s _ _ hr1),by simp⟩) ?_ ?_
 ·rintro i x Hx Hy hi sx ⟨rfl,hx⟩
  have ex:=hx _ (SqL.of (sx _ _ hr1))
  rw[ZaE hi]at ex
  cases ex
  walk_at "rd"
  exact CW.next hi rfl sx
 intro a H1 s1 za
 have g1:=s1.ZM (o:=.lst ((List.range ns.length).map λi=>V.int (nth ns i-far))) za
 have ha:(upd H1 a (.lst ((List.range ns.length).map λi=>V.int (nth ns i-far)))) a=some (.lst ((ns.map λx=>x-far).map V.int)):=by
  rw[Zd]
  congr 2
  refine List.ext_getElem (by simp) λi i1 i2=>?_
  have:i<ns.length:=by simpa using i1
  simp[nth,List.getD_eq_getElem?_getD,this]
 generalize upd H1 a (.lst ((List.range ns.length).map λi=>V.int (nth ns i-far)))=H2 at g1 ha⊢
 have hr2:=g1 _ _ hr1
 refine⟨⟨_,SqL.of hr2⟩,?_⟩
 refine comp_map (n:=ns.length) (λi=>V.int (nth ns i+far)) (Nat.lt_of_le_of_lt (show _<=1000 by omega) (by decide)) (λi Hx s hi=>⟨_,_,SqL.of (s _ _ hr2),ZaE hi⟩) (λHx s=>⟨_,SqL.of (s _ _ hr2),by simp⟩) ?_ ?_
 ·rintro i x Hx Hy hi sx ⟨rfl,hx⟩
  have ex:=hx _ (SqL.of (sx _ _ hr2))
  rw[ZaE hi]at ex
  cases ex
  walk_at "rd"
  exact CW.next hi rfl sx
 intro b H3 s3 zb
 have g2:=s3.ZM (o:=.lst ((List.range ns.length).map λi=>V.int (nth ns i+far))) zb
 have hb:(upd H3 b (.lst ((List.range ns.length).map λi=>V.int (nth ns i+far)))) b=some (.lst ((ns.map λx=>x+far).map V.int)):=by
  rw[Zd]
  congr 2
  refine List.ext_getElem (by simp) λi i1 i2=>?_
  have:i<ns.length:=by simpa using i1
  simp[nth,List.getD_eq_getElem?_getD,this]
 generalize upd H3 b (.lst ((List.range ns.length).map λi=>V.int (nth ns i+far)))=H4 at g2 hb⊢
 have ha4:=g2 _ _ ha
 have sA:=g1.trans g2
 have l1:(ns.map λx=>x-far).length=T'.length:=by simp[hl]
 have l2:(ns.map λx=>x+far).length=T'.length:=by simp[hl]
 refine⟨t,a,b,T',_,_,rfl,sA _ _ ht,.inl (SqL.of ha4),.inl (SqL.of hb),hG,l1,l2,Z6.same hTf sA,λc d H5 s5 hd hFit=>⟨t,a,b,c,T',_,_,d,rfl,s5 _ _ (sA _ _ ht),.inl (SqL.of (s5 _ _ ha4)),.inl (SqL.of (s5 _ _ hb)),hG,l1,l2,hd,λH6 s6=>?_⟩⟩
 rw[decide_eq_true (ZpY hG l1 l2 hFit)]
 have sB:=sA.trans (s5.trans s6)
 have hd6:=hd.same s6
 refine⟨true,rfl,ZF (λz=>nomatch z) λ_=>⟨c,rfl,?_⟩⟩
 rcases hor with e|e
 ·subst e
  obtain⟨ds,rfl⟩:=Zn8 hG hl hF hFit
  obtain⟨_,r2,hc,_⟩:=hd6
  exact⟨_,SqT.of hc,_,rfl,k1 rfl _ sB⟩
 ·obtain⟨x,y,rfl⟩:=ZlE hG hl hF h0 (by omega) hFit
  exact⟨_,SqT.of hd6,_,rfl,k2 e _ sB⟩
theorem Zf3 {f:Addr}{fd:FuncData} (F:Fun K "_law_none_nearer" "_law_none_nearer" ZU f fd) (Z3:Callee P w K mg base "tree_of" 2 ["row"] (ZbS K mg)) (Zbu:Callee P w K mg base "nearest" 7 ["tree","row"] (Zer K mg)) (Zat:Callee P w K mg base "_law_kin_row" 5 ["pot","tree"] (Za3 K mg)) (T:Txt K mg):FnOk P w K mg base (CXE P w) 8 f fd ["pot","tree","row","far"] (ZaZ K mg):=by
 refine F.okX Zam (λvs H Q E h=>?_) (λcdv A outer s H vs Q E hr h=>?_)
 ·obtain⟨p,t,r,T,ns,far,rfl,_⟩:=h;rfl
 obtain⟨p,t,r,T',ns,far,rfl,hP,nrp,ht,hr1,hG,hl,hF,hTn,hTf,hTk,k1⟩:=h
 refine⟨_,(Zc (Zbw (ZcP PassesOwn.never rfl (Z8 rfl T.b_range (Za Zf Zb)) (Zm (i:=4) Zam.nd rfl (Or.inl rfl)) (Zc (Zq (i:=5) Zam.nd rfl (Or.inl rfl) (Zg Zat (hr.mono (by decide)) rfl Zv (Za (pv 0) (Za (pv 1) Zb))))
   (Zc (Zq (i:=6) Zam.nd rfl (Or.inl rfl) (Zty (K:=K) rfl rfl rfl T.b_max (Za (Zah ["one","two"] [none,none] rfl rfl rfl (Zro rfl T.b_zip (Za (pv 2) (Za (pv 5) Zb))) (λ_ _ _ _ _=>(ZfO (K:=K) (n:=2) rfl rfl (ZJ (Zm (i:=0) (show(["one","two"]:List Str).Nodup from by decide +kernel) rfl (Or.inl rfl)) (ZJ (Zm (i:=1) (show(["one","two"]:List Str).Nodup from by decide +kernel) rfl (Or.inl rfl)) Zbv)))) (λ_ _ _ _ _=>ZK) (λ_ _ _ _ _=>(Zk ZiE rfl T.b_abs ZnA (Za (Zn ZS (pv 0) (pv 1)) Zb))) (ZdR (Z9 Zs (Z9 Zs ZdQ)))) Zb) (ZfN Zf ZkT)))
   (Zi (ZQ (PW.pt (Zf5 (Zo ZgE (pv 6) (pv 3) (Zr _)) (Zf5 (Zo (Zge (K:=K) rfl hr) (Zg Z3 (hr.mono (by decide)) rfl Zv (Za (pv 5) Zb)) (pv 1) (Zr _)) (Zd8 (Zo (Zge (K:=K) rfl hr) (Zg Zbu (hr.mono (by decide)) rfl Zv (Za (pv 1) (Za (pv 5) Zb))) (Zds (Za Zf (Za (ZbM (ZdS (K:=K) rfl) rfl T.b_tuple Zb6 (Za (pv 5) Zb)) (Za Ze1 Zb)))) (Zr _)))))) (Zi (Zu Zcv)) ZC))))))
   (Zi (Zu Zcv))),?_⟩
 walk_at "rd"
 have h40:=hG.1
 have npt:t≠p:=Zet hP ht
 refine⟨by decide,by decide,ZbL (λi σ Hx=>∃v4 v5 v6:Option V,σ=[some (.ref p),some (.ref t),some (.ref r),some (.int far),v4,v5,v6]/\Zz Hx p/\Exc p H Hx) ⟨none,none,none,rfl,hP,(Zh.refl H).ZhY⟩ ?_ ?_⟩
 ·rintro i σ Hx hi ⟨v4,v5,v6,rfl,Px,ex⟩
  refine ZaX (fun σ Hy=>∃(o:Addr) (os:List Int),σ=[some (.ref p),some (.ref t),some (.ref r),some (.int far),some (.int (0+(i:Int))),some (.ref o),v6]/\Zw os T'/\Hy o=some (.lst (os.map V.int))/\Zz Hy p/\Exc p H Hy) (λR hR=>?_) ?_
  ·walk_at "rd"
   exact⟨p,t,T',rfl,Px,ex _ _ npt ht,hG,Z6.exc hTk hP ex,λo os H1 zo hT _ ho P1 e1=>hR _ _ ⟨o,os,rfl,hT,ho,P1,ex.trans e1⟩⟩
  clear Px ex Hx
  rintro σ Hx ⟨o,os,rfl,hT,ho,Px,ex⟩
  have eT:=hT.1
  have htx:=ex _ _ npt ht
  have hrx:=ex _ _ nrp hr1
  refine ZaX (fun σ Hz=>∃a:Int,σ=[some (.ref p),some (.ref t),some (.ref r),some (.int far),some (.int (0+(i:Int))),some (.ref o),some (.int a)]/\far<=a/\Zh Hx Hz) (λR hR=>?_) ?_
  ·walk_at "rd"
   refine⟨_,SqL.of hrx,_,SqL.of ho,?_⟩
   refine comp_map (n:=T'.length) (λk=>V.int (Zlt (nth ns k-nth os k))) (Nat.lt_of_le_of_lt (show _<=1000 by omega) (by decide)) (λj Hz s hj=>⟨_,_,_,_,SqL.of (s _ _ hrx),SqL.of (s _ _ ho),ZaE (by omega),ZaE (by omega)⟩) (λHz s=>⟨_,_,SqL.of (s _ _ hrx),SqL.of (s _ _ ho),.inl (by simp;omega)⟩) ?_ ?_
   ·rintro k x Hz Hw hk sz ⟨q,x,y,hq,rfl,rfl,hx,hy⟩
    have ex:=hx _ (SqL.of (sz _ _ hrx))
    have ey:=hy _ (SqL.of (sz _ _ ho))
    rw[ZaE (by omega)]at ex
    rw[ZaE (by omega)]at ey
    cases ex;cases ey
    walk_at "rd"
    exact⟨_,SqT.of Zd,rfl,_,_,rfl,_,_,rfl,rfl,_,rfl,_,rfl,CW.next hk rfl (sz.ZM hq)⟩
   ·intro l Hz sz zl
    have g:=sz.ZM (o:=.lst ((List.range T'.length).map λk=>V.int (Zlt (nth ns k-nth os k)))) zl
    have low:∀a:Int,0<=a->(∀k,k<T'.length->Zlt (nth ns k-nth os k)<=a)->far<=a:=λa a0 hk=>ZmF hG hl hF hT a0 λq hq=>by
     have:=hk q hq
     unfold Zlt at this⊢
     split at this<;>split<;>omega
    refine⟨l,rfl,(List.range T'.length).map λk=>Zlt (nth ns k-nth os k),SqL.of (by rw[Zd,List.map_map];rfl),λe=>?_,λ_ x hx hmax=>?_⟩
    ·have e0:T'.length=0:=by simpa using e
     exact hR _ _ ⟨0,rfl,low 0 (Int.le_refl _) (λk hk=>absurd hk (by omega)),g⟩
    ·refine hR _ _ ⟨x,rfl,low x ?_ (λk hk=>hmax _ (List.mem_map.mpr ⟨k,List.mem_range.mpr hk,rfl⟩)),g⟩
     obtain⟨k,_,rfl⟩:=List.mem_map.mp hx
     unfold Zlt;split<;>omega
  rintro σ Hz ⟨a,rfl,ha,sz⟩
  walk_at "rd"
  refine ZF (λz=>absurd z (by omega)) λ_=>?_
  refine⟨o,os,rfl,.inl (SqL.of (sz _ _ ho)),by omega,λt2 es H1 hE s1 ht2=>⟨t2,rfl,?_⟩⟩
  have ee:=hE.unique hT
  subst ee
  have sA:=sz.trans s1
  refine⟨_,Zeg (n:=2) (K:=K) Zdh _ _ _ _ (Zag (SqT.of ht2)) (Zag (SqT.of (sA _ _ htx))),ZF (λz=>absurd z (by simp)) λ_=>?_⟩
  refine⟨t,o,es,os,rfl,sA _ _ htx,.inl (SqL.of (sA _ _ ho)),hG,by omega,Z6.same (Z6.exc hTn hP ex) sA,Z6.same (Z6.exc hTf hP ex) sA,λq m v ms pr H2 s2 hq hm hv hpr hD=>?_⟩
  obtain⟨rfl,rfl⟩:=ZhE hG hT hpr hD
  have sB:=sA.trans s2
  refine⟨_,.inl ⟨SqL.of (sB _ _ ho),λl zl=>⟨by decide,λy zy=>⟨_,rfl,true,?_,ZF (λz=>nomatch z) λ_=>?_⟩⟩⟩⟩
  ·have g1:=(Zh.refl H2).upd (o:=.tup (ms.map V.int)) zl
   have g2:=(Zh.refl (upd H2 l (.tup (ms.map V.int)))).upd (o:=.tup [V.int 0,V.ref l,V.non]) zy
   exact ZmG (pr:=none) ((g1.trans g2) _ _ hq) Zd ((g1.trans g2) _ _ hm) (g2 _ _ Zd) (hv.same (g1.trans g2)) rfl
  ·have g:=((Zh.refl H2).ZM (o:=.tup (ms.map V.int)) zl).ZM (o:=.tup [V.int 0,V.ref l,V.non]) zy
   exact⟨Px.same (sB.trans g),ex.same (sB.trans g)⟩
 ·rintro σ Hx ⟨v4,v5,v6,rfl,Px,ex⟩
  walk_at "rd"
  exact k1 Hx Px ex
theorem ok_law {f:Addr}{fd:FuncData} (F:Fun K "law" "law" ZgV f fd) (Z3:Callee P w K mg base "tree_of" 2 ["row"] (ZbS K mg)) (Zbu:Callee P w K mg base "nearest" 7 ["tree","row"] (Zer K mg)) (Zci:Callee P w K mg base "nearest_right" 6 ["tree","row","far","made","pair"] (ZbU K mg)) (Zsf:Callee P w K mg base "kin" 4 ["one","other"] (ZnY K mg)) (Zfm:Callee P w K mg base "_law_deal" 1 ["script","k"] (Zen K mg)) (Zp:Callee P w K mg base "_law_take" 1 ["pot","many"] (Zaz K mg)) (Zcj:Callee P w K mg base "_law_wide_row" 3 ["pot"] (ZbT K mg)) (Zc0:Callee P w K mg base "_law_any_row" 6 ["pot","tree"] (Zcf K mg)) (ZbY:Callee P w K mg base "_law_within" 8 ["tree","row","far"] (ZcV K mg)) (Zbc:Callee P w K mg base "_law_none_nearer" 8 ["pot","tree","row","far"] (ZaZ K mg)) (T:Txt K mg):FnOk P w K mg base (CXE P w) 9 f fd ["script"] (ZoT K mg):=by
 refine F.okX ZdA (λvs H Q E h=>?_) (λcdv A outer s H vs Q E hr h=>?_)
 ·obtain⟨a,ns,rfl,_⟩:=h;rfl
 obtain⟨sc,ss,rfl,hsc,hss,hTT,k1⟩:=h
 have hTb:Z6 K mg "_law_kin_row" H:=hTT (Zgi K mg "_law_kin_row",Zi2 "_law_kin_row") (by unfold Zfd;simp)
 have hTn:Z6 K mg "nearest" H:=hTT (Zgi K mg "nearest",Zi2 "nearest") (by unfold Zfd;simp)
 have hTf:Z6 K mg "from_below" H:=hTT (Zgi K mg "from_below",Zi2 "from_below") (by unfold Zfd;simp)
 refine⟨_,(Zc (Zbw (ZcP PassesOwn.never rfl (Z8 rfl T.b_range (Za (Zk (Zhf rfl) rfl T.b_max ZiJ (Za Zf (Za (Zk (Zo3 rfl) rfl T.b_min bt_min (Za (Zk (Zl (K:=K) rfl) rfl T.b_len PySem.boot_len (Za (pv 0) Zb)) (Za Zf Zb))) Zb))) Zb)) (Zm (i:=1) ZdA.nd rfl (Or.inl rfl)) (Zc (Zq (i:=2) ZdA.nd rfl (Or.inl rfl) (Zg Zfm (hr.mono (by decide)) rfl Zv (Za (pv 0) (Za (pv 1) Zb))))
   (Zc (Zq (i:=3) ZdA.nd rfl (Or.inl rfl) (Zg Z3 (hr.mono (by decide)) rfl Zv (Za (Zg Zcj (hr.mono (by decide)) rfl Zv (Za (pv 2) Zb)) Zb)))
   (Zc (Zq (i:=4) ZdA.nd rfl (Or.inl rfl) (Zg Zc0 (hr.mono (by decide)) rfl Zv (Za (pv 2) (Za (pv 3) Zb))))
   (Zc (Ze5 (Zg Zbu (hr.mono (by decide)) rfl Zv (Za (pv 3) (Za (pv 4) Zb))) (Zhe (n:=3) rfl (ZJ (Zm (i:=5) ZdA.nd rfl (Or.inl rfl)) (ZJ (Zm (i:=6) ZdA.nd rfl (Or.inl rfl)) (ZJ (Zm (i:=7) ZdA.nd rfl (Or.inl rfl)) Zbv)))))
   (Zc (ZQ (PW.pt (Zf5 (Zo (Zge (K:=K) rfl hr) (Zg Z3 (hr.mono (by decide)) rfl Zv (Za (pv 6) Zb)) (pv 3) (Zr _)) (Zd8 (Ze3 (Ze2 (Zg Zci (hr.mono (by decide)) rfl Zv (Za (pv 3) (Za (pv 4) (Za (pv 5) (Za (pv 6) (Za (pv 7) Zb))))))))))) (Zi (Zu Zcv)) ZC)
   (Zc (ZQ (PW.pt (Zf5 (Zo ZiD (Zg ZbY (hr.mono (by decide)) rfl Zv (Za (pv 3) (Za (pv 4) (Za (pv 5) Zb)))) Zgc (Zr _)) (Zd8 (PW.pt (ZiA (Zo ZeQ (pv 5) Zf (Zr _)) (ZgD (Zo ZiD (Zg ZbY (hr.mono (by decide)) rfl Zv (Za (pv 3) (Za (pv 4) (Za (Zn ZS (pv 5) Zf) Zb)))) Zgc (Zr _)))))))) (Zi (Zu Zcv)) ZC)
   (Zc (ZQ (PW.pt (Zf5 (Ze3 (Ze2 (Zg Zbc (hr.mono (by decide)) rfl Zv (Za (pv 2) (Za (pv 3) (Za (pv 4) (Za (pv 5) Zb))))))) (Zd8 (Zo (Zge (K:=K) rfl hr) (Zg Zbu (hr.mono (by decide)) rfl Zv (Za (pv 3) (Za (pv 6) Zb))) (Zds (Za Zf (Za (pv 6) (Za Ze1 Zb)))) (Zr _))))) (Zi (Zu Zcv)) ZC)
   (Zc (Zq (i:=8) ZdA.nd rfl (Or.inr rfl) (Zn ZS (Zg Zp (hr.mono (by decide)) rfl Zv (Za (pv 2) (Za Zf Zb))) Zf))
   (Zc (Zq (i:=9) ZdA.nd rfl (Or.inl rfl) (Zg Zbu (hr.mono (by decide)) rfl Zv (Za (pv 3) (Za (Zah ["number","more"] [none,some 8] rfl rfl rfl (ZaM (pv 4)) (λ_ _ _ _ _=>(Zm (i:=0) (show(["number","more"]:List Str).Nodup from by decide +kernel) rfl (Or.inl rfl))) (λ_ _ _ _ _=>ZK) (λ_ _ _ _ _=>(Zn Zaj (pv 0) (pv 1))) Zs) Zb))))
   (Zc (ZQ (PW.pt (Zf5 (Zo ZiD (ZD ZaW (pv 9) Zf (λ_ _=>rfl)) (pv 5) (Zr _)) (Zd8 (Ze3 (Ze2 (Zg Zsf (hr.mono (by decide)) rfl Zv (Za (ZD ZaW (pv 9) Zf (λ_ _=>rfl)) (Za (pv 6) Zb)))))))) (Zi (Zu Zcv)) ZC)
   (Zi (ZQ (PW.pt (ZiA (Zo Zbg (pv 5) Zf (Zr _)) (ZgD (PW.pt (Zf5 (Zo (Zge (K:=K) rfl hr) (pv 6) (ZbM (ZdS (K:=K) rfl) rfl T.b_tuple Zb6 (Za (pv 4) Zb)) (Zr _)) (Zd8 (Zo Zoq (pv 7) Ze1 (Zr _)))))))) (Zi (Zu Zcv)) ZC))))))))))))))
   (Zi (Zu Zcv))),?_⟩
 walk_at "rd"
 have el:(ss.map V.int).length=ss.length:=List.length_map ..
 refine⟨_,.inl hsc,by split<;>(try split)<;>omega,by split<;>(try split)<;>omega,?_⟩
 rw[el]
 obtain⟨nn,hnn,nn1⟩:∃nn:Nat,(if (if (3:Int)<(ss.length:Int)then (3:Int)else (ss.length:Int))>2 then (if (3:Int)<(ss.length:Int)then (3:Int)else (ss.length:Int))else 2).toNat=nn/\nn<=6:=⟨_,rfl,by split<;>(try split)<;>omega⟩
 rw[hnn]
 refine ZbL (λi σ Hx=>∃v1 v2 v3 v4 v5 v6 v7 v8 v9,σ=[some (.ref sc),v1,v2,v3,v4,v5,v6,v7,v8,v9]/\Zh H Hx) ⟨_,_,_,_,_,_,_,_,_,rfl,Zh.refl H⟩ ?_ ?_
 ·rintro i σ H' hi ⟨v1,v2,v3,v4,v5,v6,v7,v8,v9,rfl,hs⟩
  generalize hk:(0:Int)+(i:Int)=kk
  have hk0:0<=kk/\kk<=100:=by omega
  refine ZaX (fun σ Hx=>∃p,σ=[some (.ref sc),some (.int kk),some (.ref p),v3,v4,v5,v6,v7,v8,v9]/\H' p=none/\Zz Hx p/\Zh H' Hx) (λR hR=>?_) ?_
  ·walk_at "rd"
   exact⟨sc,ss,kk,rfl,hs.seq hsc,hk0.1,hk0.2,λp H1 hp s1 P1=>hR _ _ ⟨p,rfl,hp,P1,s1⟩⟩
  rintro σ H1 ⟨p,rfl,zp,P1,s1⟩
  refine ZaX (fun σ Hx=>∃(t:Addr) (T:List Int),σ=[some (.ref sc),some (.int kk),some (.ref p),some (.ref t),v4,v5,v6,v7,v8,v9]/\ZO T/\Hx t=some (.tup (T.map V.int))/\Zz Hx p/\Zh H' Hx) (λR hR=>?_) ?_
  ·walk_at "rd"
   exact⟨p,rfl,P1,λr ns H2 zr hn hr2 P2 e2=>⟨r,ns,rfl,.inl (SqL.of hr2),by omega,λt es H3 hE s3 ht=>hR _ _ ⟨t,es,rfl,⟨by have:=hE.1;omega,ns,hE⟩,ht,P2.same s3,(s1.exc zp e2).trans s3⟩⟩⟩
  clear P1 s1 H1
  rintro σ H2 ⟨t,T',rfl,hG,ht2,P2,s2⟩
  have h40:=hG.1
  refine ZaX (fun σ Hx=>∃(r:Addr) (ns:List Int),σ=[some (.ref sc),some (.int kk),some (.ref p),some (.ref t),some (.ref r),v5,v6,v7,v8,v9]/\r≠p/\ns.length=T'.length/\Hx t=some (.tup (T'.map V.int))/\Hx r=some (.lst (ns.map V.int))/\Zz Hx p/\Zh H' Hx) (λR hR=>?_) ?_
  ·walk_at "rd"
   exact⟨p,t,T',rfl,P2,ht2,hG,Z6.same hTb (hs.trans s2),λr ns H3 zr hn hr3 P3 e3=>hR _ _ ⟨r,ns,rfl,P2.ne zr,hn,e3 _ _ (Zet P2 ht2) ht2,hr3,P3,s2.exc zp e3⟩⟩
  clear P2 s2 ht2
  rintro σ H4 ⟨r,ns,rfl,nrp,hnl,ht,hr1,P4,s4⟩
  have hsA:=hs.trans s4
  have npt:t≠p:=Zet P4 ht
  refine ZaX (fun σ Hx=>∃(m:Addr) (v:V) (ms:List Int) (pr:Option (Int×Int)),σ=[some (.ref sc),some (.int kk),some (.ref p),some (.ref t),some (.ref r),some (.int (ZaD (hgt (Ze T') ns) pr)),some (.ref m),some v,v8,v9]/\Hx m=some (.tup (ms.map V.int))/\ZbB Hx v pr/\IsPair T' (hgt (Ze T') ns) pr/\Zbr T' (ns.map λx=>x-ZaD (hgt (Ze T') ns) pr) ms/\Zh H4 Hx) (λR hR=>?_) ?_
  ·walk_at "rd"
   exact⟨t,r,T',ns,rfl,ht,.inl (SqL.of hr1),hG,hnl,Z6.same hTn hsA,Z6.same hTf hsA,λq m v ms pr H5 s5 hq hm hv hp hD=>⟨q,rfl,_,SqT.of hq,rfl,_,_,rfl,_,_,rfl,_,_,rfl,rfl,hR _ _ ⟨m,v,ms,pr,rfl,hm,hv,hp,hD,s5⟩⟩⟩
  rintro σ H5 ⟨m,v,ms,pr,rfl,hm,hv,hp,hD,s5⟩
  obtain⟨hF,hS⟩:=Zji hG hnl hp
  have hN:=Zn5 hG hnl hp hD
  have hTm:=hN.1
  have eM:=hTm.1
  have hf0:=hF.1
  have P5:=P4.same s5
  replace ht:=s5 _ _ ht
  replace hr1:=s5 _ _ hr1
  replace hsA:=hsA.trans s5
  replace s4:=s4.trans s5
  clear s5 P4 H4
  have keep:∀{Hx},Zh H5 Hx->Hx t=some (.tup (T'.map V.int))/\Hx r=some (.lst (ns.map V.int))/\Hx m=some (.tup (ms.map V.int))/\ZbB Hx v pr:=λsx=>⟨sx _ _ ht,sx _ _ hr1,sx _ _ hm,hv.same sx⟩
  refine ZaX (fun σ Hx=>σ=[some (.ref sc),some (.int kk),some (.ref p),some (.ref t),some (.ref r),some (.int (ZaD (hgt (Ze T') ns) pr)),some (.ref m),some v,v8,v9]/\Zh H5 Hx) (λR hR=>?_) ?_
  ·walk_at "rd"
   refine⟨m,ms,rfl,.inr (SqT.of hm),by omega,λt2 es H6 hE s6 ht2=>⟨t2,rfl,?_⟩⟩
   have ee:=hE.unique hTm
   subst ee
   obtain⟨k1',k2',k3',k4'⟩:=keep s6
   refine⟨_,Zeg (n:=2) (K:=K) Zdh _ _ _ _ (Zag (SqT.of ht2)) (Zag (SqT.of k1')),ZF (λz=>absurd z (by simp)) λ_=>?_⟩
   exact⟨t,r,m,_,v,es,ns,ms,pr,rfl,k1',.inl (SqL.of k2'),.inr (SqT.of k3'),k4',hG,hnl,by omega,λz H7 hz s7=>⟨z,rfl,ZF (λy=>absurd (hz.mpr hN) (by rw[y];decide)) λ_=>hR _ _ ⟨rfl,s6.trans s7⟩⟩⟩
  rintro σ H6 ⟨rfl,s6⟩
  refine ZaX (fun σ Hx=>σ=[some (.ref sc),some (.int kk),some (.ref p),some (.ref t),some (.ref r),some (.int (ZaD (hgt (Ze T') ns) pr)),some (.ref m),some v,v8,v9]/\Zh H5 Hx) (λR hR=>?_) ?_
  ·walk_at "rd"
   obtain⟨k1',k2',_,_⟩:=keep s6
   refine⟨t,r,T',ns,_,_,rfl,k1',k2',hG,hnl,Z6.same hTf (hsA.trans s6),hF,hf0,.inl rfl,λ_ H7 s7=>⟨rfl,ZF (λz=>absurd rfl z) λ_=>ZF (λc=>?_) λ_=>hR _ _ ⟨rfl,s6.trans s7⟩⟩,λz=>absurd z (by omega)⟩
   obtain⟨k1',k2',_,_⟩:=keep (s6.trans s7)
   exact⟨t,r,T',ns,_,_,rfl,k1',k2',hG,hnl,Z6.same hTf (hsA.trans (s6.trans s7)),hF,by omega,.inr rfl,λz=>absurd z (by omega),λ_ H8 s8=>⟨rfl,ZF (λz=>absurd rfl z) λ_=>hR _ _ ⟨rfl,(s6.trans s7).trans s8⟩⟩⟩
  clear s6 H6
  rintro σ H6 ⟨rfl,s6⟩
  refine ZaX (fun σ Hx=>σ=[some (.ref sc),some (.int kk),some (.ref p),some (.ref t),some (.ref r),some (.int (ZaD (hgt (Ze T') ns) pr)),some (.ref m),some v,v8,v9]/\Exc p H5 Hx/\Zz Hx p) (λR hR=>?_) ?_
  ·walk_at "rd"
   obtain⟨k1',k2',k3',_⟩:=keep s6
   refine⟨p,t,r,T',ns,_,rfl,P5.same s6,nrp,k1',k2',hG,hnl,hF,Z6.same hTn (hsA.trans s6),Z6.same hTf (hsA.trans s6),Z6.same hTb (hsA.trans s6),λH7 P7 e7=>⟨true,rfl,ZF (λz=>nomatch z) λ_=>?_⟩⟩
   have e57:Exc p H5 H7:=s6.ZhY.trans e7
   have nmp:m≠p:=Zet P5 hm
   refine⟨t,m,T',ms,rfl,e57 _ _ npt ht,.inr (SqT.of (e57 _ _ nmp hm)),hG,by omega,Z6.exc (Z6.same hTn hsA) P5 e57,Z6.exc (Z6.same hTf hsA) P5 e57,λq m2 v2 ms2 pr2 H8 s8 hq hm2 hv2 hpr hD2=>⟨by decide,λy zy=>⟨q,rfl,true,?_,ZF (λz=>nomatch z) λ_=>hR _ _ ⟨rfl,(e57.same s8).same ((Zh.refl H8).upd zy),(P7.same s8).upd zy⟩⟩⟩⟩
   obtain⟨rfl,rfl⟩:=ZhE hG hTm hpr hD2
   have g:=(Zh.refl H8).upd (o:=.tup [V.int 0,V.ref m,V.non]) zy
   exact ZmG (pr:=none) (g _ _ hq) Zd (g _ _ hm2) ((s8.trans g) _ _ (e57 _ _ nmp hm)) (hv2.same g) rfl
  clear s6 H6
  rintro σ H6 ⟨rfl,e6,P6⟩
  have nmp:m≠p:=Zet P5 hm
  have ht6:=e6 _ _ npt ht
  have hr6:=e6 _ _ nrp hr1
  have hm6:=e6 _ _ nmp hm
  have hv6:=hv.exc P5 e6
  have s6:=s4.exc zp e6
  refine ZaX (fun σ Hx=>∃c:Int,σ=[some (.ref sc),some (.int kk),some (.ref p),some (.ref t),some (.ref r),some (.int (ZaD (hgt (Ze T') ns) pr)),some (.ref m),some v,some (.int c),v9]/\Exc p H6 Hx/\Zz Hx p) (λR hR=>?_) ?_
  ·walk_at "rd"
   exact⟨p,_,rfl,by decide,by decide,P6,λd H7 d0 d1 P7 e7=>⟨d,rfl,hR _ _ ⟨_,rfl,e7,P7⟩⟩⟩
  rintro σ H7 ⟨c,rfl,e7,P7⟩
  have ht7:=e7 _ _ npt ht6
  have hr7:=e7 _ _ nrp hr6
  have hm7:=e7 _ _ nmp hm6
  have hv7:=hv6.exc P6 e7
  have s7:=s6.exc zp e7
  have hs7:=hs.trans s7
  clear e7 P7 s6 hv6 hm6 hr6 ht6
  refine ZaX (fun σ Hx=>∃(q m2:Addr) (v2:V) (ms2:List Int) (pr2:Option (Int×Int)),σ=[some (.ref sc),some (.int kk),some (.ref p),some (.ref t),some (.ref r),some (.int (ZaD (hgt (Ze T') ns) pr)),some (.ref m),some v,some (.int c),some (.ref q)]/\Hx q=some (.tup [.int (ZaD (hgt (Ze T') ns) pr),.ref m2,v2])/\Hx m2=some (.tup (ms2.map V.int))/\Zw ms2 T'/\Zh H7 Hx) (λR hR=>?_) ?_
  ·walk_at "rd"
   refine⟨⟨_,SqL.of hr7⟩,?_⟩
   refine comp_map (n:=ns.length) (λi=>V.int (nth ns i+c)) (Nat.lt_of_le_of_lt (show _<=1000 by omega) (by decide)) (λi Hx s hi=>⟨_,_,SqL.of (s _ _ hr7),ZaE hi⟩) (λHx s=>⟨_,SqL.of (s _ _ hr7),by simp⟩) ?_ ?_
   ·rintro i x Hx Hy hi sx ⟨rfl,hx⟩
    have ex:=hx _ (SqL.of (sx _ _ hr7))
    rw[ZaE hi]at ex
    cases ex
    walk_at "rd"
    exact CW.next hi rfl sx
   intro a H8 s8 za
   have g1:=s8.ZM (o:=.lst ((List.range ns.length).map λi=>V.int (nth ns i+c))) za
   have ha:(upd H8 a (.lst ((List.range ns.length).map λi=>V.int (nth ns i+c)))) a=some (.lst ((ns.map λx=>x+c).map V.int)):=by
    rw[Zd]
    congr 2
    refine List.ext_getElem (by simp) λi i1 i2=>?_
    have:i<ns.length:=by simpa using i1
    simp[nth,List.getD_eq_getElem?_getD,this]
   generalize upd H8 a (.lst ((List.range ns.length).map λi=>V.int (nth ns i+c)))=H9 at g1 ha⊢
   have lc:(ns.map λx=>x+c).length=T'.length:=by simp[hnl]
   refine⟨t,a,T',_,rfl,g1 _ _ ht7,.inl (SqL.of ha),hG,lc,Z6.same hTn (hs7.trans g1),Z6.same hTf (hs7.trans g1),λq m2 v2 ms2 pr2 H10 s10 hq hm2 hv2 hpr hD2=>hR _ _ ⟨q,m2,v2,ms2,pr2,rfl,?_,hm2,Zje hG hD2,g1.trans s10⟩⟩
   have eF:(Ze T').length=T'.length:=ZY T'
   have hup:=ZtM (c:=c) (hs:=hgt (Ze T') ns) (by rw[Zcz];exact eF) hp
   rw[hgt_up (by omega)]at hup
   have e2:=ZpV h40 hpr hup.1
   subst e2
   rw[hup.2]at hq
   exact hq
  rintro σ H8 ⟨q,m2,v2,ms2,pr2,rfl,hq,hm2,hT2,s8⟩
  have eM2:=hT2.1
  refine ZaX (fun σ Hx=>σ=[some (.ref sc),some (.int kk),some (.ref p),some (.ref t),some (.ref r),some (.int (ZaD (hgt (Ze T') ns) pr)),some (.ref m),some v,some (.int c),some (.ref q)]/\Zh H7 Hx) (λR hR=>?_) ?_
  ·walk_at "rd"
   refine⟨_,SqT.of hq,_,rfl,rfl,ZF (λz=>absurd rfl z) λ_=>⟨_,SqT.of hq,_,rfl,m2,m,ms2,ms,rfl,.inr (SqT.of hm2),.inr (SqT.of (s8 _ _ hm7)),by omega,by omega,λb H9 hb s9=>⟨b,rfl,ZF (λz=>?_) λ_=>hR _ _ ⟨rfl,s8.trans s9⟩⟩⟩⟩
   have:b=true:=hb.mpr ((Ztz hT2 hTm).mpr ⟨by omega,rfl⟩)
   rw[this]at z;cases z
  clear hq hm2 s8 H8
  rintro σ H8 ⟨rfl,s8⟩
  walk_at "rd"
  refine ZF (λc0=>⟨_,.inl ⟨SqL.of (s8 _ _ hr7),λl zl=>?_⟩⟩) λ_=>hs7.trans s8
  obtain⟨rfl,rfl⟩:=Zp0 hG hnl hp c0 hD
  have g:=(Zh.refl H8).upd (o:=.tup (ms.map V.int)) zl
  exact⟨_,Zeg (n:=2) (K:=K) Zdh _ _ _ _ (Zag (SqT.of ((s8.trans g) _ _ hm7))) (Zag (SqT.of Zd)),ZF (λz=>absurd z (by simp)) λ_=>ZF (λz=>absurd hv7 z) λ_=>(hs7.trans s8).trans g⟩
 ·rintro σ H' ⟨v1,v2,v3,v4,v5,v6,v7,v8,v9,rfl,hs⟩
  walk_at "rd"
  exact k1 H'
end
theorem all_mk {l:PySem.W.OpenLaw}{w:World}{K:PySem.W.Frag}{h:Heap}{mg:Str->Option Value}{fa:Addr}{ts:List Addr} (X:K.In h) (G:h.Ns mainGlobals mg) (hfa:mg "law"=some (.ref fa))
  (Zjo:nsIn K mainGlobals "settle"=some (some (.ref ZmH))) (Zjp:K.lookup ZmH=some ⟨ZvN,ZvO,.func (fnOf "settle" "settle" (defArgs ZdX) (defBody ZdX) (defScope ZdX) .none ZvP ZvQ ZvR ZvS Zp1 ZvT),ZvU⟩) (Zjq:codeIn K Zp1 "settle"=true) (ZgY:keepIn K (.ref ZmH)=true)
  (ZhH:nsIn K mainGlobals "tree_of"=some (some (.ref ZkF))) (ZhI:K.lookup ZkF=some ⟨Zu0,Zu1,.func (fnOf "tree_of" "tree_of" (defArgs ZcH) (defBody ZcH) (defScope ZcH) .none Zu2 Zu3 Zu4 Zu5 Zn9 Zu6),Zu7⟩) (ZhJ:codeIn K Zn9 "tree_of"=true) (ZfW:keepIn K (.ref ZkF)=true)
  (Zjr:nsIn K mainGlobals "way_up"=some (some (.ref ZmI))) (Zjs:K.lookup ZmI=some ⟨ZvV,ZvW,.func (fnOf "way_up" "way_up" (defArgs ZdY) (defBody ZdY) (defScope ZdY) .none ZvX ZvY ZvZ Zv0 Zp2 Zv1),Zv2⟩) (Zjt:codeIn K Zp2 "way_up"=true) (ZgZ:keepIn K (.ref ZmI)=true)
  (ZhK:nsIn K mainGlobals "is_tree"=some (some (.ref ZkG))) (ZhL:K.lookup ZkG=some ⟨Zu8,Zu9,.func (fnOf "is_tree" "is_tree" (defArgs ZcI) (defBody ZcI) (defScope ZcI) .none Zva Zvb Zvc Zvd Zoa Zve),Zvf⟩) (ZhM:codeIn K Zoa "is_tree"=true) (ZfX:keepIn K (.ref ZkG)=true)
  (Zfn:nsIn K mainGlobals "need_tree"=some (some (.ref Zh5))) (Zfo:K.lookup Zh5=some ⟨ZtN,ZtO,.func (fnOf "need_tree" "need_tree" (defArgs Zbj) (defBody Zbj) (defScope Zbj) .none ZtP ZtQ ZtR ZtS ZlF ZtT),ZtU⟩) (Zfp:codeIn K ZlF "need_tree"=true) (Zdm:keepIn K (.ref Zh5)=true)
  (ZcA:nsIn K mainGlobals "from_below"=some (some (.ref Zez))) (ZcB:K.lookup Zez=some ⟨ZsL,ZsM,.func (fnOf "from_below" "from_below" (defArgs ZaR) (defBody ZaR) (defScope ZaR) .none ZsN ZsO ZsP ZsQ Zf7 ZsR),ZsS⟩) (ZeA:codeIn K Zf7 "from_below"=true) (ZcC:keepIn K (.ref Zez)=true)
  (ZdD:Zf7=.ref ZbZ) (ZdE:K.lookup ZbZ=some ⟨ZsT,ZsU,.fields Zkb,ZsV⟩) (ZdF:Zkb[11]?=some (.ref Zb0)) (Zb1:PySem.W.codeHdIn K ZbZ Zb0=true) (ZdG:K.lookup Zb0=none) (ZdH:Zb0∈ts)
  (ZdI:nsIn K mainGlobals "flat_number"=some (some (.ref Zf8))) (ZdJ:K.lookup Zf8=some ⟨Zsg,Zsh,.func (fnOf "flat_number" "flat_number" (defArgs ZaF) (defBody ZaF) (defScope ZaF) .none Zsi Zsj Zsk Zsl Zju Zsm),Zsn⟩) (ZdK:codeIn K Zju "flat_number"=true) (Zb2:keepIn K (.ref Zf8)=true)
  (Zgn:nsIn K mainGlobals "flattest"=some (some (.ref Zjv))) (Zgo:K.lookup Zjv=some ⟨Zuz,ZuA,.func (fnOf "flattest" "flattest" (defArgs ZbP) (defBody ZbP) (defScope ZbP) .none ZuB ZuC ZuD ZuE ZmJ ZuF),ZuG⟩) (Zgp:codeIn K ZmJ "flattest"=true) (ZeB:keepIn K (.ref Zjv)=true)
  (ZeC:nsIn K mainGlobals "heights_of"=some (some (.ref Zg0))) (ZeD:K.lookup Zg0=some ⟨ZsW,ZsX,.func (fnOf "heights_of" "heights_of" (defArgs ZaS) (defBody ZaS) (defScope ZaS) .none ZsY ZsZ Zs0 Zs1 Zkc Zs2),Zs3⟩) (ZeE:codeIn K Zkc "heights_of"=true) (ZcD:keepIn K (.ref Zg0)=true)
  (Zjw:nsIn K mainGlobals "row_by"=some (some (.ref ZmK))) (Zjx:K.lookup ZmK=some ⟨Zv3,Zv4,.func (fnOf "row_by" "row_by" (defArgs ZdZ) (defBody ZdZ) (defScope ZdZ) .none Zv5 Zv6 Zv7 Zv8 Zp3 Zv9),Zwa⟩) (Zjy:codeIn K Zp3 "row_by"=true) (Zg1:keepIn K (.ref ZmK)=true)
  (Zjz:nsIn K mainGlobals "lifted"=some (some (.ref ZmL))) (ZjA:K.lookup ZmL=some ⟨Zwb,Zwc,.func (fnOf "lifted" "lifted" (defArgs Zd0) (defBody Zd0) (defScope Zd0) .none Zwd Zwe Zwf Zwg Zp4 Zwh),Zwi⟩) (ZjB:codeIn K Zp4 "lifted"=true) (Zg2:keepIn K (.ref ZmL)=true)
  (ZhN:nsIn K mainGlobals "is_over"=some (some (.ref ZkH))) (ZhO:K.lookup ZkH=some ⟨Zvg,Zvh,.func (fnOf "is_over" "is_over" (defArgs ZcJ) (defBody ZcJ) (defScope ZcJ) .none Zvi Zvj Zvk Zvl Zob Zvm),Zvn⟩) (ZhP:codeIn K Zob "is_over"=true) (ZfY:keepIn K (.ref ZkH)=true)
  (Zc1:nsIn K mainGlobals "higher_pairs"=some (some (.ref Zfq))) (Zc2:K.lookup Zfq=some ⟨Zqu,Zqv,.func (fnOf "higher_pairs" "higher_pairs" (defArgs Zap) (defBody Zap) (defScope Zap) .none Zqw Zqx Zqy Zqz Ziq ZqA),ZqB⟩) (Zc3:codeIn K Ziq "higher_pairs"=true) (ZbE:keepIn K (.ref Zfq)=true)
  (ZfZ:nsIn K mainGlobals "nearest"=some (some (.ref ZhQ))) (Zf0:K.lookup ZhQ=some ⟨Zvo,Zvp,.func (fnOf "nearest" "nearest" (defArgs ZcK) (defBody ZcK) (defScope ZcK) .none Zvq Zvr Zvs Zvt ZjC Zvu),Zvv⟩) (ZhR:codeIn K ZjC "nearest"=true) (Zf1:keepIn K (.ref ZhQ)=true)
  (Zgq:ZjC=.ref ZeF) (Zgr:K.lookup ZeF=some ⟨Zvw,Zvx,.fields Zoc,Zvy⟩) (Zgs:Zoc[11]?=some (.ref ZeG)) (ZeH:PySem.W.codeHdIn K ZeF ZeG=true) (Zgt:K.lookup ZeG=none) (Zgu:ZeG∈ts)
  (ZeI:nsIn K mainGlobals "pair_shows"=some (some (.ref Zg3))) (ZeJ:K.lookup Zg3=some ⟨Zs4,Zs5,.func (fnOf "pair_shows" "pair_shows" (defArgs ZaT) (defBody ZaT) (defScope ZaT) .none Zs6 Zs7 Zs8 Zs9 Zkd Zta),Ztb⟩) (ZeK:codeIn K Zkd "pair_shows"=true) (ZcE:keepIn K (.ref Zg3)=true)
  (Zck:nsIn K mainGlobals "nearest_right"=some (some (.ref ZeU))) (Zcl:K.lookup ZeU=some ⟨Zp5,Zp6,.func (fnOf "nearest_right" "nearest_right" (defArgs Zab) (defBody Zab) (defScope Zab) .none Zp7 Zp8 Zp9 Zqa ZhS Zqb),Zqc⟩) (Zcm:codeIn K ZhS "nearest_right"=true) (Za5:keepIn K (.ref ZeU)=true)
  (ZjD:nsIn K mainGlobals "fitted"=some (some (.ref ZmM))) (ZjE:K.lookup ZmM=some ⟨Zwj,Zwk,.func (fnOf "fitted" "fitted" (defArgs Zd1) (defBody Zd1) (defScope Zd1) .none Zwl Zwm Zwn Zwo Zqd Zwp),Zwq⟩) (ZjF:codeIn K Zqd "fitted"=true) (Zg4:keepIn K (.ref ZmM)=true)
  (ZeL:nsIn K mainGlobals "fits_least"=some (some (.ref Zg5))) (ZeM:K.lookup Zg5=some ⟨Ztc,Ztd,.func (fnOf "fits_least" "fits_least" (defArgs ZaU) (defBody ZaU) (defScope ZaU) .none Zte Ztf Ztg Zth Zke Zti),Ztj⟩) (ZeN:codeIn K Zke "fits_least"=true) (ZcF:keepIn K (.ref Zg5)=true)
  (Zgv:nsIn K mainGlobals "is_clash"=some (some (.ref ZjG))) (Zgw:K.lookup ZjG=some ⟨ZuH,ZuI,.func (fnOf "is_clash" "is_clash" (defArgs ZbQ) (defBody ZbQ) (defScope ZbQ) .none ZuJ ZuK ZuL ZuM ZmN ZuN),ZuO⟩) (Zgx:codeIn K ZmN "is_clash"=true) (ZeO:keepIn K (.ref ZjG)=true)
  (Zc4:nsIn K mainGlobals "fitted_right"=some (some (.ref Zfr))) (Zc5:K.lookup Zfr=some ⟨ZqC,ZqD,.func (fnOf "fitted_right" "fitted_right" (defArgs Zaq) (defBody Zaq) (defScope Zaq) .none ZqE ZqF ZqG ZqH Zir ZqI),ZqJ⟩) (Zc6:codeIn K Zir "fitted_right"=true) (ZbF:keepIn K (.ref Zfr)=true)
  (ZjH:nsIn K mainGlobals "lesser"=some (some (.ref ZmO))) (ZjI:K.lookup ZmO=some ⟨Zwr,Zws,.func (fnOf "lesser" "lesser" (defArgs Zd2) (defBody Zd2) (defScope Zd2) .none Zwt Zwu Zwv Zww Zqe Zwx),Zwy⟩) (ZjJ:codeIn K Zqe "lesser"=true) (Zg6:keepIn K (.ref ZmO)=true)
  (Zfs:nsIn K mainGlobals "low_steps"=some (some (.ref Zh6))) (Zft:K.lookup Zh6=some ⟨ZtV,ZtW,.func (fnOf "low_steps" "low_steps" (defArgs Zbk) (defBody Zbk) (defScope Zbk) .none ZtX ZtY ZtZ Zt0 ZlG Zt1),Zt2⟩) (Zfu:codeIn K ZlG "low_steps"=true) (Zdn:keepIn K (.ref Zh6)=true)
  (ZhT:nsIn K mainGlobals "parting"=some (some (.ref ZkI))) (ZhU:K.lookup ZkI=some ⟨Zvz,ZvA,.func (fnOf "parting" "parting" (defArgs ZcL) (defBody ZcL) (defScope ZcL) .none ZvB ZvC ZvD ZvE Zod ZvF),ZvG⟩) (ZhV:codeIn K Zod "parting"=true) (Zf2:keepIn K (.ref ZkI)=true)
  (ZjK:nsIn K mainGlobals "parted"=some (some (.ref ZmP))) (ZjL:K.lookup ZmP=some ⟨Zwz,ZwA,.func (fnOf "parted" "parted" (defArgs Zd3) (defBody Zd3) (defScope Zd3) .none ZwB ZwC ZwD ZwE Zqf ZwF),ZwG⟩) (ZjM:codeIn K Zqf "parted"=true) (Zg7:keepIn K (.ref ZmP)=true)
  (Zso:nsIn K mainGlobals "kin"=some (some (.ref ZuP))) (Zsp:K.lookup ZuP=some ⟨ZwJ,ZwK,.func (fnOf "kin" "kin" (defArgs ZkA) (defBody ZkA) (defScope ZkA) .none ZwL ZwM ZwN ZwO ZvH ZwP),ZwQ⟩) (Zsq:codeIn K ZvH "kin"=true) (ZoX:keepIn K (.ref ZuP)=true)
  (Zfv:nsIn K mainGlobals "_law_deal"=some (some (.ref Zh7))) (Zfw:K.lookup Zh7=some ⟨Zt3,Zt4,.func (fnOf "_law_deal" "_law_deal" (defArgs Zbl) (defBody Zbl) (defScope Zbl) .none Zt5 Zt6 Zt7 Zt8 ZlH Zt9),Zua⟩) (Zfx:codeIn K ZlH "_law_deal"=true) (Zdo:keepIn K (.ref Zh7)=true)
  (Zfy:nsIn K mainGlobals "_law_take"=some (some (.ref Zh8))) (Zfz:K.lookup Zh8=some ⟨Zub,Zuc,.func (fnOf "_law_take" "_law_take" (defArgs Zbm) (defBody Zbm) (defScope Zbm) .none Zud Zue Zuf Zug ZlI Zuh),Zui⟩) (ZfA:codeIn K ZlI "_law_take"=true) (Zdp:keepIn K (.ref Zh8)=true)
  (Zgy:nsIn K mainGlobals "_law_row"=some (some (.ref ZjN))) (Zgz:K.lookup ZjN=some ⟨ZuQ,ZuR,.func (fnOf "_law_row" "_law_row" (defArgs ZbR) (defBody ZbR) (defScope ZbR) .none ZuS ZuT ZuU ZuV ZmQ ZuW),ZuX⟩) (ZgA:codeIn K ZmQ "_law_row"=true) (ZeP:keepIn K (.ref ZjN)=true)
  (ZfB:nsIn K mainGlobals "_law_over"=some (some (.ref Zh9))) (ZfC:K.lookup Zh9=some ⟨Zuj,Zuk,.func (fnOf "_law_over" "_law_over" (defArgs Zbn) (defBody Zbn) (defScope Zbn) .none Zul Zum Zun Zuo ZlJ Zup),Zuq⟩) (ZfD:codeIn K ZlJ "_law_over"=true) (Zdq:keepIn K (.ref Zh9)=true)
  (ZfE:nsIn K mainGlobals "_law_flat"=some (some (.ref Zia))) (ZfF:K.lookup Zia=some ⟨Zur,Zus,.func (fnOf "_law_flat" "_law_flat" (defArgs Zbo) (defBody Zbo) (defScope Zbo) .none Zut Zuu Zuv Zuw ZlK Zux),Zuy⟩) (ZfG:codeIn K ZlK "_law_flat"=true) (Zdr:keepIn K (.ref Zia)=true)
  (Zcn:nsIn K mainGlobals "_law_wide_row"=some (some (.ref ZeV))) (Zco:K.lookup ZeV=some ⟨Zqg,Zqh,.func (fnOf "_law_wide_row" "_law_wide_row" (defArgs Zac) (defBody Zac) (defScope Zac) .none Zqi Zqj Zqk Zql ZhW Zqm),Zqn⟩) (Zcp:codeIn K ZhW "_law_wide_row"=true) (Za6:keepIn K (.ref ZeV)=true)
  (ZbG:nsIn K mainGlobals "_law_kin_row"=some (some (.ref Zc7))) (ZbH:K.lookup Zc7=some ⟨ZqK,ZqL,.func (fnOf "_law_kin_row" "_law_kin_row" (defArgs Zar) (defBody Zar) (defScope Zar) .none ZqM ZqN ZqO ZqP ZeW ZqQ),ZqR⟩) (Zc8:codeIn K ZeW "_law_kin_row"=true) (ZbI:keepIn K (.ref Zc7)=true)
  (Zcq:ZeW=.ref Za7) (Zcr:K.lookup Za7=some ⟨ZqS,ZqT,.fields Zis,ZqU⟩) (Zcs:Zis[11]?=some (.ref Za8)) (Za9:PySem.W.codeHdIn K Za7 Za8=true) (Zct:K.lookup Za8=none) (Zcu:Za8∈ts)
  (Zc9:nsIn K mainGlobals "_law_any_row"=some (some (.ref ZfH))) (Zda:K.lookup ZfH=some ⟨ZqV,ZqW,.func (fnOf "_law_any_row" "_law_any_row" (defArgs Zas) (defBody Zas) (defScope Zas) .none ZqX ZqY ZqZ Zq0 Zit Zq1),Zq2⟩) (Zdb:codeIn K Zit "_law_any_row"=true) (ZbJ:keepIn K (.ref ZfH)=true)
  (ZdL:nsIn K mainGlobals "_law_within"=some (some (.ref Zf9))) (ZdM:K.lookup Zf9=some ⟨Zsr,Zss,.func (fnOf "_law_within" "_law_within" (defArgs ZaG) (defBody ZaG) (defScope ZaG) .none Zst Zsu Zsv Zsw ZjO Zsx),Zsy⟩) (ZdN:codeIn K ZjO "_law_within"=true) (Zb3:keepIn K (.ref Zf9)=true)
  (Zbd:nsIn K mainGlobals "_law_none_nearer"=some (some (.ref Zdc))) (Zbe:K.lookup Zdc=some ⟨Zm4,Zm5,.func (fnOf "_law_none_nearer" "_law_none_nearer" (defArgs ZU) (defBody ZU) (defScope ZU) .none Zm6 Zm7 Zm8 Zm9 Zf4 Zna),Znb⟩) (Zbf:codeIn K Zf4 "_law_none_nearer"=true) (ZaB:keepIn K (.ref Zdc)=true)
  (Zsz:nsIn K mainGlobals "law"=some (some (.ref ZuY))) (ZsA:K.lookup ZuY=some ⟨ZwR,ZwS,.func (fnOf "law" "law" (defArgs ZgV) (defBody ZgV) (defScope ZgV) .none ZvI ZvJ ZvK ZvL ZsB ZvM),ZwT⟩) (ZsC:codeIn K ZsB "law"=true) (ZsD:keepIn K (.ref ZuY)=true)
  {C_DipError:Addr} (n_DipError:nsIn K mainGlobals "DipError"=some (some (.ref C_DipError))) (x_DipError:PySem.W.excIn K C_DipError bmV newV=true) (d_DipError:PySem.W.hasDictIn K C_DipError=true) (y_DipError:PySem.W.typeIn K (.ref C_DipError)=some (.type "type"))
  {C_Unlike:Addr} (n_Unlike:nsIn K mainGlobals "Unlike"=some (some (.ref C_Unlike))) (x_Unlike:PySem.W.excIn K C_Unlike bmV newV=true) (d_Unlike:PySem.W.hasDictIn K C_Unlike=true) (y_Unlike:PySem.W.typeIn K (.ref C_Unlike)=some (.type "type"))
  {C_NoTree:Addr} (n_NoTree:nsIn K mainGlobals "NoTree"=some (some (.ref C_NoTree))) (x_NoTree:PySem.W.excIn K C_NoTree bmV newV=true) (d_NoTree:PySem.W.hasDictIn K C_NoTree=true) (y_NoTree:PySem.W.typeIn K (.ref C_NoTree)=some (.type "type"))
  (b_abs:nsIn K mainGlobals "abs"=some none)
  (b_all:nsIn K mainGlobals "all"=some none)
  (b_enumerate:nsIn K mainGlobals "enumerate"=some none)
  (b_isinstance:nsIn K mainGlobals "isinstance"=some none)
  (b_len:nsIn K mainGlobals "len"=some none)
  (b_list:nsIn K mainGlobals "list"=some none)
  (b_max:nsIn K mainGlobals "max"=some none)
  (b_min:nsIn K mainGlobals "min"=some none)
  (b_range:nsIn K mainGlobals "range"=some none)
  (b_sorted:nsIn K mainGlobals "sorted"=some none)
  (b_tuple:nsIn K mainGlobals "tuple"=some none)
  (b_zip:nsIn K mainGlobals "zip"=some none)
  {t_MOST_PLACES:Tok} (m_MOST_PLACES:nsIn K mainGlobals "MOST_PLACES"=some (some (.int 40 t_MOST_PLACES)))
  (nd:[Zb0,ZeG,Za8].Nodup)
  : ∃fd:FuncData,(∀(s:Shared) (v:Value),BindsTo s fd ⟨[v],[]⟩ [("script",v)])/\(∀p∈Zfd K mg,p.1∈ts/\K.lookup p.1=none/\∃c,PySem.W.codeHdIn K c p.1=true)/\((Zfd K mg).map (·.1)).Nodup/\∀base:Heap,K.In base->base.Ns mainGlobals mg->BM mg base->FnOk l.prog w K mg base (CXE l.prog w) 9 fa fd ["script"] (ZoT K mg):=by
 have e:=hfa.symm.trans (mg_of X G Zsz)
 cases e
 have q_DipError:clsAt mg "DipError"=C_DipError:=by unfold clsAt;rw[mg_of X G n_DipError]
 have q_Unlike:clsAt mg "Unlike"=C_Unlike:=by unfold clsAt;rw[mg_of X G n_Unlike]
 have q_NoTree:clsAt mg "NoTree"=C_NoTree:=by unfold clsAt;rw[mg_of X G n_NoTree]
 have q_MOST_PLACES:tokAt mg "MOST_PLACES"=t_MOST_PLACES:=by unfold tokAt;rw[mg_of X G m_MOST_PLACES]
 have T:Txt K mg:={
  b_abs:=mg_none_of X G b_abs
  b_all:=mg_none_of X G b_all
  b_enumerate:=mg_none_of X G b_enumerate
  b_isinstance:=mg_none_of X G b_isinstance
  b_len:=mg_none_of X G b_len
  b_list:=mg_none_of X G b_list
  b_max:=mg_none_of X G b_max
  b_min:=mg_none_of X G b_min
  b_range:=mg_none_of X G b_range
  b_sorted:=mg_none_of X G b_sorted
  b_tuple:=mg_none_of X G b_tuple
  b_zip:=mg_none_of X G b_zip
  c_DipError:=by rw[q_DipError];exact mg_of X G n_DipError
  x_DipError:=by rw[q_DipError];exact x_DipError
  c_Unlike:=by rw[q_Unlike];exact mg_of X G n_Unlike
  x_Unlike:=by rw[q_Unlike];exact x_Unlike
  c_NoTree:=by rw[q_NoTree];exact mg_of X G n_NoTree
  x_NoTree:=by rw[q_NoTree];exact x_NoTree
  m_MOST_PLACES:=by rw[q_MOST_PLACES];exact mg_of X G m_MOST_PLACES
 }
 subst ZdD
 have ZaI:=Zlo (mg_of X G ZcA) ZcB rfl ZdE ZdF
 have ZlL:ZnM K mg "from_below" Zez:=⟨ZbZ,ZaI.2,by rw[ZaI.1];exact Zb1⟩
 subst Zgq
 have ZbX:=Zlo (mg_of X G ZfZ) Zf0 rfl Zgr Zgs
 have Zqo:ZnM K mg "nearest" ZhQ:=⟨ZeF,ZbX.2,by rw[ZbX.1];exact ZeH⟩
 subst Zcq
 have Zae:=Zlo (mg_of X G ZbG) ZbH rfl Zcr Zcs
 have ZjP:ZnM K mg "_law_kin_row" Zc7:=⟨Za7,Zae.2,by rw[Zae.1];exact Za9⟩
 have ZmR:=ZH (st:=ZdX) Zjp Zjq ZgY
 have ZsE:=ZmR.binds (ps:=["elders","spine","place","keep"]) λ_ _ _ _ _ _ us hl=>match us,hl with|[_,_,_,_],_=>rfl
 have ZkJ:=ZH (st:=ZcH) ZhI ZhJ ZfW
 have Zqp:=ZkJ.binds (ps:=["row"]) λ_ _ _ _ _ _ us hl=>match us,hl with|[_],_=>rfl
 have ZmS:=ZH (st:=ZdY) Zjs Zjt ZgZ
 have ZsF:=ZmS.binds (ps:=["tree","place"]) λ_ _ _ _ _ _ us hl=>match us,hl with|[_,_],_=>rfl
 have ZkK:=ZH (st:=ZcI) ZhL ZhM ZfX
 have Zqq:=ZkK.binds (ps:=["tree"]) λ_ _ _ _ _ _ us hl=>match us,hl with|[_],_=>rfl
 have Zib:=ZH (st:=Zbj) Zfo Zfp Zdm
 have ZmT:=Zib.binds (ps:=["tree"]) λ_ _ _ _ _ _ us hl=>match us,hl with|[_],_=>rfl
 have Zg8:=ZH (st:=ZaR) ZcB ZeA ZcC
 have ZlM:=Zg8.binds (ps:=["tree"]) λ_ _ _ _ _ _ us hl=>match us,hl with|[_],_=>rfl
 have Zga:=ZH (st:=ZaF) ZdJ ZdK Zb2
 have Zkf:=Zga.binds (ps:=["tree","place"]) λ_ _ _ _ _ _ us hl=>match us,hl with|[_,_],_=>rfl
 have ZjQ:=ZH (st:=ZbP) Zgo Zgp ZeB
 have Zoe:=ZjQ.binds (ps:=["tree"]) λ_ _ _ _ _ _ us hl=>match us,hl with|[_],_=>rfl
 have Zg9:=ZH (st:=ZaS) ZeD ZeE ZcD
 have ZlN:=Zg9.binds (ps:=["flat","row"]) λ_ _ _ _ _ _ us hl=>match us,hl with|[_,_],_=>rfl
 have ZmU:=ZH (st:=ZdZ) Zjx Zjy Zg1
 have ZsG:=ZmU.binds (ps:=["flat","heights"]) λ_ _ _ _ _ _ us hl=>match us,hl with|[_,_],_=>rfl
 have ZmV:=ZH (st:=Zd0) ZjA ZjB Zg2
 have ZsH:=ZmV.binds (ps:=["tree","heights"]) λ_ _ _ _ _ _ us hl=>match us,hl with|[_,_],_=>rfl
 have ZkL:=ZH (st:=ZcJ) ZhO ZhP ZfY
 have Zqr:=ZkL.binds (ps:=["tree","a","b"]) λ_ _ _ _ _ _ us hl=>match us,hl with|[_,_,_],_=>rfl
 have ZfI:=ZH (st:=Zap) Zc2 Zc3 ZbE
 have ZjR:=ZfI.binds (ps:=["tree","heights"]) λ_ _ _ _ _ _ us hl=>match us,hl with|[_,_],_=>rfl
 have ZkM:=ZH (st:=ZcK) Zf0 ZhR Zf1
 have Zqs:=ZkM.binds (ps:=["tree","row"]) λ_ _ _ _ _ _ us hl=>match us,hl with|[_,_],_=>rfl
 have Zha:=ZH (st:=ZaT) ZeJ ZeK ZcE
 have ZlO:=Zha.binds (ps:=["tree","heights","far","pair"]) λ_ _ _ _ _ _ us hl=>match us,hl with|[_,_,_,_],_=>rfl
 have ZeX:=ZH (st:=Zab) Zcl Zcm Za5
 have Ziu:=ZeX.binds (ps:=["tree","row","far","made","pair"]) λ_ _ _ _ _ _ us hl=>match us,hl with|[_,_,_,_,_],_=>rfl
 have ZmW:=ZH (st:=Zd1) ZjE ZjF Zg4
 have ZsI:=ZmW.binds (ps:=["tree","least","greatest"]) λ_ _ _ _ _ _ us hl=>match us,hl with|[_,_,_],_=>rfl
 have Zhb:=ZH (st:=ZaU) ZeM ZeN ZcF
 have ZlP:=Zhb.binds (ps:=["tree","floors","roofs","heights"]) λ_ _ _ _ _ _ us hl=>match us,hl with|[_,_,_,_],_=>rfl
 have ZjS:=ZH (st:=ZbQ) Zgw Zgx ZeO
 have Zof:=ZjS.binds (ps:=["tree","floors","roofs","a","b"]) λ_ _ _ _ _ _ us hl=>match us,hl with|[_,_,_,_,_],_=>rfl
 have ZfJ:=ZH (st:=Zaq) Zc5 Zc6 ZbF
 have ZjT:=ZfJ.binds (ps:=["tree","least","greatest","told"]) λ_ _ _ _ _ _ us hl=>match us,hl with|[_,_,_,_],_=>rfl
 have ZmX:=ZH (st:=Zd2) ZjI ZjJ Zg6
 have ZsJ:=ZmX.binds (ps:=["row","one","other"]) λ_ _ _ _ _ _ us hl=>match us,hl with|[_,_,_],_=>rfl
 have Zic:=ZH (st:=Zbk) Zft Zfu Zdn
 have ZmY:=Zic.binds (ps:=["row"]) λ_ _ _ _ _ _ us hl=>match us,hl with|[_],_=>rfl
 have ZkN:=ZH (st:=ZcL) ZhU ZhV Zf2
 have Zqt:=ZkN.binds (ps:=["ones","others","one","other","size"]) λ_ _ _ _ _ _ us hl=>match us,hl with|[_,_,_,_,_],_=>rfl
 have ZmZ:=ZH (st:=Zd3) ZjL ZjM Zg7
 have ZsK:=ZmZ.binds (ps:=["one","other"]) λ_ _ _ _ _ _ us hl=>match us,hl with|[_,_],_=>rfl
 have ZuZ:=ZH (st:=ZkA) Zsp Zsq ZoX
 have ZwH:=ZuZ.binds (ps:=["one","other"]) λ_ _ _ _ _ _ us hl=>match us,hl with|[_,_],_=>rfl
 have Zid:=ZH (st:=Zbl) Zfw Zfx Zdo
 have Zm0:=Zid.binds (ps:=["script","k"]) λ_ _ _ _ _ _ us hl=>match us,hl with|[_,_],_=>rfl
 have Zie:=ZH (st:=Zbm) Zfz ZfA Zdp
 have Zm1:=Zie.binds (ps:=["pot","many"]) λ_ _ _ _ _ _ us hl=>match us,hl with|[_,_],_=>rfl
 have ZjU:=ZH (st:=ZbR) Zgz ZgA ZeP
 have Zog:=ZjU.binds (ps:=["pot","most"]) λ_ _ _ _ _ _ us hl=>match us,hl with|[_,_],_=>rfl
 have Zif:=ZH (st:=Zbn) ZfC ZfD Zdq
 have Zm2:=Zif.binds (ps:=["tree","place"]) λ_ _ _ _ _ _ us hl=>match us,hl with|[_,_],_=>rfl
 have Zig:=ZH (st:=Zbo) ZfF ZfG Zdr
 have Zm3:=Zig.binds (ps:=["tree"]) λ_ _ _ _ _ _ us hl=>match us,hl with|[_],_=>rfl
 have ZeY:=ZH (st:=Zac) Zco Zcp Za6
 have Ziv:=ZeY.binds (ps:=["pot"]) λ_ _ _ _ _ _ us hl=>match us,hl with|[_],_=>rfl
 have ZfK:=ZH (st:=Zar) ZbH Zc8 ZbI
 have ZjV:=ZfK.binds (ps:=["pot","tree"]) λ_ _ _ _ _ _ us hl=>match us,hl with|[_,_],_=>rfl
 have ZfL:=ZH (st:=Zas) Zda Zdb ZbJ
 have ZjW:=ZfL.binds (ps:=["pot","tree"]) λ_ _ _ _ _ _ us hl=>match us,hl with|[_,_],_=>rfl
 have Zgb:=ZH (st:=ZaG) ZdM ZdN Zb3
 have Zkg:=Zgb.binds (ps:=["tree","row","far"]) λ_ _ _ _ _ _ us hl=>match us,hl with|[_,_,_],_=>rfl
 have Zdd:=ZH (st:=ZU) Zbe Zbf ZaB
 have ZgB:=Zdd.binds (ps:=["pot","tree","row","far"]) λ_ _ _ _ _ _ us hl=>match us,hl with|[_,_,_,_],_=>rfl
 have ZwI:=ZH (st:=ZgV) ZsA ZsC ZsD
 refine⟨fnOf "law" "law" (defArgs ZgV) (defBody ZgV) (defScope ZgV) .none ZvI ZvJ ZvK ZvL ZsB ZvM,λs v=>.of_eq rfl,?tb,?nd,λbase _ _ B=>?_⟩
 case tb =>
  intro p hp
  unfold Zfd at hp
  simp only[List.mem_cons,List.not_mem_nil,or_false]at hp
  rcases hp with rfl|rfl|rfl
  ·exact⟨by rw[ZaI.1];exact ZdH,by rw[ZaI.1];exact ZdG,ZbZ,by rw[ZaI.1];exact Zb1⟩
  ·exact⟨by rw[ZbX.1];exact Zgu,by rw[ZbX.1];exact Zgt,ZeF,by rw[ZbX.1];exact ZeH⟩
  ·exact⟨by rw[Zae.1];exact Zcu,by rw[Zae.1];exact Zct,Za7,by rw[Zae.1];exact Za9⟩
 case nd =>
  unfold Zfd
  simp only[List.map_cons,List.map_nil]
  rw[ZaI.1,ZbX.1,Zae.1]
  exact nd
 have Zjk:Callee l.prog w K mg base "settle" 1 ["elders","spine","place","keep"] (Zhu K mg):=⟨_,_,mg_of X G Zjo,ZgY,ZsE,ZpM ZmR T⟩
 have Z3:Callee l.prog w K mg base "tree_of" 2 ["row"] (ZbS K mg):=⟨_,_,mg_of X G ZhH,ZfW,Zqp,Zn0 ZkJ Zjk T⟩
 have ZT:Callee l.prog w K mg base "way_up" 1 ["tree","place"] (Zbp K mg):=⟨_,_,mg_of X G Zjr,ZgZ,ZsF,ZpN ZmS T⟩
 have ZhF:Callee l.prog w K mg base "is_tree" 3 ["tree"] (Zgj K mg):=⟨_,_,mg_of X G ZhK,ZfX,Zqq,Zn1 ZkK Z3 ZT T⟩
 have Zfk:Callee l.prog w K mg base "need_tree" 4 ["tree"] (Zeo K mg):=⟨_,_,mg_of X G Zfn,Zdm,ZmT,Zly Zib ZhF T⟩
 have ZdC:Callee l.prog w K mg base "flat_number" 2 ["tree","place"] (ZcT K mg):=⟨_,_,mg_of X G ZdI,Zb2,Zkf,Zjb Zga ZT T⟩
 have ZZ:Callee l.prog w K mg base "flattest" 5 ["tree"] (Zbq K mg):=⟨_,_,mg_of X G Zgn,ZeB,Zoe,Zmy ZjQ Zfk ZdC T⟩
 have ZG:Callee l.prog w K mg base "heights_of" 1 ["flat","row"] (ZaH K mg):=⟨_,_,mg_of X G ZeC,ZcD,ZlN,Zj7 Zg9 T⟩
 have Zd6:Callee l.prog w K mg base "row_by" 1 ["flat","heights"] (ZfR K mg):=⟨_,_,mg_of X G Zjw,Zg1,ZsG,ZpQ ZmU T⟩
 have Zex:Callee l.prog w K mg base "from_below" 5 ["tree"] (Zdx K mg):=⟨_,_,mg_of X G ZcA,ZcC,ZlM,Zj9 Zg8 ZT ZlL B T⟩
 have Zd7:Callee l.prog w K mg base "lifted" 6 ["tree","heights"] (ZfS K mg):=⟨_,_,mg_of X G Zjz,Zg2,ZsH,ZpR ZmV Zex T⟩
 have ZcY:Callee l.prog w K mg base "higher_pairs" 2 ["tree","heights"] (Zch K mg):=⟨_,_,mg_of X G Zc1,ZbE,ZjR,Zin ZfI ZT T⟩
 have Zbu:Callee l.prog w K mg base "nearest" 7 ["tree","row"] (Zer K mg):=⟨_,_,mg_of X G ZfZ,Zf1,Zqs,Zn6 ZkM ZZ ZG Zd6 Zd7 ZcY Zqo B T⟩
 have ZcN:Callee l.prog w K mg base "is_over" 2 ["tree","a","b"] (Zeq K mg):=⟨_,_,mg_of X G ZhN,ZfY,Zqr,Zn3 ZkL ZT T⟩
 have Zey:Callee l.prog w K mg base "pair_shows" 3 ["tree","heights","far","pair"] (Zdy K mg):=⟨_,_,mg_of X G ZeI,ZcE,ZlO,Zka Zha ZcN T⟩
 have Zci:Callee l.prog w K mg base "nearest_right" 6 ["tree","row","far","made","pair"] (ZbU K mg):=⟨_,_,mg_of X G Zck,Za5,Ziu,ZhD ZeX Z3 ZZ ZG Zey T⟩
 have Zjl:Callee l.prog w K mg base "lesser" 1 ["row","one","other"] (Zhx K mg):=⟨_,_,mg_of X G ZjH,Zg6,ZsJ,ZpW ZmX T⟩
 have Zdl:Callee l.prog w K mg base "low_steps" 2 ["row"] (Zes K mg):=⟨_,_,mg_of X G Zfs,Zdn,ZmY,ZlD Zic Zjl T⟩
 have ZhG:Callee l.prog w K mg base "parting" 1 ["ones","others","one","other","size"] (Zgl K mg):=⟨_,_,mg_of X G ZhT,Zf2,Zqt,Zn7 ZkN T⟩
 have Zjm:Callee l.prog w K mg base "parted" 3 ["one","other"] (Zhy K mg):=⟨_,_,mg_of X G ZjK,Zg7,ZsK,ZpX ZmZ Zdl ZhG T⟩
 have Zsf:Callee l.prog w K mg base "kin" 4 ["one","other"] (ZnY K mg):=⟨_,_,mg_of X G Zso,ZoX,ZwH,ok_kin ZuZ Zjm T⟩
 have Zfm:Callee l.prog w K mg base "_law_deal" 1 ["script","k"] (Zen K mg):=⟨_,_,mg_of X G Zfv,Zdo,Zm0,Zlw Zid T⟩
 have Zp:Callee l.prog w K mg base "_law_take" 1 ["pot","many"] (Zaz K mg):=⟨_,_,mg_of X G Zfy,Zdp,Zm1,Zlx Zie T⟩
 have Zev:Callee l.prog w K mg base "_law_row" 2 ["pot","most"] (Zfe K mg):=⟨_,_,mg_of X G Zgy,ZeP,Zog,Zmx ZjU Zp T⟩
 have Zcj:Callee l.prog w K mg base "_law_wide_row" 3 ["pot"] (ZbT K mg):=⟨_,_,mg_of X G Zcn,Za6,Ziv,ZhA ZeY Zp Zev T⟩
 have Zbt:Callee l.prog w K mg base "_law_over" 1 ["tree","place"] (Zcx K mg):=⟨_,_,mg_of X G ZfB,Zdq,Zm2,Zlz Zif T⟩
 have Zfl:Callee l.prog w K mg base "_law_flat" 2 ["tree"] (Zep K mg):=⟨_,_,mg_of X G ZfE,Zdr,Zm3,ZlA Zig Zbt T⟩
 have Zat:Callee l.prog w K mg base "_law_kin_row" 5 ["pot","tree"] (Za3 K mg):=⟨_,_,mg_of X G ZbG,ZbI,ZjV,Zim ZfK Zp Zbt Zfl ZjP B T⟩
 have Zc0:Callee l.prog w K mg base "_law_any_row" 6 ["pot","tree"] (Zcf K mg):=⟨_,_,mg_of X G Zc9,ZbJ,ZjW,Zio ZfL Zp Zat T⟩
 have Zjn:Callee l.prog w K mg base "fitted" 7 ["tree","least","greatest"] (Zhw K mg):=⟨_,_,mg_of X G ZjD,Zg4,ZsI,ZpS ZmW ZT ZZ ZG Zd6 Zd7 T⟩
 have Zew:Callee l.prog w K mg base "fits_least" 1 ["tree","floors","roofs","heights"] (Zdw K mg):=⟨_,_,mg_of X G ZeL,ZcF,ZlP,Zj8 Zhb T⟩
 have Zgm:Callee l.prog w K mg base "is_clash" 3 ["tree","floors","roofs","a","b"] (Zfg K mg):=⟨_,_,mg_of X G Zgv,ZeO,Zof,Zmz ZjS ZcN T⟩
 have ZcZ:Callee l.prog w K mg base "fitted_right" 6 ["tree","least","greatest","told"] (Zce K mg):=⟨_,_,mg_of X G Zc4,ZbF,ZjT,Zil ZfJ ZZ ZG Zew Zgm T⟩
 have ZbY:Callee l.prog w K mg base "_law_within" 8 ["tree","row","far"] (ZcV K mg):=⟨_,_,mg_of X G ZdL,Zb3,Zkg,Zjj Zgb Zjn ZcZ T⟩
 have Zbc:Callee l.prog w K mg base "_law_none_nearer" 8 ["pot","tree","row","far"] (ZaZ K mg):=⟨_,_,mg_of X G Zbd,ZaB,ZgB,Zf3 Zdd Z3 Zbu Zat T⟩
 exact ok_law ZwI Z3 Zbu Zci Zsf Zfm Zp Zcj Zc0 ZbY Zbc T
theorem walk {l:PySem.W.OpenLaw}{q:Program}{loose:List Str}{XP:(Str->Option Value)->Heap->Prop}{YP:World->Heap->Prop}{d:DefRec}{K:Params->PySem.W.Frag}{ts:List Addr} (hn:l.most=some 63) (hdf:d.params.defaults=[])
  (hY:∀(w:World) (h:Heap),YP w h->(K w.params).In h) (hY2:∀(w:World) (h:Heap),YP w h->∀P∈ts,h.get? P=some (PySem.W.tabObj #[]))
  (F:∀(w:World) (mg:Str->Option Value) (fa:Addr) (h:Heap),(K w.params).In h->h.Ns mainGlobals mg->mg d.name=some (.ref fa) ->
   ∃fd:FuncData,(∀(s:Shared) (u:Value),BindsTo s fd ⟨[u],[]⟩ [("script",u)])/\(∀p∈Zfd (K w.params) mg,p.1∈ts/\(K w.params).lookup p.1=none/\∃c,PySem.W.codeHdIn (K w.params) c p.1=true)/\((Zfd (K w.params) mg).map (·.1)).Nodup/\∀base:Heap,(K w.params).In base->base.Ns mainGlobals mg->BM mg base->FnOk l.prog w (K w.params) mg base (CXE l.prog w) 9 fa fd ["script"] (ZoT (K w.params) mg)) :
  PySem.W.WalkO q loose XP YP l.row.toRowW d [] (λf vs=>PySem.call f vs) :=
 L2.ZrQ (n:=63) (k:=9) (x:="script") (ts:=ts) (tabs:=Zfd) (CX:=λw=>CXE l.prog w) (sp:=λw mg=>ZoT (K w.params) mg) hn (by decide) hdf ⟨rfl,by decide,by decide⟩ hY hY2 F (λ_ _ _ a ns hl hS hT=>⟨a,ns,rfl,hS,hl,hT,λ_=>rfl⟩) λ_ _ _ _ _ ⟨_,_,_,_,_,_,_,z⟩=>z
end K62
def PySem.W.Fast.tw865145845235074225:Unit:=()
def PySem.W.Fast.tw8632159046363924378:Unit:=()
def PySem.W.Fast.tw14923212548230538544:Unit:=()
def PySem.W.Fast.tw10893300866790279183:Unit:=()
def PySem.W.Fast.tw9177623848773979210:Unit:=()
def PySem.W.Fast.tw15330723735869743195:Unit:=()
def PySem.W.Fast.tw12868305347696046843:Unit:=()
def PySem.W.Fast.tw16587811911930907151:Unit:=()
def PySem.W.Fast.tw7170710936295526517:Unit:=()
def PySem.W.Fast.tw1036630214137093272:Unit:=()
def PySem.W.Fast.tw13123546929669180683:Unit:=()
def PySem.W.Fast.tw17367075651599251386:Unit:=()
def PySem.W.Fast.tw4389466204057528683:Unit:=()
def PySem.W.Fast.tw5133484915806097637:Unit:=()
def PySem.W.Fast.tw9221793376549820569:Unit:=()
def PySem.W.Fast.tw13203710926689618779:Unit:=()
def PySem.W.Fast.tw10238308448494833585:Unit:=()
def PySem.W.Fast.tw6050910031292534981:Unit:=()
def PySem.W.Fast.tw6652600969067111605:Unit:=()
def PySem.W.Fast.tw4941590137979090544:Unit:=()
def PySem.W.Fast.tw5237404334583254569:Unit:=()
def PySem.W.Fast.tw6517267827362984873:Unit:=()
def PySem.W.Fast.tw16924405954138785611:Unit:=()
def PySem.W.Fast.tw1446340454786807038:Unit:=()
def PySem.W.Fast.tw15825297384716797899:Unit:=()
def PySem.W.Fast.tw308217119681223407:Unit:=()
def PySem.W.Fast.tw8014466039677058247:Unit:=()
def PySem.W.Fast.tw1879777515869624837:Unit:=()
def PySem.W.Fast.tw12425355015405062046:Unit:=()
def PySem.W.Fast.tw7198219510093528232:Unit:=()
def PySem.W.Fast.tw9966034797668069202:Unit:=()
def PySem.W.Fast.tw9333339367441945694:Unit:=()
def PySem.W.Fast.tw17260887555826084210:Unit:=()
def PySem.W.Fast.tw16664757326424849136:Unit:=()
def PySem.W.Fast.tw9666976876293902895:Unit:=()
def PySem.W.Fast.tw10610020108183431476:Unit:=()
def PySem.W.Fast.tw12517289812037105566:Unit:=()
def PySem.W.Fast.tw11555398975970823133:Unit:=()
def PySem.W.Fast.tw18199225679067155270:Unit:=()
def PySem.W.Fast.tw6064630361595494782:Unit:=()
def PySem.W.Fast.tw17876773795574686301:Unit:=()
def PySem.W.Fast.tw16612605385134752937:Unit:=()
def PySem.W.Fast.tw2783402426457663018:Unit:=()
def PySem.W.Fast.tw10952821079330316848:Unit:=()
def PySem.W.Fast.tw12815372302572492389:Unit:=()
def PySem.W.Fast.tw15962836211036474933:Unit:=()
def PySem.W.Fast.tw6106191966568882809:Unit:=()
def PySem.W.Fast.tw14438264803709613100:Unit:=()
def PySem.W.Fast.tw836974415329804167:Unit:=()
def PySem.W.Fast.tw3879788614099310224:Unit:=()
def PySem.W.Fast.tw4577280112119518793:Unit:=()
def PySem.W.Fast.tw2917768822785955480:Unit:=()
def PySem.W.Fast.tw8475625493576149967:Unit:=()
def PySem.W.Fast.tw5264047262654896954:Unit:=()
def PySem.W.Fast.tw9355904644992920299:Unit:=()
def PySem.W.Fast.tw2084650635568075374:Unit:=()
def PySem.W.Fast.tw12109355777852087425:Unit:=()
def PySem.W.Fast.tw11491290897425254765:Unit:=()
def PySem.W.Fast.tw1621018261638346339:Unit:=()
def PySem.W.Fast.tw119854183808724717:Unit:=()
def PySem.W.Fast.tw17596397557335849522:Unit:=()
def PySem.W.Fast.tw14842392309678908856:Unit:=()
def PySem.W.Fast.tw15433008374592250627:Unit:=()
def PySem.W.Fast.tw5101759138144257916:Unit:=()
def PySem.W.Fast.tw9926687769059480419:Unit:=()
def PySem.W.Fast.tw7777960605332172482:Unit:=()
def PySem.W.Fast.tw6411043466151842558:Unit:=()
def PySem.W.Fast.tw5319378702815085712:Unit:=()
def PySem.W.Fast.tw181430818740020681:Unit:=()
def PySem.W.Fast.tw14256724409016003189:Unit:=()
def PySem.W.Fast.tw13764255357862895928:Unit:=()
def PySem.W.Fast.tw11128469326635038181:Unit:=()
def PySem.W.Fast.tw16234101774424450294:Unit:=()
def PySem.W.Fast.tw12525802526711860205:Unit:=()
def PySem.W.Fast.tw13522609048347539731:Unit:=()
def PySem.W.Fast.tw4421698478272875726:Unit:=()
def PySem.W.Fast.tw12183706065523551953:Unit:=()
def PySem.W.Fast.tw4386651952868625153:Unit:=()
def PySem.W.Fast.tw16678747205253899650:Unit:=()
def PySem.W.Fast.tw642572843448620267:Unit:=()
def PySem.W.Fast.tw13671837963701872417:Unit:=()
def PySem.W.Fast.tw12356003359748409988:Unit:=()
def PySem.W.Fast.tw16622948058499215386:Unit:=()
def PySem.W.Fast.tw12711696222828337341:Unit:=()
def PySem.W.Fast.tw5456823254972567890:Unit:=()
def PySem.W.Fast.tw4141394870330646829:Unit:=()
def PySem.W.Fast.tw12885350846651546787:Unit:=()
def PySem.W.Fast.tw16174008294261038321:Unit:=()
def PySem.W.Fast.tw11185750492198756422:Unit:=()
def PySem.W.Fast.tw10564382549067336693:Unit:=()
def PySem.W.Fast.tw13996324936864381444:Unit:=()
def PySem.W.Fast.tw6716245714229281007:Unit:=()
def PySem.W.Fast.tw2206432617093880815:Unit:=()
def PySem.W.Fast.tw12692479401475948529:Unit:=()
open PySem PySem.W PyProof.Rows
set_option maxRecDepth 100000 in
set_option maxHeartbeats 0 in
theorem PySem.Challenge.cw_dipkin_k62_whole_no_row_is_nearer_holds : PySem.Challenge.rw_dipkin_k62_whole_no_row_is_nearer.Holds := by
 w_on;o_law;k_head;(case hw=>w_witness2)
 k_fill
 refine K62.walk (l:=PySem.Challenge.rw_dipkin_k62_whole_no_row_is_nearer) rfl rfl (λw h Y=>PySem.W.km_in_of Y) (λw h Y=>PySem.W.km_tabs_of Y) ?F
 case F =>
  intro w mg fa h KX G hmg
  refine' K62.all_mk KX G hmg ?Zjo ?Zjp ?Zjq ?ZgY ?ZhH ?ZhI ?ZhJ ?ZfW ?Zjr ?Zjs ?Zjt ?ZgZ ?ZhK ?ZhL ?ZhM ?ZfX ?Zfn ?Zfo ?Zfp ?Zdm ?ZcA ?ZcB ?ZeA ?ZcC ?ZdD ?ZdE ?ZdF ?Zb1 ?ZdG ?ZdH ?ZdI ?ZdJ ?ZdK ?Zb2 ?Zgn ?Zgo ?Zgp ?ZeB ?ZeC ?ZeD ?ZeE ?ZcD ?Zjw ?Zjx ?Zjy ?Zg1 ?Zjz ?ZjA ?ZjB ?Zg2 ?ZhN ?ZhO ?ZhP ?ZfY ?Zc1 ?Zc2 ?Zc3 ?ZbE ?ZfZ ?Zf0 ?ZhR ?Zf1 ?Zgq ?Zgr ?Zgs ?ZeH ?Zgt ?Zgu ?ZeI ?ZeJ ?ZeK ?ZcE ?Zck ?Zcl ?Zcm ?Za5 ?ZjD ?ZjE ?ZjF ?Zg4 ?ZeL ?ZeM ?ZeN ?ZcF ?Zgv ?Zgw ?Zgx ?ZeO ?Zc4 ?Zc5 ?Zc6 ?ZbF ?ZjH ?ZjI ?ZjJ ?Zg6 ?Zfs ?Zft ?Zfu ?Zdn ?ZhT ?ZhU ?ZhV ?Zf2 ?ZjK ?ZjL ?ZjM ?Zg7 ?Zso ?Zsp ?Zsq ?ZoX ?Zfv ?Zfw ?Zfx ?Zdo ?Zfy ?Zfz ?ZfA ?Zdp ?Zgy ?Zgz ?ZgA ?ZeP ?ZfB ?ZfC ?ZfD ?Zdq ?ZfE ?ZfF ?ZfG ?Zdr ?Zcn ?Zco ?Zcp ?Za6 ?ZbG ?ZbH ?Zc8 ?ZbI ?Zcq ?Zcr ?Zcs ?Za9 ?Zct ?Zcu ?Zc9 ?Zda ?Zdb ?ZbJ ?ZdL ?ZdM ?ZdN ?Zb3 ?Zbd ?Zbe ?Zbf ?ZaB ?Zsz ?ZsA ?ZsC ?ZsD ?n_DipError ?x_DipError ?d_DipError ?y_DipError ?n_Unlike ?x_Unlike ?d_Unlike ?y_Unlike ?n_NoTree ?x_NoTree ?d_NoTree ?y_NoTree ?b_abs ?b_all ?b_enumerate ?b_isinstance ?b_len ?b_list ?b_max ?b_min ?b_range ?b_sorted ?b_tuple ?b_zip ?m_MOST_PLACES ?nd
  (case Zjo|Zjp|Zjq|ZgY|ZhH|ZhI|ZhJ|ZfW|Zjr|Zjs|Zjt|ZgZ|ZhK|ZhL|ZhM|ZfX|Zfn|Zfo|Zfp|Zdm|ZcA|ZcB|ZeA|ZcC=>k_is)
  (case ZdD=>exact rfl)
  (case ZdE=>k_is)
  (case ZdF=>exact rfl)
  (case Zb1=>kernel_rfl)
  (case ZdG=>kernel_rfl)
  (case ZdH=>decide)
  (case ZdI|ZdJ|ZdK|Zb2|Zgn|Zgo|Zgp|ZeB|ZeC|ZeD|ZeE|ZcD|Zjw|Zjx|Zjy|Zg1|Zjz|ZjA|ZjB|Zg2|ZhN|ZhO|ZhP|ZfY|Zc1|Zc2|Zc3|ZbE|ZfZ|Zf0|ZhR|Zf1=>k_is)
  (case Zgq=>exact rfl)
  (case Zgr=>k_is)
  (case Zgs=>exact rfl)
  (case ZeH=>kernel_rfl)
  (case Zgt=>kernel_rfl)
  (case Zgu=>decide)
  (case ZeI|ZeJ|ZeK|ZcE|Zck|Zcl|Zcm|Za5|ZjD|ZjE|ZjF|Zg4|ZeL|ZeM|ZeN|ZcF|Zgv|Zgw|Zgx|ZeO|Zc4|Zc5|Zc6|ZbF|ZjH|ZjI|ZjJ|Zg6|Zfs|Zft|Zfu|Zdn|ZhT|ZhU|ZhV|Zf2|ZjK|ZjL|ZjM|Zg7|Zso|Zsp|Zsq|ZoX|Zfv|Zfw|Zfx|Zdo|Zfy|Zfz|ZfA|Zdp|Zgy|Zgz|ZgA|ZeP|ZfB|ZfC|ZfD|Zdq|ZfE|ZfF|ZfG|Zdr|Zcn|Zco|Zcp|Za6|ZbG|ZbH|Zc8|ZbI=>k_is)
  (case Zcq=>exact rfl)
  (case Zcr=>k_is)
  (case Zcs=>exact rfl)
  (case Za9=>kernel_rfl)
  (case Zct=>kernel_rfl)
  (case Zcu=>decide)
  (case Zc9|Zda|Zdb|ZbJ|ZdL|ZdM|ZdN|Zb3|Zbd|Zbe|Zbf|ZaB|Zsz|ZsA|ZsC|ZsD|n_DipError=>k_is)
  (case x_DipError=>k_exc)
  (case d_DipError|y_DipError|n_Unlike=>k_is)
  (case x_Unlike=>k_exc)
  (case d_Unlike|y_Unlike|n_NoTree=>k_is)
  (case x_NoTree=>k_exc)
  (case d_NoTree|y_NoTree|b_abs|b_all|b_enumerate|b_isinstance|b_len|b_list|b_max|b_min|b_range|b_sorted|b_tuple|b_zip|m_MOST_PLACES=>k_is)
  (case nd=>decide)
