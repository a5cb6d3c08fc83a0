import PyProof.Rows.All
import Wide.All
import OpenK.AllK
import Wide.FinOn
import Lean
import PyProof.EqAt
import PyProof.EqKinds
import PyProof.TupleCall
import PyProof.MeetsSeq
import PyProof.NeKinds
import PyProof.TupleOfSeq
import PyProof.ListRange
import PyProof.TupleOfGen
import PyProof.ZipIter
import KE.KRevIter
import PyProof.StrWalks
import PyProof.StrBlock2
import PyProof.MeetsStr
import PyProof.StrCalls2
import PyProof.StrLawsIn
import KE.KIntText
import PyProof.StrLawsTight
import PyProof.StrLawsChain
import PyProof.StrLawsAffix
import PyProof.Rows.StrItems
import PyProof.Rows.ReprOcc
import KE.KDictSum
import PyProof.Rows.SeqMore
import KE.KDictList
import PySem.Challenge.RW_dipkin_k51_tables_judged
set_option Elab.async false
set_option linter.all false
set_option maxRecDepth 100000
namespace L2
open PySem PySem.Spec PyProof.Rows
abbrev Key:=Sum Int Str
def keyIs : Key→Value→Bool
  | .inl k,v=>Value.isInt k v
  | .inr x,v=>Value.isStrOf x v
def keyH (w : World) : Key→Int
  | .inl k=>hashInt k
  | .inr x=>hashStr w x
theorem keyIs_shape : ∀ {k : Key} {v : Value},keyIs k v = true→(∃ i t,k = Sum.inl i∧v = Value.int i t)∨(∃ x t,k = Sum.inr x∧v = Value.str x t)
  | .inl i,v,h=>by
    obtain ⟨t,e⟩:=Value.isInt_shape (k:=i) (v:=v) h
    exact .inl ⟨i,t,rfl,e⟩
  | .inr x,v,h=>by
    obtain ⟨t,e⟩:=Value.isStrOf_shape (x:=x) (v:=v) h
    exact .inr ⟨x,t,rfl,e⟩
theorem key_ll (a b : Int) : decide ((Sum.inl a : Key) = Sum.inl b) = (a == b):=by
  by_cases e : a = b
  · subst e; simp
  · have h : ¬ (Sum.inl a : Key) = Sum.inl b:=fun q=>e (Sum.inl.inj q)
    rw [decide_eq_false h]
    exact (beq_eq_false_iff_ne.mpr e).symm
theorem key_rr (a b : Str) : decide ((Sum.inr a : Key) = Sum.inr b) = decide (a = b):=by
  by_cases e : a = b
  · subst e; simp
  · have h : ¬ (Sum.inr a : Key) = Sum.inr b:=fun q=>e (Sum.inr.inj q)
    rw [decide_eq_false h,decide_eq_false e]
theorem key_lr (a : Int) (b : Str) : decide ((Sum.inl a : Key) = Sum.inr b) = false:=decide_eq_false (fun q=>nomatch q)
theorem key_rl (a : Str) (b : Int) : decide ((Sum.inr a : Key) = Sum.inl b) = false:=decide_eq_false (fun q=>nomatch q)
def mixKind (prog : Program) (w : World) : PySem.KeyKind prog w Key where
  is:=keyIs
  hash:=keyH w
  inj:=fun v a b ha hb=>by
    rcases keyIs_shape ha with ⟨i,t,rfl,rfl⟩ | ⟨x,t,rfl,rfl⟩
    · rcases keyIs_shape hb with ⟨j,u,rfl,e⟩ | ⟨y,u,rfl,e⟩
      · injection e with e1 _; rw [e1]
      · exact nomatch e
    · rcases keyIs_shape hb with ⟨j,u,rfl,e⟩ | ⟨y,u,rfl,e⟩
      · exact nomatch e
      · injection e with e1 _; rw [e1]
  byValue:=fun k v h=>by
    rcases keyIs_shape h with ⟨i,t,rfl,rfl⟩ | ⟨x,t,rfl,rfl⟩ <;> rfl
  pyHash:=fun hv h=>by
    rcases keyIs_shape hv with ⟨i,t,rfl,rfl⟩ | ⟨x,t,rfl,rfl⟩
    · exact wpAny_pyHash_int h
    · exact wpAny_pyHash_str h
  eqBool:=fun hu hv h=>by
    rcases keyIs_shape hu with ⟨i,t,rfl,rfl⟩ | ⟨x,t,rfl,rfl⟩
    · rcases keyIs_shape hv with ⟨j,u,rfl,rfl⟩ | ⟨y,u,rfl,rfl⟩
      · rw [key_ll] at h; exact wpAny_eqBool_int h
      · rw [key_lr] at h; exact SeqAt.EqAt.int_str i t y u _ _ _ _ h
    · rcases keyIs_shape hv with ⟨j,u,rfl,rfl⟩ | ⟨y,u,rfl,rfl⟩
      · rw [key_rl] at h; exact SeqAt.EqAt.str_int x t j u _ _ _ _ h
      · rw [key_rr] at h; exact wpAny_eqBool_str h
  «strs»:=fun k x t v h=>by
    rcases keyIs_shape h with ⟨i,u,rfl,e⟩ | ⟨y,u,rfl,e⟩
    · exact nomatch e
    · injection e with e1 _
      subst e1
      cases v <;> rfl
end L2
namespace L2
open PySem PySem.Spec PyProof.Rows
inductive V where
  | non | bl (b : Bool) | int (i : Int) | str (x : Str) | byt (b : Array UInt8) | flt (b : UInt64) | ref (a : Addr) | ty (n : String)
  deriving DecidableEq
def RelV : V→Value→Prop
  | .non,u=>u = Value.none
  | .bl b,u=>u = Value.bool b
  | .int i,u=>∃ t,u = Value.int i t
  | .str x,u=>∃ t,u = Value.str x t
  | .byt b,u=>∃ t,u = Value.bytes b t
  | .flt b,u=>∃ t,u = Value.float b t
  | .ref a,u=>u = Value.ref a
  | .ty n,u=>u = Value.type n
abbrev Vals : List V→List Value→Prop:=Paired RelV
theorem Vals.length {xs : List V} {us : List Value} (r : Vals xs us) : xs.length = us.length:=Paired.length r
theorem Vals.get : ∀ {xs : List V} {us : List Value} {i : Nat} {x : V},Vals xs us→xs[i]? = some x→∃ u,us[i]? = some u∧RelV x u
  | _,_,_,_,.nil,e=>by simp at e
  | _,_,0,_,.cons r _,e=>by simp at e; subst e; exact ⟨_,rfl,r⟩
  | _,_,i + 1,x,.cons _ t,e=>by
    obtain ⟨u,h1,h2⟩:=Vals.get (i:=i) (x:=x) t (by simpa using e)
    exact ⟨u,by simpa using h1,h2⟩
theorem Vals.set {x : V} {u : Value} (r : RelV x u) : ∀ {xs : List V} {us : List Value} (i : Nat),Vals xs us→Vals (xs.set i x) (us.set i u)
  | _,_,_,.nil=>.nil
  | _,_,0,.cons _ t=>.cons r t
  | _,_,i + 1,.cons q t=>.cons q (Vals.set r i t)
theorem Vals.append : ∀ {xs ys : List V} {us ws : List Value},Vals xs us→Vals ys ws→Vals (xs ++ ys) (us ++ ws)
  | _,_,_,_,.nil,s=>s
  | _,_,_,_,.cons r t,s=>.cons r (Vals.append t s)
theorem Vals.take : ∀ {xs : List V} {us : List Value} (n : Nat),Vals xs us→Vals (xs.take n) (us.take n)
  | _,_,0,_=>.nil
  | _,_,_ + 1,.nil=>.nil
  | _,_,n + 1,.cons r t=>.cons r (Vals.take n t)
theorem Vals.drop : ∀ {xs : List V} {us : List Value} (n : Nat),Vals xs us→Vals (xs.drop n) (us.drop n)
  | _,_,0,r=>r
  | _,_,_ + 1,.nil=>.nil
  | _,_,n + 1,.cons _ t=>Vals.drop n t
def RelO : Option V→Option Value→Prop
  | some v,some u=>RelV v u
  | none,none=>True
  | _,_=>False
def KV {κ : Type} : List (κ × V)→List (κ × Value)→Prop:=Paired fun (p : κ × V) (q : κ × Value)=>p.1 = q.1∧RelV p.2 q.2
def kV : Key→V
  | .inl i=>.int i
  | .inr x=>.str x
inductive HO where
  | lst (xs : List V)
  | tup (xs : List V)
  | dK (kvs : List (Key × V)) | dT (kvs : List (List Key × V))
  | set (S : Int→Bool) (n : Nat)
  | ins (C dx : Addr) (fs : List (Str × V))
  | own (x : Addr)
  | xd (fs : List (Str × V))
  | met (f x : Addr)
  | rng (lo hi : Int)
  | frz (o : Obj) (u : HO)
  | tbl (ps : Array Value)
  | ext (φ : Heap→Prop)
abbrev Hp:=Addr→Option HO
def upd (H : Hp) (a : Addr) (o : HO) : Hp:=fun b=>if b = a then some o else H b
theorem upd_same {H : Hp} {a : Addr} {o : HO} : upd H a o a = some o:=by unfold upd; rw [if_pos rfl]
theorem upd_ne {H : Hp} {a b : Addr} {o : HO} (h : b≠a) : upd H a o b = H b:=by unfold upd; rw [if_neg h]
theorem upd_upd {H : Hp} {a : Addr} {o u : HO} : upd (upd H a o) a u = upd H a u:=by
  funext b; unfold upd; split <;> rfl
theorem ne_of_none {H : Hp} {a b : Addr} {o : HO} (h : H a = some o) (h' : H b = none) : a≠b:=by
  intro e; subst e; rw [h] at h'; cases h'
section
variable (P : Program) (w : World)
def ObjOk (H : Hp) (h : Heap) (a : Addr) : HO→Prop
  | .lst xs=>xs.length≤sizeLine∧∃ (its : List Value) (n : Nat),Vals xs its∧h.get? a = some { cls:=.type "list",data:=.seq its.toArray n }
  | .tup xs=>xs.length≤sizeLine∧∃ its : List Value,Vals xs its∧IsTup h a its.toArray
  | .dK kvs=>kvs.length≤sizeLine∧(a == sysModules) = false∧∃ vs,KV kvs vs∧h.DictOf (mixKind P w) a vs
  | .dT kvs=>kvs.length≤sizeLine∧(a == sysModules) = false∧∃ xs : List (List Key × Addr × Value),
      Paired (fun (p : List Key × V) (q : List Key × Addr × Value)=>p.1 = q.1∧H q.2.1 = some (.tup (p.1.map kV))∧RelV p.2 q.2.2) kvs xs ∧
      ∃ o es ep,h.get? a = some o∧o.ExactDict∧o.data = .dict es ep∧es.toList = xs.map (entryOfKey (tupleKind (mixKind P w)))∧(xs.map (·.1)).Nodup
  | .set S n=>h.SetOf (intKind P w) a S n
  | .ins C dx fs=>H dx = some (.own a)∧fs.length≤1000∧dx≠a∧h.get? a = some (PySem.W.instObj C dx) ∧
      ∃ mA,h.Ns1 dx mA∧(∀ f,RelO (fs.lookup f) (mA f))∧PySem.Within mA (fs.map (·.1))
  | .own _=>∃ o,h.get? a = some o
  | .xd fs=>∃ mA,h.Ns1 a mA∧∀ f,RelO (fs.lookup f) (mA f)
  | .rng lo hi=>∃ t u v,h.get? a = some { cls:=.type "range",data:=.fields #[.int lo t,.int hi u,.int 1 v] }
  | .frz o u=>h.get? a = some o∧ObjOk H h a u
  | .tbl ps=>∃ ts : Array Value,h.get? a = some { cls:=.none,data:=.fields ts }∧TriplesOk ts.toList∧∀ pos cv,codeAmong pos ts.toList = some cv→∃ c oc vs q t t',cv = .ref c∧H c = some (.frz oc (.own a))∧oc.data = .fields vs∧ps[0]? = some (.str q t)∧vs[1]? = some (.str q t')
  | .met f x=>h.get? a = some (PySem.W.methodObj (.ref f) (.ref x))
  | .ext φ=>φ h∧(∃ o,h.get? a = some o)∧∀ h1 h2 : Heap,φ h1→(∀ o,h1.get? a = some o→h2.get? a = some o)→φ h2
def HOk (H : Hp) (h : Heap) : Prop:=∀ a o,H a = some o→ObjOk P w H h a o
end
section
variable {P : Program} {w : World} {H H' : Hp} {h h' : Heap} {a : Addr} {o : HO}
theorem ObjOk.lt (x : ObjOk P w H h a o) : a < h.objs.size:=by
  cases o with
  | lst xs=>obtain ⟨_,_,_,_,e⟩:=x; exact Heap.lt_size e
  | tup xs=>obtain ⟨_,_,_,p⟩:=x; exact p.lt
  | dK kvs=>obtain ⟨_,_,_,_,o,_,_,e,_⟩:=x; exact Heap.lt_size e
  | dT kvs=>obtain ⟨_,_,_,_,o,_,_,e,_⟩:=x; exact Heap.lt_size e
  | set S n=>obtain ⟨o,_,_,_,e,_⟩:=x; exact Heap.lt_size e
  | ins C dx fs=>obtain ⟨_,_,_,e,_⟩:=x; exact Heap.lt_size e
  | own y=>obtain ⟨_,e⟩:=x; exact Heap.lt_size e
  | xd fs=>obtain ⟨_,⟨_,_,_,e,_⟩,_⟩:=x; exact Heap.lt_size e
  | rng lo hi=>obtain ⟨_,_,_,e⟩:=x; exact Heap.lt_size e
  | frz ob u=>obtain ⟨e,_⟩:=x; exact Heap.lt_size e
  | tbl ps=>obtain ⟨_,e,_⟩:=x; exact Heap.lt_size e
  | met f y=>exact Heap.lt_size (show h.get? a = some _ from x)
  | ext φ=>obtain ⟨_,⟨_,e⟩,_⟩:=x; exact Heap.lt_size e
theorem Paired.mapP {α β : Type} {F G : α→β→Prop} : ∀ {l₁ : List α} {l₂ : List β},Paired F l₁ l₂→(∀ a b,F a b→G a b)→Paired G l₁ l₂
  | _,_,.nil,_=>.nil
  | _,_,.cons r t,f=>.cons (f _ _ r) (Paired.mapP t f)
theorem ObjOk.stay (x : ObjOk P w H h a o) (k : ∀ b u,(b = a∨H b = some (.own a))→h.get? b = some u→h'.get? b = some u)
    (ho : ∀ b,H b = some (.own a)→H' b = some (.own a)) (ht : ∀ b xs,H b = some (.tup xs)→H' b = some (.tup xs)) (hz : ∀ b o u,H b = some (.frz o u)→H' b = some (.frz o u)) : ObjOk P w H' h' a o:=by
  induction o with
  | lst xs=>obtain ⟨z,its,n,r,e⟩:=x; exact ⟨z,its,n,r,k _ _ (.inl rfl) e⟩
  | tup xs=>obtain ⟨z,its,r,ob,e,c⟩:=x; exact ⟨z,its,r,ob,k _ _ (.inl rfl) e,c⟩
  | dK kvs=>obtain ⟨z,y,vs,r,ob,es,ep,e,c⟩:=x; exact ⟨z,y,vs,r,ob,es,ep,k _ _ (.inl rfl) e,c⟩
  | dT kvs =>
    obtain ⟨z,y,xs,r,ob,es,ep,e,c⟩:=x
    exact ⟨z,y,xs,Paired.mapP r fun p q z=>⟨z.1,ht _ _ z.2.1,z.2.2⟩,ob,es,ep,k _ _ (.inl rfl) e,c⟩
  | set S n=>obtain ⟨ob,es,ep,t,e,c⟩:=x; exact ⟨ob,es,ep,t,k _ _ (.inl rfl) e,c⟩
  | ins C dx fs =>
    obtain ⟨d,z,ne,e,mA,⟨od,es,ep,e2,c⟩,r⟩:=x
    exact ⟨ho _ d,z,ne,k _ _ (.inl rfl) e,mA,⟨od,es,ep,k _ _ (.inr d) e2,c⟩,r⟩
  | own y=>obtain ⟨ob,e⟩:=x; exact ⟨ob,k _ _ (.inl rfl) e⟩
  | xd fs=>obtain ⟨mA,⟨od,es,ep,e,c⟩,r⟩:=x; exact ⟨mA,⟨od,es,ep,k _ _ (.inl rfl) e,c⟩,r⟩
  | rng lo hi=>obtain ⟨t,u,v,e⟩:=x; exact ⟨t,u,v,k _ _ (.inl rfl) e⟩
  | frz ob u ih=>obtain ⟨e,q⟩:=x; exact ⟨k _ _ (.inl rfl) e,ih q⟩
  | tbl ps =>
    obtain ⟨ts,e,t3,z⟩:=x
    refine ⟨ts,k a _ (.inl rfl) e,t3,fun pos cv hc=>?_⟩
    obtain ⟨c,oc,vs,q,t,t',e1,e2,r⟩:=z pos cv hc
    exact ⟨c,oc,vs,q,t,t',e1,hz _ _ _ e2,r⟩
  | met f y =>
    have e : h.get? a = some (PySem.W.methodObj (.ref f) (.ref y)):=x
    show h'.get? a = some (PySem.W.methodObj (.ref f) (.ref y))
    exact k a _ (.inl rfl) e
  | ext φ=>obtain ⟨p,⟨o,e⟩,st⟩:=x; exact ⟨st _ _ p fun o q=>k _ _ (.inl rfl) q,⟨o,k _ _ (.inl rfl) e⟩,st⟩
theorem HOk.lt (x : HOk P w H h) (e : H a = some o) : a < h.objs.size:=(x a o e).lt
theorem HOk.fresh (x : HOk P w H h) (e : h.objs.size≤a) : H a = none:=by
  cases q : H a with
  | none=>rfl
  | some u=>exact absurd (Nat.lt_of_lt_of_le (x.lt q) e) (Nat.lt_irrefl _)
theorem HOk.kept (x : HOk P w H h) (k : ∀ b u,h.get? b = some u→h'.get? b = some u) : HOk P w H h':=fun a o e =>
  (x a o e).stay (fun b u _ q=>k b u q) (fun _ q=>q) (fun _ _ q=>q) fun _ _ _ q=>q
theorem HOk.laid (x : HOk P w H h) (k : ∀ b u,h.get? b = some u→h'.get? b = some u) (hp : h.objs.size≤a) (new : ObjOk P w (upd H a o) h' a o) : HOk P w (upd H a o) h':=fun b u e=>by
  have hn:=x.fresh hp
  by_cases hb : b = a
  · subst hb; rw [upd_same] at e; cases e; exact new
  · rw [upd_ne hb] at e
    exact (x b u e).stay (fun c v _ q=>k c v q) (fun c q=>by rw [upd_ne (ne_of_none q hn)]; exact q) (fun c xs q=>by rw [upd_ne (ne_of_none q hn)]; exact q) fun c o u q=>by rw [upd_ne (ne_of_none q hn)]; exact q
end
def Rd (H : Hp) (a : Addr) (u : HO) : Prop:=H a = some u∨∃ o,H a = some (.frz o u)
theorem Rd.of {H : Hp} {a : Addr} {u : HO} (h : H a = some u) : Rd H a u:=.inl h
theorem Rd.ok {P : Program} {w : World} {H : Hp} {h : Heap} {a : Addr} {u : HO} (r : Rd H a u) (x : HOk P w H h) : ObjOk P w H h a u:=by
  rcases r with r | ⟨o,r⟩
  · exact x a u r
  · obtain ⟨_,q⟩:=x a _ r
    exact q
def Mut : Option HO→Prop
  | some (.lst _)=>True
  | some (.dK _)=>True
  | some (.dT _)=>True
  | some (.set _ _)=>True
  | some (.ins _ _ _)=>True
  | some (.ext _)=>True
  | _=>False
section
variable {P : Program} {w : World} {H : Hp} {h h' : Heap} {x e : Addr} {o' : HO}
theorem HOk.write (ok : HOk P w H h) (mu : Mut (H x)) (he : e = x∨H e = some (.own x)) (k : ∀ b u,b≠e→h.get? b = some u→h'.get? b = some u) (heo : ∃ u,h'.get? e = some u)
    (new : ObjOk P w (upd H x o') h' x o') : HOk P w (upd H x o') h':=fun b u q=>by
  have nown : ∀ c y,H c = some (.own y)→c≠x:=fun c y r z=>by subst z; rw [r] at mu; exact mu
  have ntup : ∀ c xs,H c = some (.tup xs)→c≠x:=fun c xs r z=>by subst z; rw [r] at mu; exact mu
  have nfrz : ∀ c o u,H c = some (.frz o u)→c≠x:=fun c o u r z=>by subst z; rw [r] at mu; exact mu
  by_cases hb : b = x
  · subst hb; rw [upd_same] at q; cases q; exact new
  · rw [upd_ne hb] at q
    by_cases hbe : b = e
    · have q' : H b = some (.own x):=by
        rcases he with z | z
        · exact absurd (hbe.trans z) hb
        · rw [hbe]; exact z
      rw [q] at q'; cases q'
      obtain ⟨v,hv⟩:=heo
      exact ⟨v,by rw [hbe]; exact hv⟩
    · refine (ok b u q).stay (fun c v hc r=>k c v ?_ r) (fun c r=>by rw [upd_ne (nown c b r)]; exact r) (fun c xs r=>by rw [upd_ne (ntup c xs r)]; exact r) fun c o u r=>by rw [upd_ne (nfrz c o u r)]; exact r
      rcases hc with rfl | hc
      · exact hbe
      · rintro rfl
        rcases he with z | z
        · exact nown c b hc z
        · rw [hc] at z; cases z; exact hb rfl
end
structure Un (fs ex : List Addr) (H H' : Hp) (h h' : Heap) : Prop where
  keep : ∀ b o,h.get? b = some o→H b = none→b ∉ fs→b ∉ ex→h'.get? b = some o
  slot : ∀ b o,h.get? b = some o→H b = none→b ∈ fs→b ∉ ex→∃ sl,h'.get? b = some { o with slots:=sl }
  free : ∀ b o,h.get? b = some o→H b = none→b ∉ ex→H' b = none
  there : ∀ b o,h.get? b = some o→b ∉ ex→∃ o',h'.get? b = some o'
  tups : ∀ b xs,H b = some (.tup xs)→H' b = some (.tup xs)
  frzs : ∀ b o u,H b = some (.frz o u)→H' b = some (.frz o u)
  tbls : ∀ b ps,H b = some (.tbl ps)→∃ more,H' b = some (.tbl (ps ++ more))
section
variable {fs fs' ex ex' : List Addr} {H H1 H2 : Hp} {h h1 h2 h' : Heap} {a x e : Addr} {o : HO}
theorem Un.any (u : Un fs ex H H1 h h1) {b : Addr} {ob : Obj} (q : h.get? b = some ob) (n : H b = none) (hx : b ∉ ex) : ∃ sl,h1.get? b = some { ob with slots:=sl }:=by
  by_cases hb : b ∈ fs
  · exact u.slot b ob q n hb hx
  · exact ⟨ob.slots,u.keep b ob q n hb hx⟩
theorem Un.trans (a : Un fs ex H H1 h h1) (b : Un fs ex H1 H2 h1 h2) : Un fs ex H H2 h h2 where
  keep:=fun c ob q n hc hx=>b.keep c ob (a.keep c ob q n hc hx) (a.free c ob q n hx) hc hx
  slot:=fun c ob q n hc hx=>by
    obtain ⟨sl,e1⟩:=a.slot c ob q n hc hx
    obtain ⟨sl',e2⟩:=b.slot c _ e1 (a.free c ob q n hx) hc hx
    exact ⟨sl',e2⟩
  free:=fun c ob q n hx=>by
    obtain ⟨o',e1⟩:=a.there c ob q hx
    exact b.free c o' e1 (a.free c ob q n hx) hx
  there:=fun c ob q hx=>by
    obtain ⟨o',e1⟩:=a.there c ob q hx
    exact b.there c o' e1 hx
  tups:=fun c xs q=>b.tups c xs (a.tups c xs q)
  frzs:=fun c ob xs q=>b.frzs c ob xs (a.frzs c ob xs q)
  tbls:=fun c ps q=>by
    obtain ⟨m1,e1⟩:=a.tbls c ps q
    obtain ⟨m2,e2⟩:=b.tbls c _ e1
    exact ⟨m1 ++ m2,by rw [e2,Array.append_assoc]⟩
theorem Un.kept (k : ∀ b u,h.get? b = some u→h'.get? b = some u) : Un fs ex H H h h' :=
  ⟨fun b ob q _ _ _=>k b ob q,fun b ob q _ _ _=>⟨ob.slots,k b ob q⟩,fun _ _ _ n _=>n,fun b ob q _=>⟨ob,k b ob q⟩,fun _ _ q=>q,fun _ _ _ q=>q,fun _ ps q=>⟨#[],by rw [q]; simp⟩⟩
theorem Un.refl : Un fs ex H H h h:=Un.kept fun _ _ q=>q
theorem Un.laid (k : ∀ b u,h.get? b = some u→h'.get? b = some u) (hp : h.objs.size≤a) (hn : H a = none) : Un fs ex H (upd H a o) h h' where
  keep:=fun b u q _ _ _=>k b u q
  slot:=fun b u q _ _ _=>⟨u.slots,k b u q⟩
  free:=fun b u q n _=>by rw [upd_ne (Nat.ne_of_lt (Nat.lt_of_lt_of_le (Heap.lt_size q) hp))]; exact n
  there:=fun b u q _=>⟨u,k b u q⟩
  tups:=fun b xs q=>by rw [upd_ne (ne_of_none q hn)]; exact q
  frzs:=fun b u xs q=>by rw [upd_ne (ne_of_none q hn)]; exact q
  tbls:=fun b ps q=>⟨#[],by rw [upd_ne (ne_of_none q hn),q]; simp⟩
theorem Un.write (mu : Mut (H x)) (he : e = x∨H e = some (.own x)) (k : ∀ b u,b≠e→h.get? b = some u→h'.get? b = some u) (heo : ∃ u,h'.get? e = some u) : Un fs ex H (upd H x o) h h':=by
  have hx : ∀ b,H b = none→b≠x:=fun b n z=>by subst z; rw [n] at mu; exact mu
  have hb : ∀ b,H b = none→b≠e:=fun b n z=>by
    subst z
    rcases he with r | r
    · exact hx b n r
    · rw [n] at r; cases r
  have hm : ∀ b u,H b = some u→¬ Mut (some u)→b≠x:=fun b u q nm z=>by subst z; rw [q] at mu; exact nm mu
  refine ⟨fun b u q n _ _=>k b u (hb b n) q,fun b u q n _ _=>⟨u.slots,k b u (hb b n) q⟩,fun b u q n _=>by rw [upd_ne (hx b n)]; exact n,fun b u q _=>?_,
    fun b xs q=>by rw [upd_ne (hm b _ q fun z=>z)]; exact q,fun b u xs q=>by rw [upd_ne (hm b _ q fun z=>z)]; exact q,fun b ps q=>⟨#[],by rw [upd_ne (hm b _ q fun z=>z),q]; simp⟩⟩
  by_cases hbe : b = e
  · subst hbe; exact heo
  · exact ⟨u,k b u hbe q⟩
theorem Un.mono (u : Un fs ex H H1 h h1) (hs : ∀ b ∈ fs,b ∈ fs') (hx : ∀ b ∈ ex,b ∈ ex') : Un fs' ex' H H1 h h1 :=
  ⟨fun b ob q n hb he=>u.keep b ob q n (fun z=>hb (hs b z)) fun z=>he (hx b z),fun _ _ q n _ he=>u.any q n fun z=>he (hx _ z),fun b ob q n he=>u.free b ob q n fun z=>he (hx b z),fun b ob q he=>u.there b ob q fun z=>he (hx b z),u.tups,u.frzs,u.tbls⟩
end
def trk (h : Heap) (H : Hp) : List Addr:=(List.range h.objs.size).filter fun a=>(H a).isSome
def hidT (h : Heap) (H : Hp) : Heap:=PySem.W.hideAll h (trk h H)
theorem hidT_size (h : Heap) (H : Hp) : (hidT h H).objs.size = h.objs.size:=PySem.W.hideAll_size _ _
theorem hidT_get {h : Heap} {H : Hp} {b : Addr} {o : Obj} (e : h.get? b = some o) (n : H b = none) : (hidT h H).get? b = some o :=
  PySem.W.hideAll_get _ e fun hm=>by
    have q : (H b).isSome = true:=(List.mem_filter.mp hm).2
    rw [n] at q; simp at q
theorem of_hidT {h : Heap} {H : Hp} {b : Addr} {o : Obj} (e : (hidT h H).get? b = some o) : h.get? b = some o∧H b = none:=by
  have e' : h.get? b = some o:=PySem.W.of_hideAll (trk h H) e
  refine ⟨e',?_⟩
  cases q : H b with
  | none=>rfl
  | some x =>
    have hm : b ∈ trk h H:=List.mem_filter.mpr ⟨List.mem_range.mpr (Heap.lt_size e'),by simp [q]⟩
    have z : (hidT h H).get? b = none:=PySem.W.hideAll_none (trk h H) hm
    rw [z] at e; cases e
def allNews (g h : Heap) (L : Addr) : List (Addr × Obj):=(List.range h.objs.size).filterMap fun a=>if a = L∨(g.get? a).isSome = true then none else (h.get? a).map fun o=>(a,o)
def rest (g h : Heap) (L d : Addr) : List (Addr × Obj):=(allNews g h L).filter fun p=>decide (p.1≠d)
end L2
namespace L2
open PySem PySem.Spec PyProof.Rows
structure Mod (K : PySem.W.Frag) (mg : Str→Option Value) (base : Heap) : Prop where
  kin : K.In base
  glob : base.Ns mainGlobals mg
  blt : ∃ mb,base.Ns builtinsNs mb∧∀ x : Str,x≠"__name__"→mb x = bootBuiltins x
  nolimit : base.NoLimit
structure Cx where
  prog : Program
  w : World
  K : PySem.W.Frag
  mg : Str→Option Value
  base : Heap
  A : Around
  N : List Str
  s₀ : Shared
  H₀ : Hp
  env : Env
  outer : List Env
  stack : List Env
  ex : List Addr
  fn : Str→Bool
  calm : Bool
  pn : List (Addr × Obj)
  xe : Value→Shared→Prop
def frs (l : List Env) : List Addr:=l.filterMap (·.frame)
abbrev Cx.fs (X : Cx) : List Addr:=frs X.outer
def Vis (sc : Scope) (x : Str) : Prop:=sc.names.lookup x = some .local∨sc.names.lookup x = some .cell∨sc.names.lookup x = some .free
def Loc (sc : Scope) (x : Str) : Prop:=sc.names.lookup x = some .local∨sc.names.lookup x = some .cell
def Look (env : Env) (h : Heap) (m : Str→Option Value) (x : Str) (u : Value) : Prop :=
  (env.kindOf x = some .local∧m x = some u)∨((env.kindOf x = some .cell∨env.kindOf x = some .free)∧∃ c,env.cells.lookup x = some c∧h.IsCell c (some u))
structure Cx.Ok (X : Cx) : Prop where
  mod : Mod X.K X.mg X.base
  kind : X.env.scope.kind = .function
  glob : X.env.globals = mainGlobals
  blt : X.env.builtins = builtinsNs
  above : X.s₀.heap.objs.size≤X.env.locals
  inj : ∀ x y c,X.env.cells.lookup x = some c→X.env.cells.lookup y = some c→x = y
  has : ∀ x,(X.env.kindOf x = some .cell∨X.env.kindOf x = some .free)→∃ c,X.env.cells.lookup x = some c
  cab : ∀ x c,X.fn x = true→X.env.cells.lookup x = some c→X.s₀.heap.objs.size≤c
  hd : X.calm = true→X.A.handled = none
  frames : X.A.frames = some X.stack
  stk : X.stack = X.outer∨(X.stack = X.env :: X.outer∧X.env.frame = some X.env.locals)
  exf : ∀ b ∈ X.ex,b≠X.env.locals∧∀ x c,X.env.cells.lookup x = some c→c≠b
  bs : ∀ b o,X.base.get? b = some o→X.s₀.heap.get? b = some o∧X.H₀ b = none
  bsz : X.base.objs.size≤X.s₀.heap.objs.size
  noex : ∀ b o,X.base.get? b = some o→b ∉ X.ex
  exfs : ∀ b ∈ X.ex,b ∉ X.fs
  funs : X.s₀.heap.FunFrames X.base X.outer
  frf : ∀ b ∈ X.fs,X.H₀ b = none
structure Inv (X : Cx) (pins : List (Addr × Obj)) (σ : List (Option V)) (H : Hp) (s : Shared) : Prop where
  ok : X.Ok
  os : s.os = X.s₀.os
  bare : AllBare s.gens
  base : Un X.fs X.ex X.H₀ H X.s₀.heap s.heap
  loc : ∃ m,s.heap.Ns X.env.locals m∧∀ (i : Nat) (x : Str) (v : V),X.N[i]? = some x→σ[i]? = some (some v)→Vis X.env.scope x→∃ u,RelV v u∧Look X.env s.heap m x u
  cell : ∀ x c,X.env.cells.lookup x = some c→∃ v,s.heap.IsCell c v
  free : H X.env.locals = none
  freeC : ∀ x c,X.env.cells.lookup x = some c→H c = none
  pin : ∀ p ∈ X.pn ++ pins,s.heap.get? p.1 = some p.2∧H p.1 = none∧p.1≠X.env.locals∧p.1 ∉ X.fs∧∀ v,p.2.data≠.cell v
  hok : HOk X.prog X.w H s.heap
  len : σ.length = X.N.length
section
variable {X : Cx} {pins : List (Addr × Obj)} {σ : List (Option V)} {H H' : Hp} {s : Shared} {h' : Heap}
theorem Cx.Ok.nofr (ok : X.Ok) {b : Addr} {o : Obj} (e : X.base.get? b = some o) : b ∉ X.fs:=fun hb=>by
  have:=(ok.funs.mem hb).1
  rw [e] at this; cases this
theorem Inv.bs (I : Inv X pins σ H s) : ∀ b o,X.base.get? b = some o→s.heap.get? b = some o∧H b = none:=fun b o e =>
  ⟨I.base.keep b o (I.ok.bs b o e).1 (I.ok.bs b o e).2 (I.ok.nofr e) (I.ok.noex b o e),I.base.free b o (I.ok.bs b o e).1 (I.ok.bs b o e).2 (I.ok.noex b o e)⟩
theorem Inv.bk (I : Inv X pins σ H s) : ∀ b o,X.base.get? b = some o→s.heap.get? b = some o:=fun b o e=>(I.bs b o e).1
theorem Inv.mod (I : Inv X pins σ H s) : Mod X.K X.mg X.base:=I.ok.mod
theorem Inv.kIn (I : Inv X pins σ H s) : X.K.In s.heap:=I.ok.mod.kin.keeps I.bk
theorem Inv.nolimit (I : Inv X pins σ H s) : s.heap.NoLimit:=I.ok.mod.nolimit.keeps I.bk
theorem Inv.lt (I : Inv X pins σ H s) : X.env.locals < s.heap.objs.size:=let ⟨_,hn,_⟩:=I.loc; hn.lt
theorem Inv.sz (I : Inv X pins σ H s) : X.s₀.heap.objs.size≤s.heap.objs.size:=Nat.le_trans I.ok.above (Nat.le_of_lt I.lt)
theorem Inv.nofs (I : Inv X pins σ H s) {a : Addr} (h : s.heap.objs.size≤a) : a ∉ X.fs:=fun hb=>by
  obtain ⟨_,o,ho,_⟩:=I.ok.funs.mem hb
  exact absurd (Nat.lt_of_lt_of_le (Heap.lt_size ho) (Nat.le_trans I.sz h)) (Nat.lt_irrefl _)
theorem Inv.cne (I : Inv X pins σ H s) : ∀ x c,X.env.cells.lookup x = some c→c≠X.env.locals:=fun x c e z=>by
  obtain ⟨v,o,ho,hd⟩:=I.cell x c e
  obtain ⟨m,⟨o',es,ep,ho',hd',_⟩,_⟩:=I.loc
  rw [z,ho'] at ho; cases ho; rw [hd'] at hd; cases hd
theorem Inv.funs (I : Inv X pins σ H s) : s.heap.FunFrames X.base X.outer:=by
  have all : ∀ (l : List Env),(∀ b ∈ frs l,b ∈ X.fs)→X.s₀.heap.FunFrames X.base l→s.heap.FunFrames X.base l:=by
    intro l
    induction l with
    | nil=>intro _ _; trivial
    | cons env r ih =>
      intro hs hl
      obtain ⟨hk,⟨L,o,hf,hn,ho,hd⟩,hr⟩:=hl
      have hL : L ∈ X.fs:=hs L (by unfold frs; rw [List.filterMap_cons,hf]; exact List.mem_cons_self)
      obtain ⟨sl,e⟩:=I.base.slot L o ho (I.ok.frf L hL) hL fun z=>I.ok.exfs L z hL
      exact ⟨hk,⟨L,_,hf,hn,e,hd⟩,ih (fun b hb=>hs b (by unfold frs; rw [List.filterMap_cons,hf]; exact List.mem_cons_of_mem _ hb)) hr⟩
  exact all X.outer (fun _ hb=>hb) I.ok.funs
theorem Inv.stack (I : Inv X pins σ H s) : s.heap.FunFrames X.base X.stack:=by
  rcases I.ok.stk with e | ⟨e,hf⟩
  · rw [e]; exact I.funs
  · rw [e]
    obtain ⟨m,hn,_⟩:=I.loc
    refine .cons (by rw [I.ok.kind]; decide) hf hn ?_ I.funs
    exact Heap.get?_none_of_le (Nat.le_trans I.ok.bsz I.ok.above)
theorem Inv.stkSub (I : Inv X pins σ H s) : ∀ b ∈ frs X.stack,b ∈ X.env.locals :: X.fs:=fun b hb=>by
  rcases I.ok.stk with e | ⟨e,hf⟩
  · rw [e] at hb; exact List.mem_cons_of_mem _ hb
  · rw [e] at hb
    unfold frs at hb
    rw [List.filterMap_cons,hf] at hb
    exact hb
theorem Inv.stkFree (I : Inv X pins σ H s) : ∀ b ∈ frs X.stack,H b = none:=fun b hb=>by
  rcases List.mem_cons.mp (I.stkSub b hb) with e | hb
  · rw [e]; exact I.free
  · obtain ⟨_,o,ho,_⟩:=I.ok.funs.mem hb
    exact I.base.free b o ho (I.ok.frf b hb) fun z=>I.ok.exfs b z hb
theorem Inv.step {g' : Array GenState} {t' : Nat} {d' : Drawn} {ch : List Addr} (I : Inv X pins σ H s)
    (hch : ∀ b ∈ ch,(b ∈ X.ex∨X.s₀.heap.objs.size≤b)∧b≠X.env.locals∧(∀ x c,X.env.cells.lookup x = some c→c≠b)∧∀ p ∈ X.pn ++ pins,p.1≠b)
    (keep : ∀ b o,b≠X.env.locals→b ∉ X.fs→b ∉ ch→s.heap.get? b = some o→H b = none→h'.get? b = some o)
    (slot : ∀ b o,b≠X.env.locals→b ∈ X.fs→b ∉ ch→s.heap.get? b = some o→H b = none→∃ sl,h'.get? b = some { o with slots:=sl }) (free : ∀ b o,b ∉ ch→s.heap.get? b = some o→H b = none→H' b = none)
    (there : ∀ b o,b ∉ ch→s.heap.get? b = some o→∃ o',h'.get? b = some o')
    (tups : ∀ b xs,H b = some (.tup xs)→H' b = some (.tup xs)) (frzs : ∀ b o u,H b = some (.frz o u)→H' b = some (.frz o u)) (tbls : ∀ b ps,H b = some (.tbl ps)→∃ more,H' b = some (.tbl (ps ++ more)))
    (ns : ∀ m,s.heap.Ns X.env.locals m→h'.Ns X.env.locals m) (hok : HOk X.prog X.w H' h') (hg : AllBare g') :
    Inv X pins σ H' { s with heap:=h',gens:=g',drawn:=d',toks:=t' }:=by
  have neL : ∀ b o,X.s₀.heap.get? b = some o→b≠X.env.locals:=fun b o e=>Nat.ne_of_lt (Nat.lt_of_lt_of_le (Heap.lt_size e) I.ok.above)
  have neC : ∀ b o,X.s₀.heap.get? b = some o→b ∉ X.ex→b ∉ ch:=fun b o e hx hb=>by
    rcases (hch b hb).1 with z | z
    · exact hx z
    · exact absurd (Nat.lt_of_lt_of_le (Heap.lt_size e) z) (Nat.lt_irrefl _)
  have cellK : ∀ x c,X.env.cells.lookup x = some c→∀ v,s.heap.IsCell c v→h'.IsCell c v:=fun x c e v ⟨o,ho,hd⟩=>by
    have nch : c ∉ ch:=fun z=>(hch c z).2.2.1 x c e rfl
    by_cases hc : c ∈ X.fs
    · obtain ⟨sl,q⟩:=slot c o (I.cne x c e) hc nch ho (I.freeC x c e)
      exact ⟨_,q,hd⟩
    · exact ⟨o,keep c o (I.cne x c e) hc nch ho (I.freeC x c e),hd⟩
  refine ⟨I.ok,I.os,hg,⟨fun b o e n hb hx=>?_,fun b o e n hb hx=>?_,fun b o e n hx=>?_,fun b o e hx=>?_,fun b xs e=>tups b xs (I.base.tups b xs e),fun b o xs e=>frzs b o xs (I.base.frzs b o xs e),fun b ps e=>?_⟩,?_,fun x c e=>?_,?_,fun x c e=>?_,fun p hp=>?_,hok,I.len⟩
  · exact keep b o (neL b o e) hb (neC b o e hx) (I.base.keep b o e n hb hx) (I.base.free b o e n hx)
  · obtain ⟨sl,e1⟩:=I.base.slot b o e n hb hx
    obtain ⟨sl',e2⟩:=slot b _ (neL b o e) hb (neC b o e hx) e1 (I.base.free b o e n hx)
    exact ⟨sl',e2⟩
  · obtain ⟨o',e1⟩:=I.base.there b o e hx
    exact free b o' (neC b o e hx) e1 (I.base.free b o e n hx)
  · obtain ⟨o',e1⟩:=I.base.there b o e hx
    exact there b o' (neC b o e hx) e1
  · obtain ⟨m1,e1⟩:=I.base.tbls b ps e
    obtain ⟨m2,e2⟩:=tbls b _ e1
    exact ⟨m1 ++ m2,by rw [e2,Array.append_assoc]⟩
  · obtain ⟨m,hn,hl⟩:=I.loc
    refine ⟨m,ns m hn,fun i x v e1 e2 e3=>?_⟩
    obtain ⟨u,r,l⟩:=hl i x v e1 e2 e3
    refine ⟨u,r,?_⟩
    rcases l with l | ⟨k,c,e,z⟩
    · exact .inl l
    · exact .inr ⟨k,c,e,cellK x c e _ z⟩
  · obtain ⟨v,z⟩:=I.cell x c e
    exact ⟨v,cellK x c e v z⟩
  · obtain ⟨m,⟨o,_,_,ho,_⟩,_⟩:=I.loc
    exact free _ o (fun z=>(hch _ z).2.1 rfl) ho I.free
  · obtain ⟨v,o,ho,hd⟩:=I.cell x c e
    exact free c o (fun z=>(hch c z).2.2.1 x c e rfl) ho (I.freeC x c e)
  · obtain ⟨e,n,ne,nf,d⟩:=I.pin p hp
    have nch : p.1 ∉ ch:=fun z=>(hch p.1 z).2.2.2 p hp rfl
    exact ⟨keep p.1 p.2 ne nf nch e n,free p.1 p.2 nch e n,ne,nf,d⟩
theorem Inv.un {t' : Nat} (I : Inv X pins σ H s) (u : Un X.fs [] H H' s.heap h') (hok : HOk X.prog X.w H' h') : Inv X pins σ H' { s with heap:=h',toks:=t' }:=by
  obtain ⟨m,⟨o,es,ep,ho,r⟩,_⟩:=id I.loc
  obtain ⟨sl,hL⟩:=u.any ho I.free (by simp)
  exact I.step (g':=s.gens) (d':=s.drawn) (ch:=[]) (fun _ z=>nomatch z) (fun b o _ hb _ e n=>u.keep b o e n hb (by simp)) (fun b o _ hb _ e n=>u.slot b o e n hb (by simp)) (fun b o _ e n=>u.free b o e n (by simp)) (fun b o _ e=>u.there b o e (by simp)) u.tups u.frzs u.tbls (fun m' hm=>by
    obtain ⟨o',es',ep',ho',r'⟩:=hm
    rw [ho] at ho'; cases ho'
    exact ⟨_,es',ep',hL,r'⟩) hok I.bare
theorem Inv.call {g' : Array GenState} {t' : Nat} {d' : Drawn} {ch : List Addr} (I : Inv X pins σ H s) (u : Un (frs X.stack) ch H H' s.heap h') (hok : HOk X.prog X.w H' h') (hg : AllBare g')
    (hch : ∀ b ∈ ch,(b ∈ X.ex∨X.s₀.heap.objs.size≤b)∧b≠X.env.locals∧(∀ x c,X.env.cells.lookup x = some c→c≠b)∧∀ p ∈ X.pn ++ pins,p.1≠b) :
    Inv X pins σ H' { s with heap:=h',gens:=g',drawn:=d',toks:=t' }:=by
  obtain ⟨m,⟨o,es,ep,ho,r⟩,_⟩:=id I.loc
  obtain ⟨sl,hL⟩:=u.any ho I.free fun z=>(hch _ z).2.1 rfl
  exact I.step (ch:=ch) hch (fun b o hL hb hc e n=>u.keep b o e n (fun z=>(List.mem_cons.mp (I.stkSub b z)).elim hL hb) hc) (fun b o _ _ hc e n=>u.any e n hc) (fun b o hc e n=>u.free b o e n hc) (fun b o hc e=>u.there b o e hc) u.tups u.frzs u.tbls (fun m' hm=>by
    obtain ⟨o',es',ep',ho',r'⟩:=hm
    rw [ho] at ho'; cases ho'
    exact ⟨_,es',ep',hL,r'⟩) hok hg
theorem Inv.turned {t' : Nat} {it : Addr} (I : Inv X pins σ H s) (k : ∀ b o,b≠it→s.heap.get? b = some o→h'.get? b = some o) (hn : H it = none) (hL : it≠X.env.locals)
    (h1 : it ∈ X.ex∨X.s₀.heap.objs.size≤it) (h2 : ∀ x c,X.env.cells.lookup x = some c→c≠it) (h3 : ∀ p ∈ X.pn ++ pins,p.1≠it) : Inv X pins σ H { s with heap:=h',toks:=t' }:=by
  have nit : ∀ b u,H b = some u→b≠it:=fun b u e z=>by rw [z,hn] at e; cases e
  refine I.step (g':=s.gens) (d':=s.drawn) (ch:=[it]) (fun b hb=>?_) (fun b o _ _ hc e _=>k b o (fun z=>hc (by simp [z])) e) (fun b o _ _ hc e _=>⟨o.slots,k b o (fun z=>hc (by simp [z])) e⟩) (fun _ _ _ _ n=>n)
    (fun b o hc e=>⟨o,k b o (fun z=>hc (by simp [z])) e⟩) (fun _ _ e=>e) (fun _ _ _ e=>e) (fun b ps e=>⟨#[],by rw [e]; simp⟩) (fun m hm=>?_) (fun b u e=>?_) I.bare
  · have e : b = it:=by simpa using hb
    subst e
    exact ⟨h1,hL,h2,h3⟩
  · obtain ⟨o,es,ep,ho,r⟩:=hm
    exact ⟨o,es,ep,k _ o (Ne.symm hL) ho,r⟩
  · refine (I.hok b u e).stay (fun c v hc q=>k c v ?_ q) (fun _ q=>q) (fun _ _ q=>q) fun _ _ _ q=>q
    rcases hc with z | z
    · rw [z]; exact nit b u e
    · exact nit c _ z
theorem Inv.tok (I : Inv X pins σ H s) (t : Nat) : Inv X pins σ H { s with toks:=t }:=I.un (h':=s.heap) (t':=t) Un.refl I.hok
theorem Inv.kept {t' : Nat} (I : Inv X pins σ H s) (k : ∀ b u,s.heap.get? b = some u→h'.get? b = some u) : Inv X pins σ H { s with heap:=h',toks:=t' }:=I.un (Un.kept k) (I.hok.kept k)
theorem Inv.laid {a : Addr} {o : HO} {t' : Nat} (I : Inv X pins σ H s) (k : ∀ b u,s.heap.get? b = some u→h'.get? b = some u) (hp : s.heap.objs.size≤a) (new : ObjOk X.prog X.w (upd H a o) h' a o) :
    Inv X pins σ (upd H a o) { s with heap:=h',toks:=t' }:=I.un (Un.laid k hp (I.hok.fresh hp)) (I.hok.laid k hp new)
theorem Inv.write {x e : Addr} {o : HO} {t' : Nat} (I : Inv X pins σ H s) (mu : Mut (H x)) (he : e = x∨H e = some (.own x)) (k : ∀ b u,b≠e→s.heap.get? b = some u→h'.get? b = some u) (heo : ∃ u,h'.get? e = some u)
    (new : ObjOk X.prog X.w (upd H x o) h' x o) : Inv X pins σ (upd H x o) { s with heap:=h',toks:=t' }:=I.un (Un.write mu he k heo) (I.hok.write mu he k heo new)
theorem Inv.weak {σ' : List (Option V)} (I : Inv X pins σ H s) (hl : σ'.length = σ.length) (w : ∀ (i : Nat) v,σ'[i]? = some (some v)→σ[i]? = some (some v)) : Inv X pins σ' H s :=
  ⟨I.ok,I.os,I.bare,I.base,let ⟨m,hn,hl'⟩:=I.loc; ⟨m,hn,fun i x v e1 e2 e3=>hl' i x v e1 (w i v e2) e3⟩,I.cell,I.free,I.freeC,I.pin,I.hok,hl.trans I.len⟩
theorem Inv.pins_of {pins' : List (Addr × Obj)} (I : Inv X pins σ H s) (h : ∀ p ∈ pins',s.heap.get? p.1 = some p.2∧H p.1 = none∧p.1≠X.env.locals∧p.1 ∉ X.fs∧∀ v,p.2.data≠.cell v) : Inv X pins' σ H s :=
  ⟨I.ok,I.os,I.bare,I.base,I.loc,I.cell,I.free,I.freeC,fun p hp=>(List.mem_append.mp hp).elim (fun z=>I.pin p (List.mem_append_left _ z)) (h p),I.hok,I.len⟩
theorem nodup_ix {N : List Str} (hN : N.Nodup) {i j : Nat} {x : Str} (a : N[i]? = some x) (b : N[j]? = some x) : i = j:=by
  obtain ⟨h1,e1⟩:=List.getElem?_eq_some_iff.mp a
  obtain ⟨h2,e2⟩:=List.getElem?_eq_some_iff.mp b
  exact (List.getElem_inj hN).mp (e1.trans e2.symm)
theorem store_ok2 {M : Model} {A : Around} {E : Value→Shared→Prop} {i : Nat} {x : Str} {v : V} {u : Value} {Q : Unit→Shared→Prop} (I : Inv X pins σ H s) (hN : X.N.Nodup) (hi : X.N[i]? = some x) (hx : Loc X.env.scope x) (r : RelV v u)
    (h : ∀ s',Inv X pins (σ.set i (some v)) H s'→(∃ a,Heap.SameBut a s.heap s'.heap∧(a = X.env.locals∨X.env.cells.lookup x = some a))→Q () s') (hf : X.fn x = true∨X.env.scope.names.lookup x = some .local:=by first | exact .inl rfl | exact .inr rfl | assumption) : wpAny M A (storeName X.env x u) Q E s:=by
  obtain ⟨m,hn,hl⟩:=id I.loc
  have hcls : (X.env.scope.kind == .class || (X.env.scope.kind == .module && X.env.locals != X.env.globals)) = false:=by rw [I.ok.kind]; rfl
  have hiσ : i < σ.length:=by rw [I.len]; exact (List.getElem?_eq_some_iff.mp hi).1
  have cne:=I.cne
  have tracked : ∀ {a : Addr} {h' : Heap},(∃ o,s.heap.get? a = some o∧H a = none)→Heap.SameBut a s.heap h'→HOk X.prog X.w H h':=fun {a h'} ha hs b ob e=>by
    obtain ⟨_,_,hfree⟩:=ha
    refine (I.hok b ob e).stay (fun c w' hc q=>(hs.2 c ?_).trans q) (fun _ q=>q) (fun _ _ q=>q) fun _ _ _ q=>q
    rintro rfl
    rcases hc with rfl | hc
    · rw [hfree] at e; cases e
    · rw [hfree] at hc; cases hc
  rcases hx with hk | hk
  · refine wpAny_storeName_local hk hn (fun h' hn' hs=>?_) hcls
    obtain ⟨oL,_,_,hoL,_⟩:=id hn
    refine h _ ⟨I.ok,I.os,I.bare,⟨fun b o e n hb hx=>?_,fun b o e n hb hx=>?_,I.base.free,fun b o e hx=>?_,I.base.tups,I.base.frzs,I.base.tbls⟩,⟨_,hn',fun j y v' e1 e2 e3=>?_⟩,fun y c e=>?_,I.free,I.freeC,fun p hp=>?_,tracked ⟨oL,hoL,I.free⟩ hs,by simpa using I.len⟩ ⟨_,hs,.inl rfl⟩
    · exact (hs.2 b (Nat.ne_of_lt (Nat.lt_of_lt_of_le (Heap.lt_size e) I.ok.above))).trans (I.base.keep b o e n hb hx)
    · obtain ⟨sl,e1⟩:=I.base.slot b o e n hb hx
      exact ⟨sl,(hs.2 b (Nat.ne_of_lt (Nat.lt_of_lt_of_le (Heap.lt_size e) I.ok.above))).trans e1⟩
    · obtain ⟨o',e1⟩:=I.base.there b o e hx
      exact ⟨o',(hs.2 b (Nat.ne_of_lt (Nat.lt_of_lt_of_le (Heap.lt_size e) I.ok.above))).trans e1⟩
    · by_cases hj : j = i
      · subst hj
        rw [hi] at e1; cases e1
        rw [List.getElem?_set_self hiσ] at e2
        cases e2
        exact ⟨u,r,.inl ⟨hk,by simp⟩⟩
      · rw [List.getElem?_set_ne (Ne.symm hj)] at e2
        obtain ⟨u',r',q⟩:=hl j y v' e1 e2 e3
        refine ⟨u',r',?_⟩
        rcases q with ⟨k,e⟩ | ⟨k,c,e,z⟩
        · refine .inl ⟨k,?_⟩
          have : y≠x:=fun e=>hj (nodup_ix hN e1 (e ▸ hi))
          simp [this,e]
        · exact .inr ⟨k,c,e,z.sameBut hs (cne y c e)⟩
    · obtain ⟨w',z⟩:=I.cell y c e
      exact ⟨w',z.sameBut hs (cne y c e)⟩
    · obtain ⟨e,n,ne,nf,d⟩:=I.pin p hp
      exact ⟨(hs.2 p.1 ne).trans e,n,ne,nf,d⟩
  · have hfn : X.fn x = true:=by
      rcases hf with z | z
      · exact z
      · rw [z] at hk; cases hk
    obtain ⟨c,hc⟩:=I.ok.has x (.inl hk)
    obtain ⟨w',z⟩:=I.cell x c hc
    refine wpAny_storeName_cell I.ok.kind hk hc z (fun h' hc' hs=>?_)
    obtain ⟨oc,hoc,hocd⟩:=id z
    refine h { s with heap:=h' } ⟨I.ok,I.os,I.bare,⟨fun b o e n hb hx=>?_,fun b o e n hb hx=>?_,I.base.free,fun b o e hx=>?_,I.base.tups,I.base.frzs,I.base.tbls⟩,⟨m,hn.sameBut hs (Ne.symm (cne x c hc)),fun j y v' e1 e2 e3=>?_⟩,fun y c' e=>?_,I.free,I.freeC,fun p hp=>?_,tracked ⟨oc,hoc,I.freeC x c hc⟩ hs,by simpa using I.len⟩ ⟨c,hs,.inr hc⟩
    · exact (hs.2 b (Nat.ne_of_lt (Nat.lt_of_lt_of_le (Heap.lt_size e) (I.ok.cab x c hfn hc)))).trans (I.base.keep b o e n hb hx)
    · obtain ⟨sl,e1⟩:=I.base.slot b o e n hb hx
      exact ⟨sl,(hs.2 b (Nat.ne_of_lt (Nat.lt_of_lt_of_le (Heap.lt_size e) (I.ok.cab x c hfn hc)))).trans e1⟩
    · obtain ⟨o',e1⟩:=I.base.there b o e hx
      exact ⟨o',(hs.2 b (Nat.ne_of_lt (Nat.lt_of_lt_of_le (Heap.lt_size e) (I.ok.cab x c hfn hc)))).trans e1⟩
    · by_cases hj : j = i
      · subst hj
        rw [hi] at e1; cases e1
        rw [List.getElem?_set_self hiσ] at e2
        cases e2
        exact ⟨u,r,.inr ⟨.inl hk,c,hc,hc'⟩⟩
      · rw [List.getElem?_set_ne (Ne.symm hj)] at e2
        obtain ⟨u',r',q⟩:=hl j y v' e1 e2 e3
        refine ⟨u',r',?_⟩
        rcases q with q | ⟨k,c',e,z'⟩
        · exact .inl q
        · refine .inr ⟨k,c',e,z'.sameBut hs ?_⟩
          rintro rfl
          exact hj (nodup_ix hN e1 (I.ok.inj _ _ _ e hc ▸ hi))
    · by_cases hcc : c' = c
      · subst hcc; exact ⟨_,hc'⟩
      · obtain ⟨w2,z2⟩:=I.cell y c' e
        exact ⟨w2,z2.sameBut hs hcc⟩
    · obtain ⟨e,n,ne,nf,d⟩:=I.pin p hp
      refine ⟨(hs.2 p.1 ?_).trans e,n,ne,nf,d⟩
      intro q
      rw [q,hoc] at e
      have q' : oc = p.2:=Option.some.inj e
      exact d w' (by rw [← q']; exact hocd)
theorem store_ok {M : Model} {A : Around} {E : Value→Shared→Prop} {i : Nat} {x : Str} {v : V} {u : Value} {Q : Unit→Shared→Prop} (I : Inv X pins σ H s) (hN : X.N.Nodup) (hi : X.N[i]? = some x) (hx : Loc X.env.scope x) (r : RelV v u)
    (h : ∀ s',Inv X pins (σ.set i (some v)) H s'→Q () s') (hf : X.fn x = true∨X.env.scope.names.lookup x = some .local:=by first | exact .inl rfl | exact .inr rfl | assumption) : wpAny M A (storeName X.env x u) Q E s :=
  store_ok2 I hN hi hx r (fun s' I' _=>h s' I') hf
theorem Inv.call' {s' : Shared} {ch : List Addr} (I : Inv X pins σ H s) (ho : s'.os = s.os) (u : Un (frs X.stack) ch H H' s.heap s'.heap) (hok : HOk X.prog X.w H' s'.heap) (hg : AllBare s'.gens)
    (hch : ∀ b ∈ ch,(b ∈ X.ex∨X.s₀.heap.objs.size≤b)∧b≠X.env.locals∧(∀ x c,X.env.cells.lookup x = some c→c≠b)∧∀ p ∈ X.pn ++ pins,p.1≠b) : Inv X pins σ H' s':=by
  obtain ⟨h',g',d',t',o'⟩:=s'
  have e : o' = s.os:=ho
  subst e
  exact I.call (g':=g') (t':=t') (d':=d') u hok hg hch
end
abbrev XK:=Value→Option Addr→Hp→Prop
abbrev St:=List (Option V)
abbrev VK:=V→Hp→Prop
abbrev TE:=St→Hp→VK→Prop
abbrev TT:=St→Hp→(Bool→Hp→Prop)→Prop
abbrev TA:=St→Hp→(List V→Hp→Prop)→Prop
structure Ends where
  nx : St→Hp→Prop
  rt : VK
  bk : St→Hp→Prop:=fun _ _=>False
  ct : St→Hp→Prop:=fun _ _=>False
abbrev TS:=Ends→St→Hp→Prop
def EP (X : Cx) (pins : List (Addr × Obj)) (σ : St) (Q : VK) (u : Value) (s' : Shared) : Prop:=∃ v H',Inv X pins σ H' s'∧RelV v u∧Q v H'
def TP (X : Cx) (pins : List (Addr × Obj)) (σ : St) (Q : Bool→Hp→Prop) (b : Bool) (s' : Shared) : Prop:=∃ H',Inv X pins σ H' s'∧Q b H'
def AP (X : Cx) (pins : List (Addr × Obj)) (σ : St) (Q : List V→Hp→Prop) (us : List Value) (s' : Shared) : Prop:=∃ vs H',Inv X pins σ H' s'∧Vals vs us∧Q vs H'
def SP (X : Cx) (pins : List (Addr × Obj)) (D : Ends) (f : Flow) (s' : Shared) : Prop :=
  match f with
  | .next=>∃ σ' H',Inv X pins σ' H' s'∧D.nx σ' H'
  | .brk=>∃ σ' H',Inv X pins σ' H' s'∧D.bk σ' H'
  | .cont=>∃ σ' H',Inv X pins σ' H' s'∧D.ct σ' H'
  | .ret u=>∃ v σ' H',Inv X pins σ' H' s'∧RelV v u∧D.rt v H'
def PE (X : Cx) (e : Expr) (t : TE) : Prop :=
  ∀ (pins : List (Addr × Obj)) (s : Shared) (σ : St) (H : Hp) (Q : VK),Inv X pins σ H s→t σ H Q→wpAny (model X.prog X.w) X.A (eval e X.env) (EP X pins σ Q) X.xe s
def PT (X : Cx) (e : Expr) (t : TT) : Prop :=
  ∀ (pins : List (Addr × Obj)) (s : Shared) (σ : St) (H : Hp) (Q : Bool→Hp→Prop),Inv X pins σ H s→t σ H Q→wpAny (model X.prog X.w) X.A (isTrue e X.env (eval e X.env)) (TP X pins σ Q) X.xe s
def PW (X : Cx) (e : Expr) (t : TT) : Prop :=
  ∀ (whole : Sem Value) (pins : List (Addr × Obj)) (s : Shared) (σ : St) (H : Hp) (Q : Bool→Hp→Prop),Inv X pins σ H s→t σ H Q→wpAny (model X.prog X.w) X.A (isTrue e X.env whole) (TP X pins σ Q) X.xe s
theorem PW.pt {X : Cx} {e : Expr} {t : TT} (h : PW X e t) : PT X e t:=h _
def PA (X : Cx) (es : List Expr) (t : TA) : Prop :=
  ∀ (pos : Pos) (pins : List (Addr × Obj)) (s : Shared) (σ : St) (H : Hp) (Q : List V→Hp→Prop),Inv X pins σ H s→t σ H Q→wpAny (model X.prog X.w) X.A (spliced (backTo pos (starEach es X.env))) (AP X pins σ Q) X.xe s
def PS (X : Cx) (st : Stmt) (t : TS) : Prop :=
  ∀ (pins : List (Addr × Obj)) (s : Shared) (σ : St) (H : Hp) (D : Ends),Inv X pins σ H s→t D σ H→wpAny (model X.prog X.w) X.A (exec st X.env) (SP X pins D) X.xe s
def PSs (X : Cx) (st : List Stmt) (t : TS) : Prop :=
  ∀ (pins : List (Addr × Obj)) (s : Shared) (σ : St) (H : Hp) (D : Ends),Inv X pins σ H s→t D σ H→wpAny (model X.prog X.w) X.A (execs st X.env) (SP X pins D) X.xe s
theorem thn {α : Type} {t : Sem α} {Q Q' : α→Shared→Prop} {M : Model} {A : Around} {E : Value→Shared→Prop} {s : Shared} (h : wpAny M A t Q E s) (hQ : ∀ a s,Q a s→Q' a s) : wpAny M A t Q' E s:=wpAny_mono h hQ fun _ _ x=>x
end L2
namespace L2
open PySem PySem.Spec PyProof.Rows
section
variable {X : Cx}
def tVar (i : Nat) : TE:=fun σ H Q=>∃ v,σ[i]? = some (some v)∧Q v H
def tC (v : V) : TE:=fun _ H Q=>Q v H
theorem pe_var {i : Nat} {x : Str} {pos : Pos} (hN : X.N[i]? = some x) (hv : Vis X.env.scope x) (hd : (x == ("__debug__" : Str)) = false:=by decide) (hcd : (x == ("__classdict__" : Str)) = false:=by decide) : PE X (.Name x pos) (tVar i):=by
  intro pins s σ H Q I h
  obtain ⟨v,e,h⟩:=h
  obtain ⟨m,hn,hl⟩:=I.loc
  obtain ⟨u,r,l⟩:=hl i x v hN e hv
  have fin : EP X pins σ Q u s:=⟨v,H,I,r,h⟩
  rcases l with ⟨hk,hm⟩ | ⟨hk,c,hc,hcell⟩
  · exact wpAny_Name (wpAny_loadName_local I.ok.kind hk hn hm fin) hd
  · rcases hk with hk | hk
    · exact wpAny_Name (wpAny_loadName_cell I.ok.kind hk hc hcell fin) hd
    · exact wpAny_Name (wpAny_loadName_free I.ok.kind hk hc hcell fin hcd) hd
theorem pe_int {i j pos} : PE X (.Constant (.int i) j pos) (tC (.int i)):=fun _ _ _ H _ I h=>wpAny_Constant_int ⟨.int i,H,I.tok _,⟨_,rfl⟩,h⟩
theorem pe_bl {b j pos} : PE X (.Constant (.bool b) j pos) (tC (.bl b)):=fun _ _ _ H _ I h=>Constant_bool ⟨.bl b,H,I,rfl,h⟩
theorem pe_non {j pos} : PE X (.Constant .none j pos) (tC .non):=fun _ _ _ H _ I h=>Constant_none ⟨.non,H,I,rfl,h⟩
def Gl (X : Cx) (x : Str) : Prop:=X.env.kindOf x = some .globalImplicit
theorem ld_glob {E : Value→Shared→Prop} {pins : List (Addr × Obj)} {s : Shared} {σ : St} {H : Hp} {x : Str} {u : Value} {pos : Pos} {Q : Value→Shared→Prop} (I : Inv X pins σ H s) (hg : Gl X x) (hm : X.mg x = some u) (h : Q u s)
    (hd : (x == ("__debug__" : Str)) = false:=by decide) : wpAny (model X.prog X.w) X.A (eval (.Name x pos) X.env) Q E s :=
  Calls.Name_function_global I.ok.kind hg (Calls.loadGlobal_global (by rw [I.ok.glob]; exact I.mod.glob.keeps I.bk) hm h) hd
theorem ld_blt {E : Value→Shared→Prop} {pins : List (Addr × Obj)} {s : Shared} {σ : St} {H : Hp} {x : Str} {u : Value} {pos : Pos} {Q : Value→Shared→Prop} (I : Inv X pins σ H s) (hg : Gl X x) (hm : X.mg x = none) (hv : bootBuiltins x = some u) (h : Q u s)
    (hn : x≠"__name__":=by decide) (hd : (x == ("__debug__" : Str)) = false:=by decide) : wpAny (model X.prog X.w) X.A (eval (.Name x pos) X.env) Q E s:=by
  obtain ⟨mb,h1,h2⟩:=I.mod.blt
  exact Calls.Name_function_global I.ok.kind hg (Calls.loadGlobal_builtin (by rw [I.ok.glob]; exact I.mod.glob.keeps I.bk) hm (by rw [I.ok.blt]; exact h1.keeps I.bk) ((h2 x hn).trans hv) h) hd
theorem pe_glob {x : Str} {v : V} {u : Value} {pos : Pos} (hg : Gl X x) (hm : X.mg x = some u) (r : RelV v u) (hd : (x == ("__debug__" : Str)) = false:=by decide) : PE X (.Name x pos) (tC v) :=
  fun _ _ _ H _ I h=>ld_glob I hg hm ⟨v,H,I,r,h⟩ hd
theorem pe_bltn {x : Str} {v : V} {u : Value} {pos : Pos} (hg : Gl X x) (hm : X.mg x = none) (hv : bootBuiltins x = some u) (r : RelV v u) (hn : x≠"__name__":=by decide) (hd : (x == ("__debug__" : Str)) = false:=by decide) : PE X (.Name x pos) (tC v) :=
  fun _ _ _ H _ I h=>ld_blt I hg hm hv ⟨v,H,I,r,h⟩ hn hd
variable {a b : Expr} {ta tb : TE} {pos : Pos}
def tB (t : TE) : TT:=fun σ H Q=>t σ H fun x H1=>∃ c,x = .bl c∧Q c H1
theorem pt_val {e : Expr} {t : TE} (h : PE X e t) (he : ∀ whole,isTrue e X.env whole = (do let v ← whole; standAt e.pos; holding [v] (truthy v)):=by intro _; rfl) : PT X e (tB t):=by
  intro pins s σ H Q I hw
  refine isTrue_plain (thn (h pins s σ H _ I hw) fun v s1 ⟨x,H1,I1,r1,q1⟩=>?_) (he _)
  obtain ⟨d,rfl,q⟩:=q1
  cases r1
  exact wpAny_truthy_bool ⟨H1,I1,q⟩
variable {tA tB' : TT} {rest : List Expr}
def tAnd (t u : TT) : TT:=fun σ H Q=>t σ H fun c H1=>if c = true then u σ H1 Q else Q false H1
def tOr (t u : TT) : TT:=fun σ H Q=>t σ H fun c H1=>if c = true then Q true H1 else u σ H1 Q
def tNot (t : TT) : TT:=fun σ H Q=>t σ H fun c H1=>Q (!c) H1
theorem pw_and1 (ha : PT X a tA) : PW X (.BoolOp .And [a] pos) tA:=by
  intro wh pins s σ H Q I h
  refine isTrue_and (thn (ha pins s σ H Q I h) fun c s1 e=>?_)
  cases c with
  | true=>exact isTrue_and_nil e
  | false=>exact e
theorem pw_or1 (ha : PT X a tA) : PW X (.BoolOp .Or [a] pos) tA:=by
  intro wh pins s σ H Q I h
  refine isTrue_or (thn (ha pins s σ H Q I h) fun c s1 e=>?_)
  cases c with
  | false=>exact isTrue_or_nil e
  | true=>exact e
theorem pw_and (ha : PT X a tA) (hb : PW X (.BoolOp .And (b :: rest) pos) tB') : PW X (.BoolOp .And (a :: b :: rest) pos) (tAnd tA tB'):=by
  intro wh pins s σ H Q I h
  refine isTrue_and (thn (ha pins s σ H _ I h) fun c s1 ⟨H1,I1,q1⟩=>?_)
  cases c with
  | true=>exact hb wh pins s1 σ H1 Q I1 q1
  | false=>exact ⟨H1,I1,q1⟩
theorem pw_or (ha : PT X a tA) (hb : PW X (.BoolOp .Or (b :: rest) pos) tB') : PW X (.BoolOp .Or (a :: b :: rest) pos) (tOr tA tB'):=by
  intro wh pins s σ H Q I h
  refine isTrue_or (thn (ha pins s σ H _ I h) fun c s1 ⟨H1,I1,q1⟩=>?_)
  cases c with
  | true=>exact ⟨H1,I1,q1⟩
  | false=>exact hb wh pins s1 σ H1 Q I1 q1
theorem pt_not (ha : PT X a tA) : PT X (.UnaryOp .Not a pos) (tNot tA):=by
  intro pins s σ H Q I h
  exact isTrue_not (ha pins s σ H (fun c H1=>Q (!c) H1) I h)
def tAndV (ta tb : TE) : TE:=fun σ H Q=>ta σ H fun x H1=>∃ c,x = .bl c∧if c = true then tb σ H1 Q else Q (.bl false) H1
def tOrV (ta tb : TE) : TE:=fun σ H Q=>ta σ H fun x H1=>∃ c,x = .bl c∧if c = true then Q (.bl true) H1 else tb σ H1 Q
def tNotV (ta : TE) : TE:=fun σ H Q=>ta σ H fun x H1=>∃ c,x = .bl c∧Q (.bl (!c)) H1
def tIf (t : TT) (ta tb : TE) : TE:=fun σ H Q=>t σ H fun c H1=>if c = true then ta σ H1 Q else tb σ H1 Q
theorem pe_ifExp {c : Expr} (hc : PT X c tA) (ha : PE X a ta) (hb : PE X b tb) : PE X (.IfExp c a b pos) (tIf tA ta tb):=by
  intro pins s σ H Q I h
  refine wpAny_IfExp (thn (hc pins s σ H _ I h) fun d s1 ⟨H1,I1,q1⟩=>?_)
  cases d with
  | true=>exact ha pins s1 σ H1 Q I1 q1
  | false=>exact hb pins s1 σ H1 Q I1 q1
end
end L2
namespace L2
open PySem PySem.Spec PyProof.Rows
def SqL (K : PySem.W.Frag) (H : Hp) (a : Addr) (xs : List V) : Prop :=
  Rd H a (.lst xs) ∨
    ∃ (o : Obj) (its : Array Value) (n : Nat),K.lookup a = some o∧o.cls = .type "list"∧o.dict = none∧o.data = .seq its n∧its.size≤sizeLine∧Vals xs its.toList
def SqT (K : PySem.W.Frag) (H : Hp) (a : Addr) (xs : List V) : Prop :=
  Rd H a (.tup xs) ∨
    ∃ (o : Obj) (its : Array Value) (n : Nat),K.lookup a = some o∧o.cls = .type "tuple"∧o.data = .seq its n∧its.size≤sizeLine∧Vals xs its.toList
def absV : Value→Option V
  | .none=>some .non
  | .bool b=>some (.bl b)
  | .int i _=>some (.int i)
  | .str x _=>some (.str x)
  | .bytes b _=>some (.byt b)
  | .float b _=>some (.flt b)
  | .ref a=>some (.ref a)
  | .type n=>some (.ty n)
  | _=>none
theorem RelV.abs {x : V} {u : Value} (r : RelV x u) : absV u = some x:=by
  cases x with
  | non=>cases r; rfl
  | bl _=>cases r; rfl
  | int _=>obtain ⟨t,rfl⟩:=r; rfl
  | str _=>obtain ⟨t,rfl⟩:=r; rfl
  | byt _=>obtain ⟨t,rfl⟩:=r; rfl
  | flt _=>obtain ⟨t,rfl⟩:=r; rfl
  | ref _=>cases r; rfl
  | ty _=>cases r; rfl
theorem RelV.inj {x y : V} {u : Value} (r : RelV x u) (q : RelV y u) : x = y:=Option.some.inj (r.abs.symm.trans q.abs)
theorem Vals.inj : ∀ {xs ys : List V} {us : List Value},Vals xs us→Vals ys us→xs = ys
  | _,_,_,.nil,.nil=>rfl
  | _,_,_,.cons r t,.cons r' t'=>by rw [r.inj r',Vals.inj t t']
section
variable {X : Cx} {pins : List (Addr × Obj)} {σ : St} {H : Hp} {s : Shared} {a : Addr} {xs ys : List V}
theorem SqL.of {K : PySem.W.Frag} (h : H a = some (.lst xs)) : SqL K H a xs:=.inl (.inl h)
theorem SqT.of {K : PySem.W.Frag} (h : H a = some (.tup xs)) : SqT K H a xs:=.inl (.inl h)
theorem Inv.list (I : Inv X pins σ H s) (h : SqL X.K H a xs) : ∃ its : List Value,Vals xs its∧PlainL s.heap a its.toArray∧xs.length≤sizeLine:=by
  rcases h with h | ⟨o,its,n,hk,hc,hd,hs,hz,r⟩
  · obtain ⟨z,its,n,r,e⟩:=h.ok I.hok
    exact ⟨its,r,⟨_,n,e,rfl,rfl,rfl⟩,z⟩
  · refine ⟨its.toList,r,⟨o,n,I.kIn a o hk,hc,hd,by simpa using hs⟩,?_⟩
    have e:=r.length
    simp only [Array.length_toList] at e
    omega
theorem Inv.tuple (I : Inv X pins σ H s) (h : SqT X.K H a xs) : ∃ its : List Value,Vals xs its∧IsTup s.heap a its.toArray∧xs.length≤sizeLine:=by
  rcases h with h | ⟨o,its,n,hk,hc,hs,hz,r⟩
  · obtain ⟨z,its,r,p⟩:=h.ok I.hok
    exact ⟨its,r,p,z⟩
  · refine ⟨its.toList,r,⟨o,I.kIn a o hk,hc,n,by simpa using hs⟩,?_⟩
    have e:=r.length
    simp only [Array.length_toList] at e
    omega
theorem Inv.list_inj (I : Inv X pins σ H s) (h : SqL X.K H a xs) (h' : SqL X.K H a ys) : xs = ys:=by
  obtain ⟨its,r,⟨o,n,e,_,_,d⟩,_⟩:=I.list h
  obtain ⟨its',r',⟨o',n',e',_,_,d'⟩,_⟩:=I.list h'
  rw [e] at e'; cases e'
  rw [d] at d'
  injection d' with d1 _
  have : its = its':=by simpa using congrArg Array.toList d1
  subst this
  exact r.inj r'
theorem Inv.tuple_inj (I : Inv X pins σ H s) (h : SqT X.K H a xs) (h' : SqT X.K H a ys) : xs = ys:=by
  obtain ⟨its,r,⟨o,e,_,n,d⟩,_⟩:=I.tuple h
  obtain ⟨its',r',⟨o',e',_,n',d'⟩,_⟩:=I.tuple h'
  rw [e] at e'; cases e'
  rw [d] at d'
  injection d' with d1 _
  have : its = its':=by simpa using congrArg Array.toList d1
  subst this
  exact r.inj r'
end
abbrev Cx.wish (X : Cx) (E : Value→Shared→Prop) : Cx:={ X with xe:=E }
abbrev Cx.nox (X : Cx) : Cx:=X.wish fun _ _=>False
theorem Cx.Ok.wish {X : Cx} (ok : X.Ok) (E : Value→Shared→Prop) : (X.wish E).Ok :=
  ⟨ok.mod,ok.kind,ok.glob,ok.blt,ok.above,ok.inj,ok.has,ok.cab,ok.hd,ok.frames,ok.stk,ok.exf,ok.bs,ok.bsz,ok.noex,ok.exfs,ok.funs,ok.frf⟩
theorem Cx.Ok.unwish {X : Cx} {E : Value→Shared→Prop} (ok : (X.wish E).Ok) : X.Ok :=
  ⟨ok.mod,ok.kind,ok.glob,ok.blt,ok.above,ok.inj,ok.has,ok.cab,ok.hd,ok.frames,ok.stk,ok.exf,ok.bs,ok.bsz,ok.noex,ok.exfs,ok.funs,ok.frf⟩
section
variable {X : Cx} {pins : List (Addr × Obj)} {σ : St} {H : Hp} {s : Shared} {E : Value→Shared→Prop}
theorem Inv.wish (I : Inv X pins σ H s) (E : Value→Shared→Prop) : Inv (X.wish E) pins σ H s:=⟨I.ok.wish E,I.os,I.bare,I.base,I.loc,I.cell,I.free,I.freeC,I.pin,I.hok,I.len⟩
theorem Inv.unwish (I : Inv (X.wish E) pins σ H s) : Inv X pins σ H s:=⟨I.ok.unwish,I.os,I.bare,I.base,I.loc,I.cell,I.free,I.freeC,I.pin,I.hok,I.len⟩
theorem SP.unwish {D : Ends} {f : Flow} {s' : Shared} (h : SP (X.wish E) pins D f s') : SP X pins D f s':=by
  cases f with
  | next=>obtain ⟨σ',H',I,q⟩:=h; exact ⟨σ',H',I.unwish,q⟩
  | brk=>obtain ⟨σ',H',I,q⟩:=h; exact ⟨σ',H',I.unwish,q⟩
  | cont=>obtain ⟨σ',H',I,q⟩:=h; exact ⟨σ',H',I.unwish,q⟩
  | ret u=>obtain ⟨v,σ',H',I,r,q⟩:=h; exact ⟨v,σ',H',I.unwish,r,q⟩
theorem PE.nox {e : Expr} {t : TE} (h : PE X.nox e t) : PE X e t:=fun pins s σ H Q I hw =>
  wpAny_mono (h pins s σ H Q (I.wish _) hw) (fun _ _ ⟨v,H',I',r,q⟩=>⟨v,H',I'.unwish,r,q⟩) fun _ _ z=>False.elim z
theorem PT.nox {e : Expr} {t : TT} (h : PT X.nox e t) : PT X e t:=fun pins s σ H Q I hw =>
  wpAny_mono (h pins s σ H Q (I.wish _) hw) (fun _ _ ⟨H',I',q⟩=>⟨H',I'.unwish,q⟩) fun _ _ z=>False.elim z
theorem PSs.nox {st : List Stmt} {t : TS} (h : PSs X.nox st t) : PSs X st t:=fun pins s σ H D I hw =>
  wpAny_mono (h pins s σ H D (I.wish _) hw) (fun _ _ q=>q.unwish) fun _ _ z=>False.elim z
end
section
variable {X : Cx} {st : Stmt} {rest : List Stmt} {t u : TS} {e : Expr} {te : TE} {pos : Pos}
def tNext : TS:=fun D σ H=>D.nx σ H
def tSeq (t u : TS) : TS:=fun D σ H=>t { D with nx:=u D } σ H
theorem pss_nil : PSs X [] tNext:=fun _ _ σ H _ I h=>wpAny_execs_nil ⟨σ,H,I,h⟩
theorem pss_cons (h1 : PS X st t) (h2 : PSs X rest u) : PSs X (st :: rest) (tSeq t u):=by
  intro pins s σ H D I h
  refine wpAny_execs_cons (thn (h1 pins s σ H { D with nx:=u D } I h) fun f s1 q=>?_)
  cases f with
  | next =>
    obtain ⟨σ',H',I',q⟩:=q
    exact h2 pins s1 σ' H' D I' q
  | ret v=>exact q
  | brk=>exact q
  | cont=>exact q
theorem pss_one (h1 : PS X st t) : PSs X [st] t:=by
  intro pins s σ H D I h
  refine wpAny_execs_cons (thn (h1 pins s σ H D I h) fun f s1 q=>?_)
  cases f with
  | next=>exact wpAny_execs_nil q
  | ret v=>exact q
  | brk=>exact q
  | cont=>exact q
theorem Inv.quiet {pins : List (Addr × Obj)} {σ : St} {H : Hp} {s : Shared} (I : Inv X pins σ H s) : interactive X.env = false:=by simp [interactive,I.ok.kind]
def tDrop (te : TE) : TS:=fun D σ H=>te σ H fun _ H1=>D.nx σ H1
theorem ps_expr (he : PE X e te) (hs : swapsWith e none pos.line X.env = pure false:=by rfl) : PS X (.Expr e pos) (tDrop te):=by
  intro pins s σ H D I h
  exact wpAny_Expr_any (thn (he pins s σ H _ I h) fun v s1 ⟨x,H1,I1,r1,q1⟩=>⟨σ,H1,I1,q1⟩) I.quiet hs
def tRet (te : TE) : TS:=fun D σ H=>te σ H D.rt
theorem ps_ret (he : PE X e te) : PS X (.Return (some e) pos) (tRet te):=by
  intro pins s σ H D I h
  exact wpAny_Return_some (thn (he pins s σ H _ I h) fun v s1 ⟨x,H1,I1,r1,q1⟩=>⟨x,σ,H1,I1,r1,q1⟩)
def tIfS (c : TT) (t u : TS) : TS:=fun D σ H=>c σ H fun b H1=>if b = true then t D σ H1 else u D σ H1
theorem ps_if {c : Expr} {a b : List Stmt} {tc : TT} (hc : PT X c tc) (ha : PSs X a t) (hb : PSs X b u) : PS X (.If c a b pos) (tIfS tc t u):=by
  intro pins s σ H D I h
  refine wpAny_If (thn (hc pins s σ H _ I h) fun d s1 ⟨H1,I1,q1⟩=>?_)
  cases d with
  | true=>exact ha pins s1 σ H1 D I1 q1
  | false=>exact hb pins s1 σ H1 D I1 q1
end
abbrev TG:=V→St→Hp→(St→Hp→Prop)→Prop
abbrev TGs:=List V→St→Hp→(St→Hp→Prop)→Prop
def PG (X : Cx) (target : Expr) (t : TG) : Prop :=
  ∀ (pins : List (Addr × Obj)) (s : Shared) (σ : St) (H : Hp) (v : V) (u : Value) (Q : St→Hp→Prop),Inv X pins σ H s→RelV v u→t v σ H Q →
    wpAny (model X.prog X.w) X.A (assign target X.env u) (fun _ s'=>∃ σ' H',Inv X pins σ' H' s'∧Q σ' H') X.xe s
def PGs (X : Cx) (ts : List Expr) (t : TGs) : Prop :=
  ∀ (pins : List (Addr × Obj)) (s : Shared) (σ : St) (H : Hp) (vs : List V) (us : List Value) (Q : St→Hp→Prop),Inv X pins σ H s→Vals vs us→t vs σ H Q →
    wpAny (model X.prog X.w) X.A (assignInOrder ((assignEach ts X.env).map (·.2)) us) (fun _ s'=>∃ σ' H',Inv X pins σ' H' s'∧Q σ' H') X.xe s
abbrev TSet:=V→V→V→Hp→(Hp→Prop)→Prop
def PSet (X : Cx) (t : TSet) : Prop :=
  ∀ (pins : List (Addr × Obj)) (s : Shared) (σ : St) (H : Hp) (o i v : V) (ov iv u : Value) (Q : Hp→Prop),Inv X pins σ H s→RelV o ov→RelV i iv→RelV v u→t o i v H Q →
    wpAny (model X.prog X.w) X.A (setItem ov iv u) (fun _ s'=>∃ H',Inv X pins σ H' s'∧Q H') X.xe s
abbrev TIp:=V→V→Hp→VK→Prop
def PIp (X : Cx) (op : Operator) (t : TIp) : Prop :=
  ∀ (pins : List (Addr × Obj)) (s : Shared) (σ : St) (H : Hp) (x y : V) (v u : Value) (Q : VK),Inv X pins σ H s→RelV x v→RelV y u→t x y H Q →
    wpAny (model X.prog X.w) X.A (inplaceOp op v u) (EP X pins σ Q) X.xe s
section
variable {X : Cx} {pos : Pos}
def gName (i : Nat) : TG:=fun v σ H Q=>Q (σ.set i (some v)) H
theorem pg_name {i : Nat} {x : Str} (hN : X.N.Nodup) (hi : X.N[i]? = some x) (hx : Loc X.env.scope x) (hf : X.fn x = true∨X.env.scope.names.lookup x = some .local:=by first | exact .inl rfl | exact .inr rfl | assumption) : PG X (.Name x pos) (gName i):=by
  intro pins s σ H v u Q I r h
  exact wpAny_assign_Name (store_ok I hN hi hx r (fun s' I'=>⟨_,H,I',h⟩) hf)
def gNil : TGs:=fun vs σ H Q=>vs = []∧Q σ H
def gCons (t : TG) (u : TGs) : TGs:=fun vs σ H Q=>∃ v r,vs = v :: r∧t v σ H fun σ' H'=>u r σ' H' Q
theorem pgs_nil : PGs X [] gNil:=by
  intro pins s σ H vs us Q I r h
  obtain ⟨e,h⟩:=h
  subst e
  cases r
  exact assignInOrder_nil ⟨σ,H,I,h⟩
theorem pgs_cons {e : Expr} {es : List Expr} {t : TG} {u : TGs} (h1 : PG X e t) (h2 : PGs X es u)
    (hs : (assignEach (e :: es) X.env).map (·.2) = assign e X.env :: (assignEach es X.env).map (·.2):=by rfl) : PGs X (e :: es) (gCons t u):=by
  intro pins s σ H vs us Q I r h
  obtain ⟨v,vr,e1,h⟩:=h
  subst e1
  cases r with
  | cons r rr =>
    rw [hs]
    refine assignInOrder_cons (thn (h1 pins s σ H _ _ _ I r h) fun _ s1 ⟨σ1,H1,I1,q1⟩=>?_)
    exact h2 pins s1 σ1 H1 _ _ Q I1 rr q1
def gTup (K : PySem.W.Frag) (n : Nat) (t : TGs) : TG:=fun v σ H Q=>∃ a xs,v = .ref a∧SqT K H a xs∧xs.length = n∧t xs σ H Q
theorem pg_tup {es : List Expr} {k : Nat} {t : TGs} {n : Nat} (hc : X.calm = true) (h : PGs X es t)
    (hn : (assignEach es X.env).length = n:=by rfl) (hst : (assignEach es X.env).findIdx? (·.1) = none:=by rfl) : PG X (.Tuple es k pos) (gTup X.K n t):=by
  intro pins s σ H v u Q I r hw
  obtain ⟨a,xs,e1,hq,hl,hw⟩:=hw
  subst e1
  cases r
  obtain ⟨its,rv,ht,hz⟩:=I.tuple hq
  refine assign_Tuple_tuple (I.ok.hd hc) ht (by simp [hn,← hl,rv.length]) hst fun h' hx=>?_
  have I1 : Inv X pins σ H { s with heap:=h' }:=I.kept (t':=s.toks) fun b o e=>hx b o (Nat.ne_of_lt (Heap.lt_size e)) e
  exact h pins _ σ H xs _ Q I1 (by simpa using rv) hw
def gSub (to ti : TE) (t : TSet) : TG:=fun v σ H Q=>to σ H fun o H1=>ti σ H1 fun i H2=>t o i v H2 fun H3=>Q σ H3
theorem pg_sub {o i : Expr} {to ti : TE} {t : TSet} (ho : PE X o to) (hi : PE X i ti) (hs : PSet X t)
    (ha : ∀ v,assign (.Subscript o i pos) X.env v = (do
      let ov ← holding [v] (eval o X.env)
      let iv ← holding [v,ov] (eval i X.env)
      standAt pos
      holding [v,ov,iv] (setItem ov iv v)
      release [v,ov,iv] []):=by intro _; rfl) : PG X (.Subscript o i pos) (gSub to ti t):=by
  intro pins s σ H v u Q I r h
  rw [ha]
  refine wpAny_bind (wpAny_holding (thn (ho pins s σ H _ I h) fun ov s1 ⟨x,H1,I1,r1,q1⟩=>?_))
  refine wpAny_bind (wpAny_holding (thn (hi pins s1 σ H1 _ I1 q1) fun iv s2 ⟨y,H2,I2,r2,q2⟩=>?_))
  refine wpAny_bind (wpAny_standAt (wpAny_bind (wpAny_holding (thn (hs pins s2 σ H2 x y v ov iv u _ I2 r1 r2 r q2) fun _ s3 ⟨H3,I3,q3⟩=>?_))))
  exact wpAny_release ⟨σ,H3,I3,q3⟩
def tAsg (te : TE) (g : TG) : TS:=fun D σ H=>te σ H fun x H1=>g x σ H1 D.nx
theorem ps_asg {tg e : Expr} {te : TE} {g : TG} (he : PE X e te) (hg : PG X tg g) (hs : swapsWithSole [tg] e pos.line X.env = pure false:=by rfl) (hw : swappedStores [tg] e X.env = pure none:=by rfl)
    (h1 : (assignEach [tg] X.env).map (·.2) = [assign tg X.env]:=by rfl) : PS X (.Assign [tg] e pos) (tAsg te g):=by
  intro pins s σ H D I h
  refine wpAny_Assign_stores (thn (he pins s σ H _ I h) fun v s1 ⟨x,H1,I1,r1,q1⟩=>?_) hs hw
  rw [h1]
  exact thn (hg pins s1 σ H1 x v _ I1 r1 q1) fun _ s2 q=>q
theorem ps_set {i : Nat} {x : Str} {e : Expr} {te : TE} {pos' : Pos} (hN : X.N.Nodup) (hi : X.N[i]? = some x) (hx : Loc X.env.scope x) (he : PE X e te) (hs : swapsWith e (some (.Name x pos')) pos.line X.env = pure false:=by rfl) (hf : X.fn x = true∨X.env.scope.names.lookup x = some .local:=by first | exact .inl rfl | exact .inr rfl | assumption) :
    PS X (.Assign [.Name x pos'] e pos) (tAsg te (gName i)):=by
  intro pins s σ H D I h
  refine wpAny_Assign_Name (thn (he pins s σ H _ I h) fun v s1 ⟨y,H1,I1,r1,q1⟩=>?_) hs
  exact store_ok I1 hN hi hx r1 (fun s2 I2=>⟨_,H1,I2,q1⟩) hf
def tPar (i j : Nat) (ta : TA) : TS:=fun D σ H=>ta σ H fun vs H1=>∃ v w,vs = [v,w]∧D.nx ((σ.set i (some v)).set j (some w)) H1
def tAug (i : Nat) (te : TE) (ti : TIp) : TS:=fun D σ H=>∃ x,σ[i]? = some (some x)∧te σ H fun y H1=>ti x y H1 fun z H2=>D.nx (σ.set i (some z)) H2
theorem ps_aug {i : Nat} {x : Str} {e : Expr} {te : TE} {op : Operator} {ti : TIp} {pos' : Pos} (hN : X.N.Nodup) (hi : X.N[i]? = some x) (hx : Loc X.env.scope x) (he : PE X e te) (ho : PIp X op ti) (hf : X.fn x = true∨X.env.scope.names.lookup x = some .local:=by first | exact .inl rfl | exact .inr rfl | assumption) :
    PS X (.AugAssign (.Name x pos') op e pos) (tAug i te ti):=by
  intro pins s σ H D I h
  obtain ⟨v,e1,h⟩:=h
  obtain ⟨m,hn,hl⟩:=I.loc
  have vis : Vis X.env.scope x:=by rcases hx with k | k; exact .inl k; exact .inr (.inl k)
  obtain ⟨u,r,l⟩:=hl i x v hi e1 vis
  refine wpAny_AugAssign_Name ?_
  have go : wpAny (model X.prog X.w) X.A (eval e X.env) (fun w s₂=>wpAny (model X.prog X.w) X.A (inplaceOp op u w) (fun r s₃=>wpAny (model X.prog X.w) X.A (storeName X.env x r) (fun _=>SP X pins D .next) X.xe s₃) X.xe s₂) X.xe s:=by
    refine thn (he pins s σ H _ I h) fun w s1 ⟨y,H1,I1,r1,q1⟩=>?_
    refine thn (ho pins s1 σ H1 v y u w _ I1 r r1 q1) fun z s2 ⟨zv,H2,I2,r2,q2⟩=>?_
    exact store_ok I2 hN hi hx r2 (fun s3 I3=>⟨_,H2,I3,q2⟩) hf
  rcases l with ⟨hk,hm⟩ | ⟨hk,c,hc,hcell⟩
  · exact wpAny_loadName_local I.ok.kind hk hn hm go
  · rcases hk with hk | hk
    · exact wpAny_loadName_cell I.ok.kind hk hc hcell go
    · rcases hx with k | k
      · have : X.env.scope.names.lookup x = some .free:=hk
        rw [k] at this; cases this
      · have : X.env.scope.names.lookup x = some .free:=hk
        rw [k] at this; cases this
def tAugS (to ti te : TE) (tget : V→V→Hp→VK→Prop) (tip : TIp) (tset : TSet) : TS:=fun D σ H=>to σ H fun o H1=>ti σ H1 fun i H2=>tget o i H2 fun x H3=>te σ H3 fun y H4=>tip x y H4 fun z H5=>tset o i z H5 fun H6=>D.nx σ H6
def ipI (f : Int→Int→Int) : TIp:=fun x y H Q=>∃ i j,x = .int i∧y = .int j∧Q (.int (f i j)) H
theorem ip_sub : PIp X .Sub (ipI fun i j=>i - j):=by
  intro pins s σ H x y v u Q I r1 r2 h
  obtain ⟨i,j,e1,e2,q⟩:=h
  subst e1; subst e2
  obtain ⟨t,rfl⟩:=r1
  obtain ⟨t',rfl⟩:=r2
  exact isub_int ⟨.int _,H,I.tok _,⟨_,rfl⟩,q⟩
end
section
variable {X : Cx} {pos : Pos}
def tWhile (c : TT) (tb : TS) : TS:=fun D σ H=>∃ W : Nat→St→Hp→Prop,(∃ m,W m σ H)∧∀ m σ H,W m σ H →
  c σ H fun b H1=>if b = true then ∃ N : St→Hp→Prop,(∀ σ' H',N σ' H'→∃ m',m' < m∧W m' σ' H')∧tb { D with nx:=N,ct:=N,bk:=D.nx } σ H1 else D.nx σ H1
theorem ps_while {c : Expr} {body : List Stmt} {tc : TT} {tb : TS} (hp : PassesOwn (model X.prog X.w) X.A X.env X.xe) (hc : PT X c tc) (hb : PSs X body tb) : PS X (.While c body [] pos) (tWhile tc tb):=by
  intro pins s σ H D I h
  obtain ⟨W,⟨m0,w0⟩,turn⟩:=h
  refine wpAny_While (codeAny_whileLoop (fun n s'=>∃ σ' H',Inv X pins σ' H' s'∧W n σ' H') ?_ m0 ⟨σ,H,I,w0⟩)
  rintro n s1 ⟨σ1,H1,I1,w1⟩
  refine wpAny_passesOwn hp (thn (hc pins s1 σ1 H1 _ I1 (turn n σ1 H1 w1)) fun b s2 ⟨H2,I2,q2⟩=>?_)
  cases b with
  | true =>
    obtain ⟨N,hN,q2⟩:=q2
    rw [if_pos rfl]
    refine wpAny_passesOwn hp (thn (hb pins s2 σ1 H2 _ I2 q2) fun f s3 q3=>?_)
    cases f with
    | next =>
      obtain ⟨σ3,H3,I3,n3⟩:=q3
      obtain ⟨m',hm,w3⟩:=hN σ3 H3 n3
      exact ⟨m',hm,σ3,H3,I3,w3⟩
    | cont =>
      obtain ⟨σ3,H3,I3,n3⟩:=q3
      obtain ⟨m',hm,w3⟩:=hN σ3 H3 n3
      exact ⟨m',hm,σ3,H3,I3,w3⟩
    | brk=>exact q3
    | ret v=>exact q3
  | false =>
    rw [if_neg Bool.false_ne_true]
    exact wpAny_execs_nil ⟨σ1,H2,I2,q2⟩
end
structure It where
  go : Nat→Hp→Prop
  yld : Nat→Hp→V→Hp→Prop
  stop : Nat→Hp→Prop
def FpOk (X : Cx) (pins : List (Addr × Obj)) (H : Hp) (b : Addr) : Prop :=
  H b = none∧b≠X.env.locals∧b ∉ X.fs∧(b ∈ X.ex∨X.s₀.heap.objs.size≤b)∧(∀ x c,X.env.cells.lookup x = some c→c≠b)∧∀ p ∈ X.pn ++ pins,p.1≠b
theorem Inv.fpOk {X : Cx} {pins : List (Addr × Obj)} {σ : St} {H H' : Hp} {s : Shared} {b : Addr} (I : Inv X pins σ H s) (hb : s.heap.objs.size≤b) (hn : H' b = none) : FpOk X pins H' b:=by
  refine ⟨hn,Nat.ne_of_gt (Nat.lt_of_lt_of_le I.lt hb),I.nofs hb,.inr (Nat.le_trans I.sz hb),fun x c e z=>?_,fun p hp z=>?_⟩
  · obtain ⟨v,q⟩:=I.cell x c e
    exact absurd (Nat.lt_of_lt_of_le q.lt (by rw [z]; exact hb)) (Nat.lt_irrefl _)
  · exact absurd (Nat.lt_of_lt_of_le (Heap.lt_size (I.pin p hp).1) (by rw [z]; exact hb)) (Nat.lt_irrefl _)
structure Turn (P : Program) (w : World) (K : PySem.W.Frag) (tg : Expr) (J : It) (fp : List Addr) (it : Addr) (tn : Nat→Heap→Prop) : Prop where
  mem : it ∈ fp
  obj : ∀ i h,tn i h→∀ b ∈ fp,∃ o,h.get? b = some o∧∀ v,o.data≠.cell v
  keep : ∀ i h h',tn i h→(∀ b ∈ fp,∀ o,h.get? b = some o→h'.get? b = some o)→tn i h'
  item : ∀ (X : Cx),X.prog = P→X.w = w→X.K = K→X.calm = true→∀ (i : Nat) (pins : List (Addr × Obj)) (s : Shared) (σ : St) (H : Hp) (E : Value→Shared→Prop),Inv X pins σ H s→(∀ b ∈ fp,FpOk X pins H b)→tn i s.heap→J.go i H →
    wpAny (model P w) X.A (pyNext (.ref it)) (fun r s1=>∃ u,r = some u ∧
      wpAny (model P w) X.A (letOwnedTupleGo tg (.ref it) u) (fun _ s2=>∃ x H',Inv X pins σ H' s2∧RelV x u∧J.yld i H x H'∧tn (i + 1) s2.heap∧∀ b ∈ fp,H' b = none) E s1) E s
  done : ∀ (X : Cx),X.prog = P→X.w = w→X.K = K→X.calm = true→∀ (i : Nat) (pins : List (Addr × Obj)) (s : Shared) (σ : St) (H : Hp) (E : Value→Shared→Prop),Inv X pins σ H s→(∀ b ∈ fp,FpOk X pins H b)→tn i s.heap→J.stop i H →
    wpAny (model P w) X.A (pyNext (.ref it)) (fun r s1=>r = none∧Inv X pins σ H s1) E s
  self : ∀ (A : Around) (i : Nat) (s : Shared) (Q : Value→Shared→Prop) (E : Value→Shared→Prop),tn i s.heap→Q (.ref it) s→wpAny (model P w) A (pyIter (.ref it)) Q E s
abbrev TI:=St→Hp→(It→Hp→Prop)→Prop
def PIE (X : Cx) (pins : List (Addr × Obj)) (σ : St) (tg : Expr) (R : It→Hp→Prop) (itv : Value) (s2 : Shared) : Prop :=
  ∃ (it : Addr) (fp : List Addr) (tn : Nat→Heap→Prop) (J : It) (H' : Hp),itv = .ref it∧Inv X pins σ H' s2∧Turn X.prog X.w X.K tg J fp it tn∧tn 0 s2.heap∧(∀ b ∈ fp,FpOk X pins H' b)∧R J H'
def PI (X : Cx) (tg iter : Expr) (wi : TI) : Prop :=
  ∀ (pins : List (Addr × Obj)) (s : Shared) (σ : St) (H : Hp) (R : It→Hp→Prop),Inv X pins σ H s→wi σ H R →
    wpAny (model X.prog X.w) X.A (eval iter X.env) (fun v s1=>wpAny (model X.prog X.w) X.A (pyIter v) (PIE X pins σ tg R) X.xe s1) X.xe s
theorem go_of {M : Model} {A : Around} {E : Value→Shared→Prop} {s : Shared} {tg : Expr} {it : Addr} {u : Value} {o : Obj} {n : String} {vs : Array Value} {Q : Unit→Shared→Prop} (ho : s.heap.get? it = some o) (hc : o.cls = .type n) (hd : o.data = .fields vs)
    (hn : ["enumerate","zip","dict_itemiterator","dict_reverseitemiterator","odict_iterator","itertools.zip_longest","itertools.pairwise"].contains n = false) (hQ : Q () s) : wpAny M A (letOwnedTupleGo tg (.ref it) u) Q E s:=by
  unfold letOwnedTupleGo
  cases tg <;> first
    | exact wpAny_pure hQ
    | (cases u <;> first
        | exact wpAny_pure hQ
        | (refine wpAny_bind (wpAny_load ho ?_)
           rw [hc,hd]
           show wpAny M A (if (["enumerate","zip","dict_itemiterator","dict_reverseitemiterator","odict_iterator","itertools.zip_longest","itertools.pairwise"].contains n && vs[0]? == some (rawInt _)) = true then _ else _) Q E s
           rw [if_neg (by intro h; rw [hn,Bool.false_and] at h; cases h)]
           exact wpAny_pure hQ))
def Itl (K : PySem.W.Frag) (a : Addr) : It :=
  ⟨fun i H=>∃ xs x,SqL K H a xs∧xs[i]? = some x,fun i H x H'=>H' = H∧∀ xs,SqL K H a xs→xs[i]? = some x,fun i H=>∃ xs,SqL K H a xs∧xs.length≤i⟩
def Itt (K : PySem.W.Frag) (a : Addr) : It :=
  ⟨fun i H=>∃ xs x,SqT K H a xs∧xs[i]? = some x,fun i H x H'=>H' = H∧∀ xs,SqT K H a xs→xs[i]? = some x,fun i H=>∃ xs,SqT K H a xs∧xs.length≤i⟩
def Itr (lo : Int) (n : Nat) : It:=⟨fun i _=>i < n,fun i H x H'=>H' = H∧x = .int (lo + i),fun i _=>n≤i⟩
theorem turn_list {P : Program} {w : World} {K : PySem.W.Frag} {tg : Expr} (a it : Addr) : Turn P w K tg (Itl K a) [it] it (fun i h=>h.IsListIter it a i) where
  mem:=by simp
  obj:=fun i h st b hb=>by
    have e : b = it:=by simpa using hb
    subst e
    obtain ⟨o,e,c,d⟩:=st
    exact ⟨o,e,fun v z=>by rw [d] at z; cases z⟩
  keep:=fun i h h' st k=>st.at fun o e=>k it (by simp) o e
  item:=by
    intro X hP hw hK hc i pins s σ H E I hf st hg
    subst hP hw hK
    obtain ⟨xs,x,hq,hx⟩:=hg
    obtain ⟨its,rv,p,hz⟩:=I.list hq
    obtain ⟨u,hu,ru⟩:=rv.get hx
    obtain ⟨f0,f1,f2,f3,f4,f5⟩:=hf it (by simp)
    refine wpAny_pyNext_list_item st p.isList (x:=u) (by simpa using hu) fun h' st' sb=>?_
    have I1 : Inv X pins σ H { s with heap:=h' }:=I.turned (t':=s.toks) (fun b o hb e=>(sb.2 b hb).trans e) f0 f1 f3 f4 f5
    obtain ⟨o,e,c,d⟩:=id st'
    exact ⟨u,rfl,go_of (s:={ s with heap:=h' }) e c d (by decide) ⟨x,H,I1,ru,⟨rfl,fun ys hy=>by rw [I.list_inj hy hq]; exact hx⟩,st',fun b hb=>(hf b hb).1⟩⟩
  done:=by
    intro X hP hw hK hc i pins s σ H E I hf st hg
    subst hP hw hK
    obtain ⟨xs,hq,hx⟩:=hg
    obtain ⟨its,rv,p,hz⟩:=I.list hq
    obtain ⟨f0,f1,f2,f3,f4,f5⟩:=hf it (by simp)
    have hl:=rv.length
    exact wpAny_pyNext_list_end (I.ok.hd hc) st p.isList (by simp; omega) fun h' eb=>⟨rfl,I.turned (t':=s.toks) (fun b o hb e=>eb b o hb e) f0 f1 f3 f4 f5⟩
  self:=fun _ _ _ _ _ st h=>wpAny_pyIter_listiter st h
theorem turn_tuple {P : Program} {w : World} {K : PySem.W.Frag} {tg : Expr} (a it : Addr) : Turn P w K tg (Itt K a) [it] it (fun i h=>h.IsTupleIter it a i) where
  mem:=by simp
  obj:=fun i h st b hb=>by
    have e : b = it:=by simpa using hb
    subst e
    obtain ⟨o,e,c,d⟩:=st
    exact ⟨o,e,fun v z=>by rw [d] at z; cases z⟩
  keep:=fun i h h' st k=>st.at fun o e=>k it (by simp) o e
  item:=by
    intro X hP hw hK hc i pins s σ H E I hf st hg
    subst hP hw hK
    obtain ⟨xs,x,hq,hx⟩:=hg
    obtain ⟨its,rv,p,hz⟩:=I.tuple hq
    obtain ⟨u,hu,ru⟩:=rv.get hx
    obtain ⟨f0,f1,f2,f3,f4,f5⟩:=hf it (by simp)
    refine wpAny_pyNext_tuple_item st (show s.heap.IsTuple a its.toArray from p) (x:=u) (by simpa using hu) fun h' st' sb=>?_
    have I1 : Inv X pins σ H { s with heap:=h' }:=I.turned (t':=s.toks) (fun b o hb e=>(sb.2 b hb).trans e) f0 f1 f3 f4 f5
    obtain ⟨o,e,c,d⟩:=id st'
    exact ⟨u,rfl,go_of (s:={ s with heap:=h' }) e c d (by decide) ⟨x,H,I1,ru,⟨rfl,fun ys hy=>by rw [I.tuple_inj hy hq]; exact hx⟩,st',fun b hb=>(hf b hb).1⟩⟩
  done:=by
    intro X hP hw hK hc i pins s σ H E I hf st hg
    subst hP hw hK
    obtain ⟨xs,hq,hx⟩:=hg
    obtain ⟨its,rv,p,hz⟩:=I.tuple hq
    obtain ⟨f0,f1,f2,f3,f4,f5⟩:=hf it (by simp)
    have hl:=rv.length
    exact wpAny_pyNext_tuple_end (I.ok.hd hc) st (show s.heap.IsTuple a its.toArray from p) (by simp; omega) fun h' eb=>⟨rfl,I.turned (t':=s.toks) (fun b o hb e=>eb b o hb e) f0 f1 f3 f4 f5⟩
  self:=fun _ _ _ _ _ st h=>wpAny_pyIter_tupleiter st h
theorem turn_range {P : Program} {w : World} {K : PySem.W.Frag} {tg : Expr} (it : Addr) (lo : Int) (n : Nat) : Turn P w K tg (Itr lo n) [it] it (fun i h=>IsRangeIter h it (lo + (i : Nat) * 1) ((n : Int) - (i : Nat)) 1) where
  mem:=by simp
  obj:=fun i h st b hb=>by
    have e : b = it:=by simpa using hb
    subst e
    exact ⟨_,st,fun v z=>by
      have z' : Data.fields _ = Data.cell v:=z
      cases z'⟩
  keep:=fun i h h' st k=>k it (by simp) _ st
  item:=by
    intro X hP hw hK hc i pins s σ H E I hf st hg
    subst hP hw hK
    obtain ⟨f0,f1,f2,f3,f4,f5⟩:=hf it (by simp)
    have W:=Walks.range (prog:=X.prog) (w:=X.w) (I.ok.hd hc) it lo 1 n
    refine W.item i s _ _ hg st fun v h' tk hv st' kk=>?_
    obtain ⟨t,rfl⟩:=hv
    have I1 : Inv X pins σ H { s with heap:=h',toks:=tk }:=I.turned (fun b o hb e=>kk b o (by simpa using hb) e) f0 f1 f3 f4 f5
    refine ⟨_,rfl,go_of (s:={ s with heap:=h',toks:=tk }) (n:="range_iterator") st' rfl rfl (by decide) ⟨.int (lo + i),H,I1,⟨t,?_⟩,⟨rfl,rfl⟩,st',fun b hb=>(hf b hb).1⟩⟩
    rw [Int.mul_one]
  done:=by
    intro X hP hw hK hc i pins s σ H E I hf st hg
    subst hP hw hK
    obtain ⟨f0,f1,f2,f3,f4,f5⟩:=hf it (by simp)
    exact wpAny_pyNext_range_end (I.ok.hd hc) st (by have : n≤i:=hg; omega) fun h' eb=>⟨rfl,I.turned (t':=s.toks) (fun b o hb e=>eb b o hb e) f0 f1 f3 f4 f5⟩
  self:=fun _ _ _ _ _ st h=>wpAny_pyIter_rangeiter st h
end L2
namespace L2
open PySem PySem.Spec PyProof.Rows
section
variable {X : Cx} {tg : Expr}
def iList (K : PySem.W.Frag) (tl : TE) : TI:=fun σ H R=>tl σ H fun x H1=>∃ a,x = .ref a∧(∃ xs,SqL K H1 a xs)∧R (Itl K a) H1
def iTup (K : PySem.W.Frag) (tl : TE) : TI:=fun σ H R=>tl σ H fun x H1=>∃ a,x = .ref a∧(∃ xs,SqT K H1 a xs)∧R (Itt K a) H1
theorem pi_list {l : Expr} {tl : TE} (hl : PE X l tl) : PI X tg l (iList X.K tl):=by
  intro pins s σ H R I h
  refine thn (hl pins s σ H _ I h) fun v s1 ⟨x,H1,I1,r1,q1⟩=>?_
  obtain ⟨a,e,⟨xs,hq⟩,q⟩:=q1
  subst e
  cases r1
  obtain ⟨its,rv,p,hz⟩:=I1.list hq
  refine wpAny_pyIter_list p.isList ?_
  refine ⟨s1.heap.objs.size,[s1.heap.objs.size],_,_,H1,rfl,I1.kept (t':=s1.toks) fun b o e=>Heap.get?_push_of_some _ e,turn_list a _,⟨_,Heap.get?_push_size _ rfl,rfl,rfl⟩,fun b hb=>?_,q⟩
  have e : b = s1.heap.objs.size:=by simpa using hb
  subst e
  exact I1.fpOk (Nat.le_refl _) (I1.hok.fresh (Nat.le_refl _))
theorem pi_tup {l : Expr} {tl : TE} (hl : PE X l tl) : PI X tg l (iTup X.K tl):=by
  intro pins s σ H R I h
  refine thn (hl pins s σ H _ I h) fun v s1 ⟨x,H1,I1,r1,q1⟩=>?_
  obtain ⟨a,e,⟨xs,hq⟩,q⟩:=q1
  subst e
  cases r1
  obtain ⟨its,rv,p,hz⟩:=I1.tuple hq
  refine wpAny_pyIter_tuple (show s1.heap.IsTuple a its.toArray from p) ?_
  refine ⟨s1.heap.objs.size,[s1.heap.objs.size],_,_,H1,rfl,I1.kept (t':=s1.toks) fun b o e=>Heap.get?_push_of_some _ e,turn_tuple a _,⟨_,Heap.get?_push_size _ rfl,rfl,rfl⟩,fun b hb=>?_,q⟩
  have e : b = s1.heap.objs.size:=by simpa using hb
  subst e
  exact I1.fpOk (Nat.le_refl _) (I1.hok.fresh (Nat.le_refl _))
theorem range_it {pins : List (Addr × Obj)} {σ : St} {H : Hp} {s : Shared} {R : It→Hp→Prop} {E : Value→Shared→Prop} {lo hi : Int} {t u v : Tok} {tk : Nat} (I : Inv X pins σ H s) (h1 : -(2 ^ 62)≤lo) (h2 : lo < 2 ^ 62) (h3 : -(2 ^ 62)≤hi) (h4 : hi < 2 ^ 62)
    (q : R (Itr lo (hi - lo).toNat) H) : wpAny (model X.prog X.w) X.A (pyIter (.ref s.heap.objs.size)) (PIE X pins σ tg R) E { s with heap:=s.heap.push { cls:=.type "range",data:=.fields #[.int lo t,.int hi u,.int 1 v] },toks:=tk }:=by
  refine wpAny_pyIter_range (IsRange.new ..) (small_one h1 h2 h3 h4) ?_
  have I1 : Inv X pins σ H { s with heap:=s.heap.push { cls:=.type "range",data:=.fields #[.int lo t,.int hi u,.int 1 v] },toks:=tk }:=I.kept fun b o e=>Heap.get?_push_of_some _ e
  refine ⟨(s.heap.push { cls:=.type "range",data:=.fields #[.int lo t,.int hi u,.int 1 v] }).objs.size,[(s.heap.push { cls:=.type "range",data:=.fields #[.int lo t,.int hi u,.int 1 v] }).objs.size],_,_,H,rfl,
    I1.kept (t':=tk) fun b o e=>Heap.get?_push_of_some _ e,turn_range _ lo (hi - lo).toNat,?_,fun b hb=>?_,q⟩
  · have e1 : lo + ((0 : Nat) : Int) * 1 = lo:=by simp
    have e2 : (((hi - lo).toNat : Nat) : Int) - ((0 : Nat) : Int) = Builtin.Range.rangeSize lo hi 1:=by rw [rangeSize_one]; split <;> omega
    show IsRangeIter _ _ (lo + ((0 : Nat) : Int) * 1) ((((hi - lo).toNat : Nat) : Int) - ((0 : Nat) : Int)) 1
    rw [e1,e2]
    exact Heap.get?_push_size _ rfl
  · have e : b = (s.heap.push { cls:=.type "range",data:=.fields #[.int lo t,.int hi u,.int 1 v] }).objs.size:=by simpa using hb
    subst e
    exact I1.fpOk (Nat.le_refl _) (I1.hok.fresh (Nat.le_refl _))
def iRng1 (ta : TA) : TI:=fun σ H R=>ta σ H fun vs H1=>∃ j : Int,vs = [.int j]∧-(2 ^ 62)≤j∧j < 2 ^ 62∧R (Itr 0 j.toNat) H1
def iRng2 (ta : TA) : TI:=fun σ H R=>ta σ H fun vs H1=>∃ i j : Int,vs = [.int i,.int j]∧(-(2 ^ 62)≤i∧i < 2 ^ 62∧-(2 ^ 62)≤j∧j < 2 ^ 62)∧R (Itr i (j - i).toNat) H1
theorem pi_range1 {a : Expr} {ta : TA} {p pos : Pos} (hg : Gl X "range") (hm : X.mg "range" = none) (ha : PA X [a] ta) (hs : starEach [a] X.env = [(false,eval a X.env)]:=by rfl) : PI X tg (.Call (.Name "range" p) [a] [] pos) (iRng1 ta):=by
  intro pins s σ H R I h
  refine Call_ (ld_blt I hg hm boot_range (PyProof.Rows.callWith_type1 (thn (ha pos pins s σ H _ I h) fun us s1 ⟨vs,H1,I1,r1,q1⟩=>?_) hs rfl))
  obtain ⟨j,e,q1,q2,q⟩:=q1
  subst e
  cases r1 with
  | cons r rr =>
    cases rr
    obtain ⟨t,rfl⟩:=r
    exact call_range_1 (range_it I1 (by omega) (by omega) q1 q2 (by simpa using q))
theorem pi_range2 {a b : Expr} {ta : TA} {p pos : Pos} (hg : Gl X "range") (hm : X.mg "range" = none) (ha : PA X [a,b] ta) (hs : starEach [a,b] X.env = [(false,eval a X.env),(false,eval b X.env)]:=by rfl) (hs2 : starEach [b] X.env = [(false,eval b X.env)]:=by rfl) :
    PI X tg (.Call (.Name "range" p) [a,b] [] pos) (iRng2 ta):=by
  intro pins s σ H R I h
  refine Call_ (ld_blt I hg hm boot_range (PyProof.Rows.callWith_type1 (thn (ha pos pins s σ H _ I h) fun us s1 ⟨vs,H1,I1,r1,q1⟩=>?_) (by rw [hs,hs2]) (by rw [hs2]; rfl)))
  obtain ⟨i,j,e,⟨q1,q2,q3,q4⟩,q⟩:=q1
  subst e
  cases r1 with
  | cons r rr =>
    cases rr with
    | cons r' rr =>
      cases rr
      obtain ⟨t,rfl⟩:=r
      obtain ⟨t',rfl⟩:=r'
      exact call_range_2 (range_it I1 q1 q2 q3 q4 q)
def tFor (wi : TI) (g : TG) (tb : TS) : TS:=fun D σ H=>wi σ H fun J H1=>∃ W : Nat→Nat→St→Hp→Prop,(∃ m,W 0 m σ H1)∧∀ i m σ H,W i m σ H →
  (J.stop i H∧D.nx σ H)∨(J.go i H∧∃ N : St→Hp→Prop,(∀ σ' H',N σ' H'→∃ m',m' < m∧W (i + 1) m' σ' H')∧∀ x H',J.yld i H x H'→g x σ H' fun σ2 H2=>tb { D with nx:=N,ct:=N,bk:=D.nx } σ2 H2)
def pinsAt (fp : List Addr) (h : Heap) : List (Addr × Obj):=fp.filterMap fun b=>(h.get? b).map fun o=>(b,o)
theorem mem_pinsAt {fp : List Addr} {h : Heap} {b : Addr} {o : Obj} (hb : b ∈ fp) (e : h.get? b = some o) : (b,o) ∈ pinsAt fp h:=List.mem_filterMap.mpr ⟨b,hb,by rw [e]; rfl⟩
theorem of_pinsAt {fp : List Addr} {h : Heap} {p : Addr × Obj} (hp : p ∈ pinsAt fp h) : p.1 ∈ fp∧h.get? p.1 = some p.2:=by
  obtain ⟨b,hb,e⟩:=List.mem_filterMap.mp hp
  cases q : h.get? b with
  | none=>rw [q] at e; cases e
  | some o =>
    rw [q] at e
    have e' : (b,o) = p:=Option.some.inj e
    subst e'
    exact ⟨hb,q⟩
theorem Inv.pinned {pins : List (Addr × Obj)} {σ : St} {H : Hp} {s : Shared} {fp : List Addr} (I : Inv X pins σ H s) (hf : ∀ b ∈ fp,FpOk X pins H b) (ho : ∀ b ∈ fp,∃ o,s.heap.get? b = some o∧∀ v,o.data≠.cell v) : Inv X (pins ++ pinsAt fp s.heap) σ H s :=
  I.pins_of fun p hp=>(List.mem_append.mp hp).elim (fun z=>I.pin p (List.mem_append_right _ z)) fun z=>by
    obtain ⟨hb,e⟩:=of_pinsAt z
    obtain ⟨f0,f1,f2,_⟩:=hf p.1 hb
    obtain ⟨o,e',d⟩:=ho p.1 hb
    rw [e] at e'; cases e'
    exact ⟨e,f0,f1,f2,d⟩
theorem Inv.unpinned {pins pl : List (Addr × Obj)} {σ : St} {H : Hp} {s : Shared} (I : Inv X (pins ++ pl) σ H s) : Inv X pins σ H s:=I.pins_of fun p hp=>I.pin p (List.mem_append_right _ (List.mem_append_left _ hp))
theorem ps_for {iter : Expr} {body : List Stmt} {wi : TI} {g : TG} {tb : TS} {pos : Pos} (hp : PassesOwn (model X.prog X.w) X.A X.env X.xe) (hc : X.calm = true) (hi : PI X tg iter wi) (hg : PG X tg g) (hb : PSs X body tb)
    (hs : ∀ x,foldedSetIterable iter X.env x = pure x:=by intro _; rfl) : PS X (.For tg iter body [] pos) (tFor wi g tb):=by
  intro pins s σ H D I h
  refine wpAny_For (thn (hi pins s σ H _ I h) fun v s1 h1=>thn h1 fun itv s2 h2=>?_) hs
  obtain ⟨it,fp,tn,J,H2,e,I2,T,st2,f2,W,⟨m0,w0⟩,turn⟩:=h2
  subst e
  -- what stays true of the iterator's objects through the loop
  have stat : ∀ {H' : Hp},(∀ b ∈ fp,H' b = none)→∀ b ∈ fp,FpOk X pins H' b:=fun hn b hb=>⟨hn b hb,(f2 b hb).2⟩
  refine codeAny_forLoop_any (fun n s'=>∃ i σ' H',Inv X pins σ' H' s'∧tn i s'.heap∧(∀ b ∈ fp,H' b = none)∧W i n σ' H') ?_ m0 ⟨0,σ,H2,I2,st2,fun b hb=>(f2 b hb).1,w0⟩
  rintro n s3 ⟨i,σ3,H3,I3,st3,fr3,w3⟩
  rcases turn i n σ3 H3 w3 with ⟨stop,qn⟩ | ⟨go,N,hN,step⟩
  · refine wpAny_passesOwn hp (thn (T.done X rfl rfl rfl hc i pins s3 σ3 H3 X.xe I3 (stat fr3) st3 stop) fun r s4 ⟨hr,I4⟩=>?_)
    subst hr
    exact wpAny_execs_nil ⟨σ3,H3,I4,qn⟩
  · refine wpAny_passesOwn hp (thn (T.item X rfl rfl rfl hc i pins s3 σ3 H3 X.xe I3 (stat fr3) st3 go) fun r s4 ⟨u,hr,h4⟩=>?_)
    subst hr
    refine wpAny_passesOwn hp (thn h4 fun _ s5 ⟨x,H5,I5,r5,y5,st5,fr5⟩=>?_)
    have I5':=I5.pinned (stat fr5) (T.obj _ _ st5)
    refine wpAny_passesOwn hp (thn (hg _ s5 σ3 H5 x u _ I5' r5 (step x H5 y5)) fun _ s6 ⟨σ6,H6,I6,q6⟩=>?_)
    refine wpAny_passesOwn hp (thn (hb _ s6 σ6 H6 _ I6 q6) fun f s7 q7=>?_)
    have again : ∀ {σ7 : St} {H7 : Hp},Inv X (pins ++ pinsAt fp s5.heap) σ7 H7 s7→N σ7 H7→∃ m,m < n∧∃ i σ' H',Inv X pins σ' H' s7∧tn i s7.heap∧(∀ b ∈ fp,H' b = none)∧W i m σ' H':=fun {σ7 H7} I7 n7=>by
      obtain ⟨m',hm,w7⟩:=hN σ7 H7 n7
      refine ⟨m',hm,i + 1,σ7,H7,I7.unpinned,T.keep _ _ _ st5 fun b hb o e=>(I7.pin (b,o) (List.mem_append_right _ (List.mem_append_right _ (mem_pinsAt hb e)))).1,fun b hb=>?_,w7⟩
      obtain ⟨o,e,d⟩:=T.obj _ _ st5 b hb
      exact (I7.pin (b,o) (List.mem_append_right _ (List.mem_append_right _ (mem_pinsAt hb e)))).2.1
    cases f with
    | next=>obtain ⟨σ7,H7,I7,n7⟩:=q7; exact again I7 n7
    | cont=>obtain ⟨σ7,H7,I7,n7⟩:=q7; exact again I7 n7
    | brk=>obtain ⟨σ7,H7,I7,q7⟩:=q7; exact ⟨σ7,H7,I7.unpinned,q7⟩
    | ret v=>obtain ⟨x7,σ7,H7,I7,r7,q7⟩:=q7; exact ⟨x7,σ7,H7,I7.unpinned,r7,q7⟩
end
theorem for_list {K : PySem.W.Frag} {a : Addr} {xs : List V} {g : TG} {tb : TS} {D : Ends} {σ : St} {H : Hp} (Pv : Nat→St→Hp→Prop) (h0 : Pv 0 σ H) (hl : ∀ i σ H,i≤xs.length→Pv i σ H→SqL K H a xs)
    (hs : ∀ i x σ H,xs[i]? = some x→Pv i σ H→g x σ H fun σ2 H2=>tb { D with nx:=Pv (i + 1),ct:=Pv (i + 1),bk:=D.nx } σ2 H2) (hd : ∀ σ H,Pv xs.length σ H→D.nx σ H) :
    ∃ W : Nat→Nat→St→Hp→Prop,(∃ m,W 0 m σ H)∧∀ i m σ H,W i m σ H →
      ((Itl K a).stop i H∧D.nx σ H)∨((Itl K a).go i H∧∃ N : St→Hp→Prop,(∀ σ' H',N σ' H'→∃ m',m' < m∧W (i + 1) m' σ' H')∧∀ x H',(Itl K a).yld i H x H'→g x σ H' fun σ2 H2=>tb { D with nx:=N,ct:=N,bk:=D.nx } σ2 H2):=by
  refine ⟨fun i m σ H=>m = xs.length - i∧i≤xs.length∧Pv i σ H,⟨xs.length,by simp,Nat.zero_le _,h0⟩,?_⟩
  rintro i m σ H ⟨rfl,hi,p⟩
  have q:=hl i σ H hi p
  by_cases hlt : i < xs.length
  · refine .inr ⟨⟨xs,xs[i],q,by simp [hlt]⟩,Pv (i + 1),fun σ' H' p'=>⟨xs.length - (i + 1),by omega,rfl,hlt,p'⟩,fun x H' y=>?_⟩
    obtain ⟨e,y⟩:=y
    subst e
    exact hs i x σ _ (y xs q) p
  · have e : i = xs.length:=by omega
    subst e
    exact .inl ⟨⟨xs,q,Nat.le_refl _⟩,hd σ H p⟩
theorem for_range {lo : Int} {n : Nat} {g : TG} {tb : TS} {D : Ends} {σ : St} {H : Hp} (Pv : Nat→St→Hp→Prop) (h0 : Pv 0 σ H)
    (hs : ∀ i σ H,i < n→Pv i σ H→g (.int (lo + i)) σ H fun σ2 H2=>tb { D with nx:=Pv (i + 1),ct:=Pv (i + 1),bk:=D.nx } σ2 H2) (hd : ∀ σ H,Pv n σ H→D.nx σ H) :
    ∃ W : Nat→Nat→St→Hp→Prop,(∃ m,W 0 m σ H)∧∀ i m σ H,W i m σ H →
      ((Itr lo n).stop i H∧D.nx σ H)∨((Itr lo n).go i H∧∃ N : St→Hp→Prop,(∀ σ' H',N σ' H'→∃ m',m' < m∧W (i + 1) m' σ' H')∧∀ x H',(Itr lo n).yld i H x H'→g x σ H' fun σ2 H2=>tb { D with nx:=N,ct:=N,bk:=D.nx } σ2 H2):=by
  refine ⟨fun i m σ H=>m = n - i∧i≤n∧Pv i σ H,⟨n,by simp,Nat.zero_le _,h0⟩,?_⟩
  rintro i m σ H ⟨rfl,hi,p⟩
  by_cases hlt : i < n
  · refine .inr ⟨hlt,Pv (i + 1),fun σ' H' p'=>⟨n - (i + 1),by omega,rfl,hlt,p'⟩,fun x H' y=>?_⟩
    obtain ⟨e,y⟩:=y
    subst e y
    exact hs i σ _ hlt p
  · have e : i = n:=by omega
    subst e
    exact .inl ⟨Nat.le_refl _,hd σ H p⟩
end L2
namespace L2
open PySem PySem.Spec PyProof.Rows
abbrev R2:=V→V→Hp→VK→Prop
def OpR (X : Cx) (f : Value→Value→Sem Value) (r : R2) : Prop :=
  ∀ (pins : List (Addr × Obj)) (s : Shared) (σ : St) (H : Hp) (x y : V) (v u : Value) (Q : VK),Inv X pins σ H s→RelV x v→RelV y u→r x y H Q →
    wpAny (model X.prog X.w) X.A (f v u) (EP X pins σ Q) X.xe s
def UnR (X : Cx) (f : Value→Sem Value) (r : V→Hp→VK→Prop) : Prop :=
  ∀ (pins : List (Addr × Obj)) (s : Shared) (σ : St) (H : Hp) (x : V) (v : Value) (Q : VK),Inv X pins σ H s→RelV x v→r x H Q →
    wpAny (model X.prog X.w) X.A (f v) (EP X pins σ Q) X.xe s
def CallR (X : Cx) (f : Value) (r : List V→Hp→VK→Prop) : Prop :=
  ∀ (pins : List (Addr × Obj)) (s : Shared) (σ : St) (H : Hp) (xs : List V) (us : List Value) (Q : VK),Inv X pins σ H s→Vals xs us→r xs H Q →
    wpAny (model X.prog X.w) X.A (call f us) (EP X pins σ Q) X.xe s
def tOp (r : R2) (ta tb : TE) : TE:=fun σ H Q=>ta σ H fun x H1=>tb σ H1 fun y H2=>r x y H2 Q
def tUn (r : V→Hp→VK→Prop) (ta : TE) : TE:=fun σ H Q=>ta σ H fun x H1=>r x H1 Q
def rI (C : Int→Int→Prop) (g : Int→Int→V) : R2:=fun x y H Q=>∃ i j,x = .int i∧y = .int j∧C i j∧Q (g i j) H
def rI0 (g : Int→Int→V) : R2:=fun x y H Q=>∃ i j,x = .int i∧y = .int j∧Q (g i j) H
def rU (g : Int→V) : V→Hp→VK→Prop:=fun x H Q=>∃ i,x = .int i∧Q (g i) H
section
variable {X : Cx} {a b c : Expr} {ta tb tc : TE} {pos : Pos}
theorem binT (ha : PE X a ta) (hb : PE X b tb) {pins : List (Addr × Obj)} {s : Shared} {σ : St} {H : Hp} {R : V→V→Hp→Prop} (I : Inv X pins σ H s)
    (h : ta σ H fun x H1=>tb σ H1 fun y H2=>R x y H2) {Q : Value→Shared→Prop} {f : Value→Value→Sem Value}
    (hf : ∀ v u s2 x y H2,Inv X pins σ H2 s2→RelV x v→RelV y u→R x y H2→wpAny (model X.prog X.w) X.A (f v u) Q X.xe s2) :
    wpAny (model X.prog X.w) X.A (eval a X.env) (fun v s₁=>wpAny (model X.prog X.w) X.A (eval b X.env) (fun u s₂=>wpAny (model X.prog X.w) X.A (f v u) Q X.xe s₂) X.xe s₁) X.xe s:=by
  refine thn (ha pins s σ H _ I h) fun v s1 ⟨x,H1,I1,r1,q1⟩=>?_
  refine thn (hb pins s1 σ H1 _ I1 q1) fun u s2 ⟨y,H2,I2,r2,q2⟩=>?_
  exact hf v u s2 x y H2 I2 r1 r2 q2
theorem pe_op {op : Operator} {r : R2} (ho : OpR X (binaryOp op) r) (ha : PE X a ta) (hb : PE X b tb) : PE X (.BinOp a op b pos) (tOp r ta tb):=by
  intro pins s σ H Q I h
  exact wpAny_BinOp (binT ha hb I h fun v u s2 x y H2 I2 rx ry q=>ho pins s2 σ H2 x y v u Q I2 rx ry q)
theorem pe_un {op : UnaryOp} {r : V→Hp→VK→Prop} (ho : UnR X (unaryOp op) r) (ha : PE X a ta) : PE X (.UnaryOp op a pos) (tUn r ta):=by
  intro pins s σ H Q I h
  exact UnaryOp_ (thn (ha pins s σ H _ I h) fun v s1 ⟨x,H1,I1,r1,q1⟩=>ho pins s1 σ H1 x v Q I1 r1 q1)
theorem opI {f : Value→Value→Sem Value} {C : Int→Int→Prop} {g : Int→Int→Int}
    (rule : ∀ (i j : Int) (t u : Tok) (s : Shared) (Q : Value→Shared→Prop) (E : Value→Shared→Prop),C i j→Q (.int (g i j) s.toks) { s with toks:=s.toks + 1 }→wpAny (model X.prog X.w) X.A (f (.int i t) (.int j u)) Q E s) :
    OpR X f (rI C fun i j=>.int (g i j)):=by
  intro pins s σ H x y v u Q I rx ry h
  obtain ⟨i,j,rfl,rfl,hc,q⟩:=h
  obtain ⟨t,rfl⟩:=rx
  obtain ⟨t',rfl⟩:=ry
  exact rule i j t t' s _ _ hc ⟨.int (g i j),H,I.tok _,⟨_,rfl⟩,q⟩
theorem opI0 {f : Value→Value→Sem Value} {g : Int→Int→Int}
    (rule : ∀ (i j : Int) (t u : Tok) (s : Shared) (Q : Value→Shared→Prop) (E : Value→Shared→Prop),Q (.int (g i j) s.toks) { s with toks:=s.toks + 1 }→wpAny (model X.prog X.w) X.A (f (.int i t) (.int j u)) Q E s) :
    OpR X f (rI0 fun i j=>.int (g i j)):=by
  intro pins s σ H x y v u Q I rx ry h
  obtain ⟨i,j,rfl,rfl,q⟩:=h
  obtain ⟨t,rfl⟩:=rx
  obtain ⟨t',rfl⟩:=ry
  exact rule i j t t' s _ _ ⟨.int (g i j),H,I.tok _,⟨_,rfl⟩,q⟩
theorem opB0 {f : Value→Value→Sem Value} {g : Int→Int→Bool}
    (rule : ∀ (i j : Int) (t u : Tok) (s : Shared) (Q : Value→Shared→Prop) (E : Value→Shared→Prop),Q (.bool (g i j)) s→wpAny (model X.prog X.w) X.A (f (.int i t) (.int j u)) Q E s) :
    OpR X f (rI0 fun i j=>.bl (g i j)):=by
  intro pins s σ H x y v u Q I rx ry h
  obtain ⟨i,j,rfl,rfl,q⟩:=h
  obtain ⟨t,rfl⟩:=rx
  obtain ⟨t',rfl⟩:=ry
  exact rule i j t t' s _ _ ⟨.bl (g i j),H,I,rfl,q⟩
def CPow (i j : Int) : Prop:=0≤j∧j≤1000000∧i.natAbs < 2 ^ 64
def CMul (i j : Int) : Prop:=(-(2 ^ 64) < i∧i < 2 ^ 64)∨(-(2 ^ 64) < j∧j < 2 ^ 64)
theorem CMul.ok {i j : Int} (h : CMul i j) : IntMulOk i j:=by
  rcases h with ⟨h1,h2⟩ | ⟨h1,h2⟩
  · exact .of_left (intBits_le_64 h1 h2)
  · exact .of_right (intBits_le_64 h1 h2)
theorem op_add : OpR X (binaryOp .Add) (rI0 fun i j=>.int (i + j)):=opI0 fun _ _ _ _ _ _ _ q=>add_int q
theorem op_sub : OpR X (binaryOp .Sub) (rI0 fun i j=>.int (i - j)):=opI0 fun _ _ _ _ _ _ _ q=>sub_int q
theorem op_mod : OpR X (binaryOp .Mod) (rI (fun _ j=>0 < j) fun i j=>.int (i % j)):=opI fun i j _ _ _ _ _ hc q=>by
  have h1 : (0 : Int) < j:=hc
  exact mod_int' (by omega) (by rw [Int.fmod_eq_emod_of_nonneg i (by omega)]; exact q)
theorem op_pow : OpR X (binaryOp .Pow) (rI CPow fun i j=>.int (i ^ j.toNat)):=opI fun _ _ _ _ _ _ _ hc q=>pow_int_small hc.1 hc.2.1 hc.2.2 q
theorem unI {f : Value→Sem Value} {g : Int→Int}
    (rule : ∀ (i : Int) (t : Tok) (s : Shared) (Q : Value→Shared→Prop) (E : Value→Shared→Prop),Q (.int (g i) s.toks) { s with toks:=s.toks + 1 }→wpAny (model X.prog X.w) X.A (f (.int i t)) Q E s) :
    UnR X f (rU fun i=>.int (g i)):=by
  intro pins s σ H x v Q I rx h
  obtain ⟨i,rfl,q⟩:=h
  obtain ⟨t,rfl⟩:=rx
  exact rule i t s _ _ ⟨.int (g i),H,I.tok _,⟨_,rfl⟩,q⟩
theorem un_neg : UnR X (unaryOp .USub) (rU fun i=>.int (-i)):=unI fun _ _ _ _ _ q=>neg_int q
end
def scal : V→V→Bool
  | .non,.non=>true | .non,.int _=>true | .int _,.non=>true | .non,.bl _=>true | .bl _,.non=>true | .non,.str _=>true | .str _,.non=>true
  | .int _,.int _=>true | .bl _,.bl _=>true | .str _,.str _=>true | .byt _,.byt _=>true
  | .int _,.str _=>true | .str _,.int _=>true | .bl _,.str _=>true | .str _,.bl _=>true
  | _,_=>false
def rEq : R2:=fun x y H Q=>scal x y = true∧Q (.bl (decide (x = y))) H
def rNe : R2:=fun x y H Q=>scal x y = true∧Q (.bl (!decide (x = y))) H
theorem dec_int {i j : Int} : decide (V.int i = V.int j) = (i == j):=by
  rw [Bool.eq_iff_iff]
  simp
theorem dec_bl {i j : Bool} : decide (V.bl i = V.bl j) = (i == j):=by
  rw [Bool.eq_iff_iff]
  simp
theorem dec_str {i j : Str} : decide (V.str i = V.str j) = (i == j):=by
  rw [Bool.eq_iff_iff]
  simp
theorem dec_byt {i j : Array UInt8} : decide (V.byt i = V.byt j) = (i.toList == j.toList):=by
  rw [Bool.eq_iff_iff]
  cases i
  cases j
  simp
section
variable {X : Cx} {a b c : Expr} {ta tb tc : TE} {pos : Pos}
theorem fin_bl {pins : List (Addr × Obj)} {σ : St} {H : Hp} {s : Shared} {Q : VK} {k k' : Bool} (I : Inv X pins σ H s) (q : Q (.bl k) H) (e : k = k') : EP X pins σ Q (.bool k') s:=by
  subst e
  exact ⟨.bl k,H,I,rfl,q⟩
theorem op_eq : OpR X (compareOp .Eq) rEq:=by
  intro pins s σ H x y v u Q I rx ry h
  obtain ⟨hs,q⟩:=h
  cases x with
  | non =>
    cases rx
    cases y with
    | non=>cases ry; exact PySem.EqNone.eq_none_none (fin_bl I q (by simp))
    | bl j=>cases ry; exact PySem.EqNone.eq_none_bool (fin_bl I q (by simp))
    | int j=>obtain ⟨t',rfl⟩:=ry; exact PySem.EqNone.eq_none_int (fin_bl I q (by simp))
    | str j=>obtain ⟨t',rfl⟩:=ry; exact PySem.EqNone.eq_none_str (fin_bl I q (by simp))
    | _=>exact absurd (show false = true from hs) Bool.false_ne_true
  | bl i =>
    cases rx
    cases y with
    | non=>cases ry; exact PySem.EqNone.eq_bool_none (fin_bl I q (by simp))
    | bl j=>cases ry; exact eq_bool (fin_bl I q dec_bl)
    | str j=>obtain ⟨t',rfl⟩:=ry; exact PySem.EqMixed.eq_bool_str (fin_bl I q (by simp))
    | _=>exact absurd (show false = true from hs) Bool.false_ne_true
  | int i =>
    obtain ⟨t,rfl⟩:=rx
    cases y with
    | non=>cases ry; exact PySem.EqNone.eq_int_none (fin_bl I q (by simp))
    | int j=>obtain ⟨t',rfl⟩:=ry; exact eq_int (fin_bl I q dec_int)
    | str j=>obtain ⟨t',rfl⟩:=ry; exact PySem.EqMixed.eq_int_str (fin_bl I q (by simp))
    | _=>exact absurd (show false = true from hs) Bool.false_ne_true
  | str i =>
    obtain ⟨t,rfl⟩:=rx
    cases y with
    | non=>cases ry; exact PySem.EqNone.eq_str_none (fin_bl I q (by simp))
    | bl j=>cases ry; exact PySem.EqMixed.eq_str_bool (fin_bl I q (by simp))
    | int j=>obtain ⟨t',rfl⟩:=ry; exact PySem.EqMixed.eq_str_int (fin_bl I q (by simp))
    | str j=>obtain ⟨t',rfl⟩:=ry; exact eq_str (fin_bl I q dec_str)
    | _=>exact absurd (show false = true from hs) Bool.false_ne_true
  | byt i =>
    obtain ⟨t,rfl⟩:=rx
    cases y with
    | byt j=>obtain ⟨t',rfl⟩:=ry; exact PySem.W.eq_bytes (fin_bl I q dec_byt)
    | _=>exact absurd (show false = true from hs) Bool.false_ne_true
  | _=>cases y <;> exact absurd (show false = true from hs) Bool.false_ne_true
theorem op_ne : OpR X (compareOp .NotEq) rNe:=by
  intro pins s σ H x y v u Q I rx ry h
  obtain ⟨hs,q⟩:=h
  cases x with
  | non =>
    cases rx
    cases y with
    | non=>cases ry; exact PySem.EqNone.ne_none_none (fin_bl I q (by simp))
    | bl j=>cases ry; exact PySem.EqNone.ne_none_bool (fin_bl I q (by simp))
    | int j=>obtain ⟨t',rfl⟩:=ry; exact PySem.EqNone.ne_none_int (fin_bl I q (by simp))
    | str j=>obtain ⟨t',rfl⟩:=ry; exact PySem.EqNone.ne_none_str (fin_bl I q (by simp))
    | _=>exact absurd (show false = true from hs) Bool.false_ne_true
  | bl i =>
    cases rx
    cases y with
    | non=>cases ry; exact PySem.EqNone.ne_bool_none (fin_bl I q (by simp))
    | bl j=>cases ry; exact ne_bool (fin_bl I q (congrArg not dec_bl))
    | str j=>obtain ⟨t',rfl⟩:=ry; exact PySem.EqMixed.ne_bool_str (fin_bl I q (by simp))
    | _=>exact absurd (show false = true from hs) Bool.false_ne_true
  | int i =>
    obtain ⟨t,rfl⟩:=rx
    cases y with
    | non=>cases ry; exact PySem.EqNone.ne_int_none (fin_bl I q (by simp))
    | int j=>obtain ⟨t',rfl⟩:=ry; exact ne_int (fin_bl I q (congrArg not dec_int))
    | str j=>obtain ⟨t',rfl⟩:=ry; exact PySem.EqMixed.ne_int_str (fin_bl I q (by simp))
    | _=>exact absurd (show false = true from hs) Bool.false_ne_true
  | str i =>
    obtain ⟨t,rfl⟩:=rx
    cases y with
    | non=>cases ry; exact PySem.EqNone.ne_str_none (fin_bl I q (by simp))
    | bl j=>cases ry; exact PySem.EqMixed.ne_str_bool (fin_bl I q (by simp))
    | int j=>obtain ⟨t',rfl⟩:=ry; exact PySem.EqMixed.ne_str_int (fin_bl I q (by simp))
    | str j=>obtain ⟨t',rfl⟩:=ry; exact ne_str (fin_bl I q (congrArg not dec_str))
    | _=>exact absurd (show false = true from hs) Bool.false_ne_true
  | byt i =>
    obtain ⟨t,rfl⟩:=rx
    cases y with
    | byt j=>obtain ⟨t',rfl⟩:=ry; exact PySem.W.ne_bytes (fin_bl I q (congrArg not dec_byt))
    | _=>exact absurd (show false = true from hs) Bool.false_ne_true
  | _=>cases y <;> exact absurd (show false = true from hs) Bool.false_ne_true
theorem op_lt : OpR X (compareOp .Lt) (rI0 fun i j=>.bl (decide (i < j))):=opB0 fun _ _ _ _ _ _ _ q=>lt_int q
theorem op_le : OpR X (compareOp .LtE) (rI0 fun i j=>.bl (decide (i≤j))):=opB0 fun _ _ _ _ _ _ _ q=>le_int q
theorem op_gt : OpR X (compareOp .Gt) (rI0 fun i j=>.bl (decide (j < i))):=opB0 fun _ _ _ _ _ _ _ q=>gt_int q
theorem op_ge : OpR X (compareOp .GtE) (rI0 fun i j=>.bl (decide (j≤i))):=opB0 fun _ _ _ _ _ _ _ q=>ge_int q
theorem op_isN : OpR X (compareOp .Is) (fun x y H Q=>y = .non∧Q (.bl (decide (x = .non))) H):=by
  intro pins s σ H x y v u Q I rx ry h
  obtain ⟨rfl,q⟩:=h
  cases ry
  refine is_none_gen (fin_bl I q ?_)
  cases x <;> first
    | (cases rx; rfl)
    | (obtain ⟨t,rfl⟩:=rx; rfl)
theorem op_notN : OpR X (compareOp .IsNot) (fun x y H Q=>y = .non∧Q (.bl (!decide (x = .non))) H):=by
  intro pins s σ H x y v u Q I rx ry h
  obtain ⟨rfl,q⟩:=h
  cases ry
  refine isnot_none_gen (fin_bl I q ?_)
  cases x <;> first
    | (cases rx; rfl)
    | (obtain ⟨t,rfl⟩:=rx; rfl)
theorem OpR.or {f : Value→Value→Sem Value} {r r' : R2} (h : OpR X f r) (h' : OpR X f r') : OpR X f (fun x y H Q=>r x y H Q∨r' x y H Q):=by
  intro pins s σ H x y v u Q I rx ry q
  rcases q with q | q
  · exact h pins s σ H x y v u Q I rx ry q
  · exact h' pins s σ H x y v u Q I rx ry q
theorem nomark (b : Expr) {op : CmpOp} (h : op≠.In:=by decide) (h2 : op≠.NotIn:=by decide) : behindInMarks op b = false:=by
  have e1 : (op == CmpOp.In) = false:=by cases op <;> first | rfl | exact absurd rfl h
  have e2 : (op == CmpOp.NotIn) = false:=by cases op <;> first | rfl | exact absurd rfl h2
  cases b <;> simp [behindInMarks,e1,e2]
theorem pe_cmpR {op : CmpOp} {r : R2} (ho : OpR X (compareOp op) r) (ha : PE X a ta) (hb : PE X b tb) (hm : behindInMarks op b = false) : PE X (.Compare a [op] [b] pos) (tOp r ta tb):=by
  intro pins s σ H Q I h
  exact wpAny_Compare1 (binT ha hb I h fun v u s2 x y H2 I2 rx ry q=>ho pins s2 σ H2 x y v u Q I2 rx ry q) hm
def tTest (t : TE) : TT:=fun σ H Q=>t σ H fun x H'=>∃ k,x = .bl k∧Q k H'
theorem pt_cmpR {op : CmpOp} {r : R2} (ho : OpR X (compareOp op) r) (ha : PE X a ta) (hb : PE X b tb) (hm : behindInMarks op b = false) : PT X (.Compare a [op] [b] pos) (tTest (tOp r ta tb)):=by
  intro pins s σ H Q I h
  refine wpAny_isTrue_Compare1 (thn (ha pins s σ H _ I h) fun v s1 ⟨x,H1,I1,r1,q1⟩=>thn (hb pins s1 σ H1 _ I1 q1) fun u s2 ⟨y,H2,I2,r2,q2⟩ =>
    thn (ho pins s2 σ H2 x y v u _ I2 r1 r2 q2) fun c s3 ⟨z,H3,I3,r3,k,e,q3⟩=>?_) hm
  subst e
  cases r3
  exact wpAny_truthy_bool ⟨H3,I3,q3⟩
def tChain (r r' : R2) (ta tb tc : TE) : TE:=fun σ H Q=>ta σ H fun x H1=>tb σ H1 fun y H2=>r x y H2 fun z H3=>∃ k,z = .bl k ∧
  (if k = true then tc σ H3 fun w' H4=>r' y w' H4 Q else Q (.bl false) H3)
theorem pt_chain {op op' : CmpOp} {r r' : R2} (ho : OpR X (compareOp op) r) (ho' : OpR X (compareOp op') r') (ha : PE X a ta) (hb : PE X b tb) (hc : PE X c tc)
    (hm : lastMarks [op,op'] [b,c] = false:=by with_unfolding_all rfl) : PT X (.Compare a [op,op'] [b,c] pos) (tTest (tChain r r' ta tb tc)):=by
  intro pins s σ H Q I h
  refine isTrue_chain (thn (ha pins s σ H _ I h) fun v s1 ⟨x,H1,I1,r1,q1⟩=>test_link (thn (hb pins s1 σ H1 _ I1 q1) fun u s2 ⟨y,H2,I2,r2,q2⟩ =>
    thn (ho pins s2 σ H2 x y v u _ I2 r1 r2 q2) fun d s3 ⟨z,H3,I3,r3,k,e,q3⟩=>?_)) hm
  subst e
  cases r3
  refine wpAny_truthy_bool ?_
  cases k with
  | false =>
    obtain ⟨k',e',q'⟩:=q3
    cases e'
    exact ite_ff ⟨H3,I3,q'⟩
  | true =>
    refine ite_tt (test_last (thn (hc pins s3 σ H3 _ I3 q3) fun w' s4 ⟨z',H4,I4,r4,q4⟩=>thn (ho' pins s4 σ H4 y z' u w' _ I4 r2 r4 q4) fun d' s5 ⟨z2,H5,I5,r5,k2,e2,q5⟩=>?_))
    subst e2
    cases r5
    exact wpAny_truthy_bool ⟨H5,I5,q5⟩
theorem line63 : (sizeLine : Nat) < 2 ^ 63:=by rw [sizeLine_eq]; decide
theorem vals1 {x : V} {us : List Value} (r : Vals [x] us) : ∃ u,us = [u]∧RelV x u:=by
  cases r with
  | cons r1 r2=>cases r2; exact ⟨_,rfl,r1⟩
theorem vals2 {x y : V} {us : List Value} (r : Vals [x,y] us) : ∃ u w',us = [u,w']∧RelV x u∧RelV y w':=by
  cases r with
  | cons r1 r2 =>
    cases r2 with
    | cons r3 r4=>cases r4; exact ⟨_,_,rfl,r1,r3⟩
theorem call_max2 (hc : X.calm = true) : CallR X (.builtin "max") (fun xs H Q=>∃ i j,xs = [.int i,.int j]∧Q (.int (if j > i then j else i)) H):=by
  intro pins s σ H xs us Q I r h
  obtain ⟨i,j,rfl,q⟩:=h
  obtain ⟨u,w',rfl,⟨t,rfl⟩,⟨t',rfl⟩⟩:=vals2 r
  refine max_two_ints (I.ok.hd hc) fun h' tk k=>⟨_,H,I.kept k,?_,q⟩
  by_cases hj : j > i
  · rw [if_pos hj,if_pos hj]; exact ⟨_,rfl⟩
  · rw [if_neg hj,if_neg hj]; exact ⟨_,rfl⟩
theorem call_min2 (hc : X.calm = true) : CallR X (.builtin "min") (fun xs H Q=>∃ i j,xs = [.int i,.int j]∧Q (.int (if j < i then j else i)) H):=by
  intro pins s σ H xs us Q I r h
  obtain ⟨i,j,rfl,q⟩:=h
  obtain ⟨u,w',rfl,⟨t,rfl⟩,⟨t',rfl⟩⟩:=vals2 r
  refine min_two_ints (I.ok.hd hc) fun h' tk k=>⟨_,H,I.kept k,?_,q⟩
  by_cases hj : j < i
  · rw [if_pos hj,if_pos hj]; exact ⟨_,rfl⟩
  · rw [if_neg hj,if_neg hj]; exact ⟨_,rfl⟩
end
end L2
namespace L2
open PySem PySem.Spec PyProof.Rows
structure ObjM (h : Heap) (x dx C : Addr) (mA : Str→Option Value) : Prop where
  obj : h.get? x = some (PySem.W.instObj C dx)
  ns : h.Ns1 dx mA
  ne : dx≠x
theorem lookIn_ns {h : Heap} {dx : Addr} {mA : Str→Option Value} (n : h.Ns1 dx mA) : ∃ od,h.get? dx = some od∧∀ name,PySem.W.lookIn name od = some (mA name):=by
  obtain ⟨o,es,ep,ho,hd,hk,_,hm⟩:=n
  refine ⟨o,ho,fun name=>?_⟩
  have e:=hm name
  unfold nsFind findBy at e
  rw [← Array.find?_toList] at e
  unfold PySem.W.lookIn
  rw [hd]
  dsimp only
  split
  · rename_i y q
    rw [q] at e
    exact congrArg some e
  · rename_i q
    rw [q] at e
    have a : es.toList.any (·.refKey) = false:=by
      rw [List.any_eq_false]
      intro y hy
      obtain ⟨z,t,hkey⟩:=hk y (Array.mem_toList_iff.mp hy)
      simp [DictEntry.refKey,hkey]
    have a' : ¬ es.toList.any (·.refKey) = true:=by rw [a]; exact Bool.false_ne_true
    rw [if_neg a']
    exact congrArg some e
theorem ObjM.look {h : Heap} {x dx C : Addr} {mA : Str→Option Value} (I : ObjM h x dx C mA) : ∃ od,PySem.W.InstAt h x (PySem.W.instObj C dx) C (some od)∧∀ name,PySem.W.lookIn name od = some (mA name) :=
  let ⟨od,ho,hl⟩:=lookIn_ns I.ns
  ⟨od,⟨I.obj,rfl,rfl,ho⟩,hl⟩
section
variable {prog : Program} {w : World} {A : Around} {E : Value→Shared→Prop} {s : Shared} {K : PySem.W.Frag} {x dx C f : Addr} {mA : Str→Option Value} {name : Str} {v : Value}
end
def putF (f : Str) (v : V) : List (Str × V)→List (Str × V)
  | []=>[(f,v)]
  | (g,x) :: r=>if g = f then (g,v) :: r else (g,x) :: putF f v r
section
variable {P : Program} {w : World} {H H' : Hp} {h h' : Heap} {a C dx : Addr} {fs fs' : List (Str × V)}
theorem ins_get (hok : HOk P w H h) (e : H a = some (.ins C dx fs)) : ∃ mA,ObjM h a dx C mA∧(∀ f,RelO (fs.lookup f) (mA f))∧PySem.Within mA (fs.map (·.1))∧fs.length≤1000∧H dx = some (.own a):=by
  obtain ⟨d,z,ne,ob,mA,n,r,q⟩:=(show ObjOk P w H h a (.ins C dx fs) from hok a _ e)
  exact ⟨mA,⟨ob,n,ne⟩,r,q,z,d⟩
end
structure Cls (K : PySem.W.Frag) (C : Addr) : Prop where
  pg : PySem.W.plainGet K C Str.empty = true
  hd : PySem.W.hasDictIn K C = true
  po : PySem.W.plainOver K C = true
  sa : PySem.W.findIn K (.ref C) "__setattr__" = some (some (.builtin "object.__setattr__"))
theorem Cls.get {K : PySem.W.Frag} {C : Addr} (c : Cls K C) (f : Str) : PySem.W.plainGet K C f = true:=c.pg
structure Con (K : PySem.W.Frag) (C : Addr) (f : Str) (v : V) (u : Value) : Prop where
  at_ : PySem.W.findIn K (.ref C) f = some (some u)
  rel : RelV v u
  get : PySem.W.specialIn K u "__get__" = some none
  cp : PySem.W.copiedNames.contains f = false
structure Meth (K : PySem.W.Frag) (C : Addr) (m : Str) (f : Addr) : Prop where
  at_ : PySem.W.findIn K (.ref C) m = some (some (.ref f))
  fn : PySem.W.isFn K (.ref f) = true
  kp : PySem.W.keepIn K (.ref f) = true
section
variable {X : Cx} {pins : List (Addr × Obj)} {σ : St} {H : Hp} {s : Shared} {a C dx : Addr} {fs : List (Str × V)} {f : Str} {v : V} {A : Around} {E : Value→Shared→Prop}
end
section
variable {X : Cx} {o e value : Expr} {f : Str} {pos pos' tpos : Pos} {ta tv : TE}
end
section
variable {X : Cx} {pins : List (Addr × Obj)} {σ : St} {H : Hp} {s : Shared} {A : Around} {E : Value→Shared→Prop} {Q : Value→Shared→Prop} {c : Value} {b : Bool}
inductive TyOf (K : PySem.W.Frag) (H : Hp) : V→Value→Prop where
  | non : TyOf K H .non (.type "NoneType")
  | bl (x : Bool) : TyOf K H (.bl x) (.type "bool")
  | int (i : Int) : TyOf K H (.int i) (.type "int")
  | str (x : Str) : TyOf K H (.str x) (.type "str")
  | flt (x : UInt64) : TyOf K H (.flt x) (.type "float")
  | lst {a : Addr} {xs : List V} (e : H a = some (.lst xs)) : TyOf K H (.ref a) (.type "list")
  | frz {a : Addr} {o : Obj} {xs : List V} (e : H a = some (.frz o (.lst xs))) : TyOf K H (.ref a) (.type "list")
  | tup {a : Addr} {xs : List V} (e : H a = some (.tup xs)) : TyOf K H (.ref a) (.type "tuple")
  | dK {a : Addr} {kvs : List (Key × V)} (e : H a = some (.dK kvs)) : TyOf K H (.ref a) (.type "dict")
  | dT {a : Addr} {kvs : List (List Key × V)} (e : H a = some (.dT kvs)) : TyOf K H (.ref a) (.type "dict")
  | ins {a C dx : Addr} {fs : List (Str × V)} (e : H a = some (.ins C dx fs)) (cl : Cls K C) (ha : PySem.W.findIn K (.ref C) "__class__" = some (some (.builtin "object.__class__")))
      (hn : PySem.W.specialIn K (.builtin "object.__class__") "__get__" = some (some (.builtin "getset_descriptor.__get__"))) (htk : PySem.W.takesIn K (.builtin "object.__class__") = some true)
      (hm : PySem.W.mroIn K C (.type "object") = some true) : TyOf K H (.ref a) (.ref C)
theorem isinst_ok {x : V} {u t : Value} (I : Inv X pins σ H s) (rx : RelV x u) (ty : TyOf X.K H x t) (e : PySem.W.kitOne X.K t c = some b) (h : ∀ tk,Q (.bool b) { s with toks:=tk }) :
    wpAny (model X.prog X.w) A (call (.builtin "isinstance") [u,c]) Q E s:=by
  cases ty with
  | non=>cases (show u = Value.none from rx); exact PySem.W.kia_one PySem.W.kitx_none I.kIn True.intro e (fun z=>nomatch z) h
  | bl y=>cases (show u = Value.bool y from rx); exact PySem.W.kia_one PySem.W.kitx_bool I.kIn True.intro e (fun z=>nomatch z) h
  | int i=>obtain ⟨t,q⟩:=(show ∃ t,u = Value.int i t from rx); cases q; exact PySem.W.kia_one PySem.W.kitx_int I.kIn True.intro e (fun z=>nomatch z) h
  | str y=>obtain ⟨t,q⟩:=(show ∃ t,u = Value.str y t from rx); cases q; exact PySem.W.kia_one PySem.W.kitx_str I.kIn True.intro e (fun z=>nomatch z) h
  | flt y=>obtain ⟨t,q⟩:=(show ∃ t,u = Value.float y t from rx); cases q; exact PySem.W.kia_one PySem.W.kitx_float I.kIn True.intro e (fun z=>nomatch z) h
  | @lst a xs ea =>
    cases (show u = Value.ref a from rx)
    obtain ⟨_,_,n,_,h1⟩:=(show ObjOk X.prog X.w H s.heap a (.lst xs) from I.hok a _ ea)
    exact PySem.W.kia_one PySem.W.kitx_list I.kIn ⟨_,h1,rfl⟩ e (fun z=>nomatch z) h
  | @frz a ob xs ea =>
    cases (show u = Value.ref a from rx)
    obtain ⟨_,_,_,n,_,h1⟩:=(show ObjOk X.prog X.w H s.heap a (.frz ob (.lst xs)) from I.hok a _ ea)
    exact PySem.W.kia_one PySem.W.kitx_list I.kIn ⟨_,h1,rfl⟩ e (fun z=>nomatch z) h
  | @tup a xs ea =>
    cases (show u = Value.ref a from rx)
    obtain ⟨_,_,_,p⟩:=(show ObjOk X.prog X.w H s.heap a (.tup xs) from I.hok a _ ea)
    obtain ⟨o,h1,h2,_⟩:=p
    exact PySem.W.kia_one PySem.W.kitx_tuple I.kIn ⟨o,h1,h2⟩ e (fun z=>nomatch z) h
  | @dK a kvs ea =>
    cases (show u = Value.ref a from rx)
    obtain ⟨_,_,vs,_,p⟩:=(show ObjOk X.prog X.w H s.heap a (.dK kvs) from I.hok a _ ea)
    obtain ⟨o,es,ep,h1,h2,_⟩:=p
    exact PySem.W.kia_one PySem.W.kitx_dict I.kIn ⟨o,h1,h2.1⟩ e (fun z=>nomatch z) h
  | @dT a kvs ea =>
    cases (show u = Value.ref a from rx)
    obtain ⟨_,_,xs,_,o,es,ep,h1,h2,_⟩:=(show ObjOk X.prog X.w H s.heap a (.dT kvs) from I.hok a _ ea)
    exact PySem.W.kia_one PySem.W.kitx_dict I.kIn ⟨o,h1,h2.1⟩ e (fun z=>nomatch z) h
  | @ins a C dx fs ea cl ha hn htk hm =>
    cases (show u = Value.ref a from rx)
    obtain ⟨mA,O,_⟩:=ins_get I.hok ea
    obtain ⟨od,J,_⟩:=O.look
    exact PySem.W.kia_one (PySem.W.kitx_own (cl.get _) cl.hd ha hn htk hm) I.kIn J e (fun z=>nomatch z) h
end
end L2
namespace L2
open PySem PySem.Spec PyProof.Rows
structure Room (k : Nat) (A : Around) : Prop where
  hd : A.handled = none
  dp : A.depth + 3 * k + 5 < recursionLimit
  un : A.units + 16 * k + 200 < cLine
theorem Room.mono {j k : Nat} {A : Around} (r : Room k A) (h : j≤k) : Room j A:=⟨r.hd,by have:=r.dp; omega,by have:=r.un; omega⟩
theorem Room.deeper {k : Nat} {A : Around} (r : Room (k + 1) A) (env : Env) : Room k (A.deeper env) :=
  ⟨r.hd,by have:=r.dp; show A.depth + 1 + 3 * k + 5 < _; omega,by have:=r.un; show A.units + 3 + 16 * k + 200 < _; omega⟩
theorem Room.in1 {k : Nat} {A : Around} (r : Room (k + 1) A) : Room k A.in1 :=
  ⟨r.hd,by have:=r.dp; show A.depth + 3 * k + 5 < _; omega,by have:=r.un; show A.units + 1 + 16 * k + 200 < _; omega⟩
theorem Room.depth {k : Nat} {A : Around} (r : Room k A) : A.depth < recursionLimit:=by have:=r.dp; omega
theorem Room.units {k : Nat} {A : Around} (r : Room k A) : A.units + 64 < cLine:=by have:=r.un; omega
def tNil : TA:=fun _ H Q=>Q [] H
def tCons (ta : TE) (tr : TA) : TA:=fun σ H Q=>ta σ H fun x H1=>tr σ H1 fun xs H2=>Q (x :: xs) H2
section
variable {X : Cx} {e : Expr} {es : List Expr} {te : TE} {t : TA} {pos : Pos}
theorem pa_nil : PA X [] tNil:=fun _ _ _ _ H Q I h=>Calls.spliced_nil ⟨[],H,I,.nil,h⟩
theorem pa_cons (ha : PE X e te) (hr : PA X es t) (hs : starEach (e :: es) X.env = (false,eval e X.env) :: starEach es X.env:=by rfl) : PA X (e :: es) (tCons te t):=by
  intro pos pins s σ H Q I h
  rw [hs]
  show wpAny _ _ (spliced ((false,eval e X.env) :: backTo pos (starEach es X.env))) _ _ s
  refine Calls.spliced_cons (thn (ha pins s σ H _ I h) fun u s1 ⟨x,H1,I1,r1,q1⟩=>?_)
  exact thn (hr pos pins s1 σ H1 _ I1 q1) fun us s2 ⟨xs,H2,I2,r2,q2⟩=>⟨x :: xs,H2,I2,.cons r1 r2,q2⟩
def tTup (t : TA) : TE:=fun σ H Q=>t σ H fun xs H1=>xs.length≤sizeLine∧∀ p,H1 p = none→Q (.ref p) (upd H1 p (.tup xs))
def tLst (t : TA) : TE:=fun σ H Q=>t σ H fun xs H1=>xs.length≤sizeLine∧∀ p,H1 p = none→Q (.ref p) (upd H1 p (.lst xs))
theorem pe_tup {x1} (h : PA X es t) : PE X (.Tuple es x1 pos) (tTup t):=by
  intro pins s σ H Q I hq
  refine wpAny_Tuple_spliced (thn (h pos pins s σ H _ I hq) fun us s1 ⟨xs,H1,I1,r,z,q⟩=>⟨by rw [← r.length]; exact z,?_⟩)
  have hf : H1 s1.heap.objs.size = none:=I1.hok.fresh (Nat.le_refl _)
  refine ⟨.ref s1.heap.objs.size,upd H1 s1.heap.objs.size (.tup xs),I1.laid (t':=s1.toks) (fun b u e=>Heap.get?_push_of_some _ e) (Nat.le_refl _) ?_,rfl,q _ hf⟩
  exact ⟨z,us,r,⟨_,Heap.get?_push_size _ rfl,rfl,_,rfl⟩⟩
theorem pe_lst (h : PA X es t) : PE X (.List es pos) (tLst t):=by
  intro pins s σ H Q I hq
  refine wpAny_List_spliced (thn (h pos pins s σ H _ I hq) fun us s1 ⟨xs,H1,I1,r,z,q⟩=>⟨by rw [← r.length]; exact z,?_⟩)
  have hf : H1 s1.heap.objs.size = none:=I1.hok.fresh (Nat.le_refl _)
  refine ⟨.ref s1.heap.objs.size,upd H1 s1.heap.objs.size (.lst xs),I1.laid (t':=s1.toks) (fun b u e=>Heap.get?_push_of_some _ e) (Nat.le_refl _) ?_,rfl,q _ hf⟩
  exact ⟨z,us,0,r,Heap.get?_push_size _ rfl⟩
end
abbrev Sp:=List V→Hp→VK→XK→Prop
abbrev CXT:=List Env→Hp→Shared→XK→Value→Shared→Prop
structure Env0 (P : Program) (w : World) (K : PySem.W.Frag) (mg : Str→Option Value) (base : Heap) (A : Around) (outer : List Env) (s : Shared) (H : Hp) : Prop where
  frames : A.frames = some outer
  mod : Mod K mg base
  bs : ∀ b o,base.get? b = some o→s.heap.get? b = some o∧H b = none
  bsz : base.objs.size≤s.heap.objs.size
  funs : s.heap.FunFrames base outer
  frf : ∀ b ∈ frs outer,H b = none
  hok : HOk P w H s.heap
  bare : AllBare s.gens
def CE (outer : List Env) (P : Program) (w : World) (H : Hp) (s : Shared) (Q : VK) (u : Value) (s' : Shared) : Prop :=
  ∃ v H',s'.os = s.os∧AllBare s'.gens∧Un (frs outer) [] H H' s.heap s'.heap∧HOk P w H' s'.heap∧RelV v u∧Q v H'
def CR (CX : CXT) (outer : List Env) (P : Program) (w : World) (H : Hp) (s : Shared) (Q : VK) (E : XK) (r : Result) (s' : Shared) : Prop :=
  match r with
  | .ok (.ret u)=>CE outer P w H s Q u s'
  | .ok _=>False
  | .error e=>CX outer H s E e s'
structure FnOk (P : Program) (w : World) (K : PySem.W.Frag) (mg : Str→Option Value) (base : Heap) (CX : CXT) (k : Nat) (f : Addr) (fd : FuncData) (ps : List Str) (sp : Sp) : Prop where
  len : ∀ vs H Q E,sp vs H Q E→vs.length = ps.length
  run : ∀ (A : Around) (outer : List Env) (s : Shared) (H : Hp) (args : Args) (us : List Value) (vs : List V) (Q : VK) (E : XK),Room k A→Env0 P w K mg base A outer s H→BindsTo s fd args (ps.zip us)→Vals vs us→sp vs H Q E →
    codeAny (model P w) A (.call (.ref f) args) (CR CX outer P w H s Q E) s
theorem FnOk.mono {P : Program} {w : World} {K : PySem.W.Frag} {mg : Str→Option Value} {base : Heap} {CX : CXT} {j k : Nat} {f : Addr} {fd : FuncData} {ps : List Str} {sp : Sp} (F : FnOk P w K mg base CX j f fd ps sp) (h : j≤k) :
    FnOk P w K mg base CX k f fd ps sp:=⟨F.len,fun A outer s H args us vs Q E hr=>F.run A outer s H args us vs Q E (hr.mono h)⟩
theorem FnOk.imp {P : Program} {w : World} {K : PySem.W.Frag} {mg : Str→Option Value} {base : Heap} {CX : CXT} {k : Nat} {f : Addr} {fd : FuncData} {ps : List Str} {sp sp' : Sp} (F : FnOk P w K mg base CX k f fd ps sp)
    (h : ∀ vs H Q E,sp' vs H Q E→sp vs H Q E) : FnOk P w K mg base CX k f fd ps sp' :=
  ⟨fun vs H Q E q=>F.len vs H Q E (h _ _ _ _ q),fun A outer s H args us vs Q E hr he hb hv hs=>F.run A outer s H args us vs Q E hr he hb hv (h _ _ _ _ hs)⟩
theorem Env0.in1 {P : Program} {w : World} {K : PySem.W.Frag} {mg : Str→Option Value} {base : Heap} {A : Around} {outer : List Env} {s : Shared} {H : Hp} (e : Env0 P w K mg base A outer s H) :
    Env0 P w K mg base A.in1 outer s H:=⟨e.frames,e.mod,e.bs,e.bsz,e.funs,e.frf,e.hok,e.bare⟩
section
variable {X : Cx} {pins : List (Addr × Obj)} {σ : St} {H : Hp} {s s' : Shared}
theorem Inv.env0 (I : Inv X pins σ H s) : Env0 X.prog X.w X.K X.mg X.base X.A X.stack s H :=
  ⟨I.ok.frames,I.ok.mod,I.bs,Nat.le_trans I.ok.bsz I.sz,I.stack,I.stkFree,I.hok,I.bare⟩
theorem Inv.after {Q : VK} {u : Value} (I : Inv X pins σ H s) (h : CE X.stack X.prog X.w H s Q u s') : EP X pins σ Q u s':=by
  obtain ⟨v,H',os,bare,un,hok,r,q⟩:=h
  obtain ⟨hh,g,d,t,os'⟩:=s'
  obtain rfl : os' = s.os:=os
  exact ⟨v,H',I.call (h':=hh) (g':=g) (d':=d) (t':=t) (ch:=[]) un hok bare (fun b z=>absurd z (by simp)),r,q⟩
end
def tCall (sp : Sp) (dvs : List V) (E : XK) (t : TA) : TE:=fun σ H Q=>t σ H fun vs H1=>sp (vs ++ dvs) H1 Q E
def tMeth (C : Addr) (m : Str) (sp : Sp) (dvs : List V) (E : XK) (ta : TE) (t : TA) : TE:=fun σ H Q=>ta σ H fun x H1=>∃ a dx fs,x = .ref a∧H1 a = some (.ins C dx fs)∧fs.lookup m = none ∧
  t σ H1 fun vs H2=>sp (x :: (vs ++ dvs)) H2 Q E
def tMake (C : Addr) (sp : Sp) (dvs : List V) (E : XK) (t : TA) : TE:=fun σ H Q=>t σ H fun vs H1=>∀ x dx,H1 x = none→H1 dx = none→dx≠x →
  sp (.ref x :: (vs ++ dvs)) (upd (upd H1 dx (.own x)) x (.ins C dx [])) (fun v H2=>v = .non∧Q (.ref x) H2) E
def Binds (K : PySem.W.Frag) (fd : FuncData) (ps : List Str) (ds : List Value) : Prop :=
  ∀ (s : Shared) (us : List Value),K.In s.heap→(us ++ ds).length = ps.length→BindsTo s fd ⟨us,[]⟩ (ps.zip (us ++ ds))
theorem Binds.all {K : PySem.W.Frag} {fd : FuncData} {ps : List Str} (h : ∀ us : List Value,us.length = ps.length→bindArgs fd ⟨us,[]⟩ = pure (ps.zip us)) : Binds K fd ps []:=fun s us _ hl=>by
  rw [List.append_nil] at hl ⊢
  exact .of_eq (h us hl)
def Passes (CX : CXT) (X : Cx) (E : XK) : Prop:=∀ (pins : List (Addr × Obj)) (σ : St) (H : Hp) (s : Shared) (e : Value) (s' : Shared),Inv X pins σ H s→CX X.stack H s E e s'→X.xe e s'
section
variable {X : Cx} {CX : CXT} {k : Nat} {f C : Addr} {fd : FuncData} {ps : List Str} {sp : Sp} {dvs : List V} {ds : List Value} {E : XK} {x m : Str} {p pos apos : Pos} {e o : Expr} {es : List Expr} {ta : TE} {t : TA}
theorem run_fn {pins : List (Addr × Obj)} {σ : St} {H : Hp} {s : Shared} {Q : VK} {us : List Value} {vs : List V} (F : FnOk X.prog X.w X.K X.mg X.base CX k f fd ps sp) (hr : Room k X.A) (hb : Binds X.K fd ps ds) (hd : Vals dvs ds) (hx : Passes CX X E)
    (I : Inv X pins σ H s) (r : Vals vs us) (h : sp (vs ++ dvs) H Q E) : wpAny (model X.prog X.w) X.A (call (.ref f) us) (EP X pins σ Q) X.xe s:=by
  have r2 : Vals (vs ++ dvs) (us ++ ds):=r.append hd
  have hl : (us ++ ds).length = ps.length:=by rw [← r2.length]; exact F.len _ _ _ _ h
  refine wpAny_call (codeAny_mono (F.run X.A X.stack s H ⟨us,[]⟩ (us ++ ds) (vs ++ dvs) Q E hr I.env0 (hb s us I.kIn hl) r2 h) fun r s' hq=>?_)
  cases r with
  | error e=>exact hx pins σ H s e s' I hq
  | ok fl =>
    cases fl with
    | ret u=>exact I.after hq
    | next=>exact False.elim hq
    | brk=>exact False.elim hq
    | cont=>exact False.elim hq
theorem pe_call (F : FnOk X.prog X.w X.K X.mg X.base CX k f fd ps sp) (hr : Room k X.A) (hg : Gl X x) (hm : X.mg x = some (.ref f)) (hk : PySem.W.keepIn X.K (.ref f) = true) (hb : Binds X.K fd ps ds) (hd : Vals dvs ds) (hx : Passes CX X E)
    (ha : PA X (e :: es) t) (hdb : (x == ("__debug__" : Str)) = false:=by decide) (he : starEach (e :: es) X.env = (false,eval e X.env) :: starEach es X.env:=by rfl) (hpl : (backTo pos (starEach es X.env)).any (·.1) = false:=by rfl) :
    PE X (.Call (.Name x p) (e :: es) [] pos) (tCall sp dvs E t):=by
  intro pins s σ H Q I h
  refine wpAny_Call_Name_kw (ld_glob I hg hm ?_ hdb)
  refine PySem.W.callWith_K (h₀:=X.base) I.ok.mod.kin hk (thn (ha pos pins s σ H _ I h) fun us s1 ⟨vs,H1,I1,r,q⟩=>⟨I1.kIn,?_⟩) he hpl
  exact run_fn F hr hb hd hx I1 r q
structure Mk (K : PySem.W.Frag) (C f : Addr) : Prop where
  makes : PySem.W.makesIn K C = true
  init : PySem.W.findIn K (.ref C) "__init__" = some (some (.ref f))
  fn : PySem.W.isFn K (.ref f) = true
  kp : PySem.W.keepIn K (.ref C) = true
end
def PK (X : Cx) (kws : List Keyword) (t : TA) : Prop :=
  ∀ (pos : Pos) (pins : List (Addr × Obj)) (s : Shared) (σ : St) (H : Hp) (Q : List V→Hp→Prop),Inv X pins σ H s→t σ H Q→wpAny (model X.prog X.w) X.A (evalAll ((backToKw pos (keywordEach kws X.env)).map (·.2))) (AP X pins σ Q) X.xe s
section
variable {X : Cx} {CX : CXT} {k : Nat} {f C : Addr} {fd : FuncData} {ps ks : List Str} {sp : Sp} {E : XK} {x m : Str} {p pos apos kpos : Pos} {e o : Expr} {es : List Expr} {kws : List Keyword} {te ta : TE} {t tk : TA} {nm : Option Str}
theorem pk_nil : PK X [] tNil:=fun _ _ _ _ H Q I h=>wpAny_evalAll_nil ⟨[],H,I,.nil,h⟩
theorem pk_cons (ha : PE X e te) (hr : PK X kws t) : PK X (⟨nm,e,kpos⟩ :: kws) (tCons te t):=by
  intro pos pins s σ H Q I h
  show wpAny _ _ (evalAll ((do let v ← eval e X.env; standAt pos; pure v) :: (backToKw pos (keywordEach kws X.env)).map (·.2))) _ _ s
  refine wpAny_evalAll_cons (wpAny_bind (thn (ha pins s σ H _ I h) fun u s1 ⟨x,H1,I1,r1,q1⟩=>wpAny_bind (wpAny_standAt (wpAny_pure ?_))))
  exact thn (hr pos pins s1 σ H1 _ I1 q1) fun us s2 ⟨xs,H2,I2,r2,q2⟩=>⟨x :: xs,H2,I2,.cons r1 r2,q2⟩
structure KBinds (K : PySem.W.Frag) (fd : FuncData) (ps ks : List Str) (g : List Value→List Value→List Value) (gV : List V→List V→List V) : Prop where
  to : ∀ (s : Shared) (us ws : List Value),K.In s.heap→(g us ws).length = ps.length→BindsTo s fd ⟨us,ks.zip ws⟩ (ps.zip (g us ws))
  rel : ∀ {vs : List V} {us : List Value} {zs : List V} {ws : List Value},Vals vs us→Vals zs ws→Vals (gV vs zs) (g us ws)
variable {g : List Value→List Value→List Value} {gV : List V→List V→List V}
end
structure FnScope (N P : List Str) (sc : Scope) : Prop where
  kind : sc.kind = .function
  co : sc.isCoroutine = false
  gen : sc.isGenerator = false
  nd : N.Nodup
  pre : N.take P.length = P
  par : ∀ x ∈ P,sc.names.lookup x = some .local∨sc.names.lookup x = some .cell
  nofree : ∀ y ∈ sc.names,y.2≠.free
theorem bindL_out {kindOf : Str→Option NameKind} {x : Str} : ∀ {binds : List (Str × Value)} {m : Str→Option Value},(∀ v,(x,v) ∉ binds)→bindL kindOf binds m x = m x
  | [],_,_=>rfl
  | (n,v) :: r,m,h=>by
    unfold bindL
    rw [bindL_out fun w hw=>h w (List.mem_cons_of_mem _ hw)]
    split
    · have : x≠n:=by rintro rfl; exact h v List.mem_cons_self
      simp [this]
    · rfl
theorem bindC_out {kindOf : Str→Option NameKind} {x : Str} : ∀ {binds : List (Str × Value)} {m : Str→Option Value},(∀ v,(x,v) ∉ binds)→bindC kindOf binds m x = m x
  | [],_,_=>rfl
  | (n,v) :: r,m,h=>by
    unfold bindC
    rw [bindC_out fun w hw=>h w (List.mem_cons_of_mem _ hw)]
    split
    · rfl
    · have : x≠n:=by rintro rfl; exact h v List.mem_cons_self
      simp [this]
theorem bindL_get {kindOf : Str→Option NameKind} {x : Str} {v : Value} : ∀ {P : List Str} {vs : List Value} {i : Nat} {m : Str→Option Value},P.Nodup→P[i]? = some x→vs[i]? = some v→kindOf x = some .local →
    bindL kindOf (P.zip vs) m x = some v
  | [],_,_,_,_,h,_,_=>by simp at h
  | _ :: _,[],_,_,_,_,h,_=>by simp at h
  | p :: P,w :: vs,0,m,nd,h1,h2,hk=>by
    simp at h1 h2; subst h1; subst h2
    show bindL kindOf ((p,w) :: P.zip vs) m p = _
    unfold bindL
    rw [bindL_out fun v hv=>(List.nodup_cons.mp nd).1 (List.of_mem_zip hv).1,if_pos hk]
    simp
  | p :: P,w :: vs,i + 1,m,nd,h1,h2,hk=>by
    show bindL kindOf ((p,w) :: P.zip vs) m x = _
    unfold bindL
    exact bindL_get (i:=i) (List.nodup_cons.mp nd).2 (by simpa using h1) (by simpa using h2) hk
theorem bindC_get {kindOf : Str→Option NameKind} {x : Str} {v : Value} : ∀ {P : List Str} {vs : List Value} {i : Nat} {m : Str→Option Value},P.Nodup→P[i]? = some x→vs[i]? = some v→kindOf x≠some .local →
    bindC kindOf (P.zip vs) m x = some v
  | [],_,_,_,_,h,_,_=>by simp at h
  | _ :: _,[],_,_,_,_,h,_=>by simp at h
  | p :: P,w :: vs,0,m,nd,h1,h2,hk=>by
    simp at h1 h2; subst h1; subst h2
    show bindC kindOf ((p,w) :: P.zip vs) m p = _
    unfold bindC
    rw [bindC_out fun v hv=>(List.nodup_cons.mp nd).1 (List.of_mem_zip hv).1,if_neg hk]
    simp
  | p :: P,w :: vs,i + 1,m,nd,h1,h2,hk=>by
    show bindC kindOf ((p,w) :: P.zip vs) m x = _
    unfold bindC
    exact bindC_get (i:=i) (List.nodup_cons.mp nd).2 (by simpa using h1) (by simpa using h2) hk
def start (N : List Str) (vs : List V) : St:=vs.map some ++ List.replicate (N.length - vs.length) none
def cxOf (CX : CXT) (P : Program) (w : World) (K : PySem.W.Frag) (mg : Str→Option Value) (base : Heap) (N : List Str) (qual : Str) (scope : Scope) (f : Addr) (cd : Value) (A : Around) (outer : List Env) (s : Shared) (H : Hp) (E : XK) : Cx where
  prog:=P
  w:=w
  K:=K
  mg:=mg
  base:=base
  A:=A.deeper (envOfC qual scope s.heap.objs.size f cd)
  N:=N
  s₀:=s
  H₀:=H
  env:=envOfC qual scope s.heap.objs.size f cd
  outer:=outer
  stack:=envOfC qual scope s.heap.objs.size f cd :: outer
  ex:=[]
  calm:=true
  fn:=fun _=>true
  pn:=[]
  xe:=fun e s'=>wpAny (model P w) (A.deeper (envOfC qual scope s.heap.objs.size f cd)) (leaving (envOfC qual scope s.heap.objs.size f cd) e) (fun _ s''=>CX outer H s E e s'') (fun e' s''=>CX outer H s E e' s'') s'
theorem cell_has {sc : Scope} {n : Nat} {x : Str} (h : sc.names.lookup x = some .cell) : ∃ c,(cellsFrom n sc.names []).lookup x = some c:=by
  have q:=PySem.W.cellsFrom_some sc.names n [] (.inl h)
  exact Option.isSome_iff_exists.mp q
theorem inv_start {CX : CXT} {P : Program} {w : World} {K : PySem.W.Frag} {mg : Str→Option Value} {base : Heap} {N ps : List Str} {qual : Str} {scope : Scope} {f : Addr} {cd : Value} {A : Around} {outer : List Env} {s s1 : Shared} {H : Hp} {E : XK} {us : List Value} {vs : List V}
    (S : FnScope N ps scope) (hd : A.handled = none) (e0 : Env0 P w K mg base A outer s H) (hl : vs.length = ps.length) (r : Vals vs us)
    (x : InCallC s s.heap.objs.size (bindL (envOfC qual scope s.heap.objs.size f cd).kindOf (ps.zip us) fun _=>none) (cellsFrom (s.heap.objs.size + 1) scope.names []) (bindC (envOfC qual scope s.heap.objs.size f cd).kindOf (ps.zip us) fun _=>none) s1) :
    Inv (cxOf CX P w K mg base N qual scope f cd A outer s H E) [] (start N vs) H s1:=by
  have hpl : ps.length≤N.length:=by have:=congrArg List.length S.pre; rw [List.length_take] at this; omega
  obtain ⟨h1,tk,rfl,hk⟩:=x.done
  have noA : ∀ b : Addr,b ∉ (cxOf CX P w K mg base N qual scope f cd A outer s H E).ex:=fun b z=>absurd (show b ∈ ([] : List Addr) from z) (by simp)
  refine ⟨⟨e0.mod,S.kind,rfl,rfl,Nat.le_refl _,fun y z c h1 h2=>?_,fun y hy=>?_,fun y c _ h=>?_,fun _=>hd,Around.frames_deeper e0.frames,.inr ⟨rfl,rfl⟩,fun b z=>absurd z (noA b),e0.bs,e0.bsz,fun b _ _=>noA b,fun b z=>absurd z (noA b),e0.funs,e0.frf⟩,
    rfl,e0.bare,Un.kept hk,⟨_,x.toInCall.ns,fun i y v h1 h2 h3=>?_⟩,fun y c h=>⟨_,x.cell y c h⟩,e0.hok.fresh (Nat.le_refl _),fun y c h=>?_,fun p hp=>absurd (show p ∈ ([] : List (Addr × Obj)) from hp) (by simp),e0.hok.kept hk,?_⟩
  · exact name_of_addr x.apart (PySem.mem_of_lookup h1) (PySem.mem_of_lookup h2)
  · have hy : scope.names.lookup y = some .cell∨scope.names.lookup y = some .free:=hy
    rcases hy with hy | hy
    · exact cell_has hy
    · exact absurd rfl (S.nofree _ (PySem.mem_of_lookup hy))
  · exact Nat.le_of_lt (x.above y c (PySem.mem_of_lookup h))
  · have hi : i < vs.length:=by
      unfold start at h2
      by_cases hi : i < vs.length
      · exact hi
      · rw [List.getElem?_append_right (by simpa using hi)] at h2
        rw [List.getElem?_replicate] at h2
        split at h2 <;> cases h2
    have ha : vs[i]? = some v:=by
      unfold start at h2
      rw [List.getElem?_append_left (by simpa using hi),List.getElem?_map] at h2
      cases e : vs[i]? with
      | none=>rw [e] at h2; cases h2
      | some a=>rw [e] at h2; cases h2; rfl
    obtain ⟨u,hu,rv⟩:=r.get ha
    have hp : ps[i]? = some y:=by
      rw [← S.pre,List.getElem?_take_of_lt (by omega)]; exact h1
    have ndP : ps.Nodup:=by rw [← S.pre]; exact S.nd.sublist (List.take_sublist _ _)
    refine ⟨u,rv,?_⟩
    rcases S.par y (List.mem_of_getElem? hp) with k | k
    · exact .inl ⟨k,bindL_get ndP hp hu k⟩
    · obtain ⟨c,e⟩:=cell_has (n:=s.heap.objs.size + 1) k
      refine .inr ⟨.inl k,c,e,?_⟩
      have q:=x.cell y c e
      rw [bindC_get ndP hp hu (by show scope.names.lookup y≠_; rw [k]; decide)] at q
      exact q
  · exact e0.hok.fresh (Nat.le_of_lt (x.above y c (PySem.mem_of_lookup h)))
  · unfold start
    show _ = N.length
    rw [List.length_append,List.length_map,List.length_replicate]
    omega
theorem fn_of {CX : CXT} {P : Program} {w : World} {K : PySem.W.Frag} {mg : Str→Option Value} {base : Heap} {k : Nat} {f : Addr} {name qual : Str} {params : Arguments} {body : List Stmt} {scope : Scope} {dV kV doc pm cdv ct oc : Value} {an od : Option Addr}
    {osl : Array (Option Value)} {N ps : List Str} {sp : Sp} (lk : K.lookup f = some ⟨oc,od,.func (PySem.W.fnOf name qual params body scope dV kV doc pm an cdv ct),osl⟩) (hcd : PySem.W.codeIn K cdv qual = true) (S : FnScope N ps scope)
    (len : ∀ vs H Q E,sp vs H Q E→vs.length = ps.length)
    (hbody : ∀ (A : Around) (outer : List Env) (s : Shared) (H : Hp) (vs : List V) (Q : VK) (E : XK),Room k (A.deeper (envOfC qual scope s.heap.objs.size f cdv))→sp vs H Q E →
      ∃ t,PSs (cxOf CX P w K mg base N qual scope f cdv A outer s H E) body t∧t { nx:=fun _ H'=>Q .non H',rt:=Q } (start N vs) H) :
    FnOk P w K mg base CX (k + 1) f (PySem.W.fnOf name qual params body scope dV kV doc pm an cdv ct) ps sp:=by
  refine ⟨len,fun A outer s H args us vs Q E hr e0 hb r hsp=>?_⟩
  have hl:=len _ _ _ _ hsp
  have KX : K.In s.heap:=e0.mod.kin.keeps fun b o e=>(e0.bs b o e).1
  have lim : s.heap.NoLimit:=e0.mod.nolimit.keeps fun b o e=>(e0.bs b o e).1
  have hkind : ∀ y ∈ ps.zip us,scope.names.lookup y.1 = some .local∨(scope.names.lookup y.1 = some .cell∧((cellsFrom (s.heap.objs.size + 1) scope.names []).lookup y.1).isSome = true):=fun ⟨n,v⟩ hy=>by
    rcases S.par n (List.of_mem_zip hy).1 with q | q
    · exact .inl q
    · exact .inr ⟨q,PySem.W.cellsFrom_some _ _ _ (.inl q)⟩
  refine codeAny_call_function hr.depth (KX _ _ lk) rfl S.co S.gen rfl (PySem.W.codeRec_of KX hcd) (hb _ _ _ _ ?_)
  refine wpAny_newFunctionEnv_cells S.kind hkind fun env he s1 x=>?_
  subst he
  refine ⟨lim.keeps x.toInCall.keep,codeAny_func ?_⟩
  obtain ⟨t,ht,hq⟩:=hbody A outer s H vs Q E (hr.deeper _) hsp
  have I : Inv (cxOf CX P w K mg base N qual scope f cdv A outer s H E) [] (start N vs) H s1:=inv_start S hr.hd e0 hl r x
  refine wpAny_mono (ht [] s1 (start N vs) H _ I hq) (fun fl s' hs=>?_) fun e s' hs=>hs
  have fin : ∀ {σ' : St} {H' : Hp} {v : V} {u : Value},Inv (cxOf CX P w K mg base N qual scope f cdv A outer s H E) [] σ' H' s'→RelV v u→Q v H'→CE outer P w H s Q u s' :=
    fun {σ' H' v u} J rv q=>⟨v,H',J.os,J.bare,J.base,J.hok,rv,q⟩
  cases fl with
  | ret u =>
    obtain ⟨v,σ',H',J,rv,q⟩:=hs
    exact fin J rv q
  | next =>
    obtain ⟨σ',H',J,q⟩:=hs
    exact fin (v:=V.non) (u:=Value.none) J rfl q
  | brk =>
    obtain ⟨_,_,_,q⟩:=hs
    exact False.elim q
  | cont =>
    obtain ⟨_,_,_,q⟩:=hs
    exact False.elim q
end L2
namespace L2
open PySem PySem.Spec PyProof.Rows
section
variable {X : Cx} {x : Str} {p pos : Pos} {e : Expr} {es : List Expr} {t : TA} {id T : String} {r : List V→Hp→VK→Prop}
def tCB (r : List V→Hp→VK→Prop) (t : TA) : TE:=fun σ H Q=>t σ H fun vs H1=>r vs H1 Q
theorem pe_callB (hc : CallR X (.builtin id) r) (hg : Gl X x) (hm : X.mg x = none) (hv : bootBuiltins x = some (.builtin id)) (ha : PA X (e :: es) t) (hn : x≠"__name__":=by decide) (hdb : (x == ("__debug__" : Str)) = false:=by decide)
    (he : starEach (e :: es) X.env = (false,eval e X.env) :: starEach es X.env:=by rfl) (hpl : (backTo pos (starEach es X.env)).any (·.1) = false:=by rfl) : PE X (.Call (.Name x p) (e :: es) [] pos) (tCB r t):=by
  intro pins s σ H Q I h
  refine wpAny_Call_Name_kw (ld_blt I hg hm hv ?_ hn hdb)
  exact PyProof.Rows.callWith_builtin1 (thn (ha pos pins s σ H _ I h) fun us s1 ⟨vs,H1,I1,r1,q1⟩=>hc pins s1 σ H1 vs us Q I1 r1 q1) he hpl
theorem pe_callTy (hc : CallR X (.type T) r) (hg : Gl X x) (hm : X.mg x = none) (hv : bootBuiltins x = some (.type T)) (ha : PA X (e :: es) t) (hn : x≠"__name__":=by decide) (hdb : (x == ("__debug__" : Str)) = false:=by decide)
    (he : starEach (e :: es) X.env = (false,eval e X.env) :: starEach es X.env:=by rfl) (hpl : (backTo pos (starEach es X.env)).any (·.1) = false:=by rfl) : PE X (.Call (.Name x p) (e :: es) [] pos) (tCB r t):=by
  intro pins s σ H Q I h
  refine wpAny_Call_Name_kw (ld_blt I hg hm hv ?_ hn hdb)
  exact PyProof.Rows.callWith_type1 (thn (ha pos pins s σ H _ I h) fun us s1 ⟨vs,H1,I1,r1,q1⟩=>hc pins s1 σ H1 vs us Q I1 r1 q1) he hpl
end
end L2
namespace HT
open PySem PyProof.Rows
def lexLt : List Int→List Int→Bool
  | [],[]=>false
  | [],_ :: _=>true
  | _ :: _,[]=>false
  | x :: xs,y :: ys=>if x = y then lexLt xs ys else decide (x < y)
section
open PySem.SeqAt
open PySem.AutoSeq1 (wpAny_loadPart')
open PySem.MeetsSeq PySem.MeetsSeq2 PySem.MeetsSeq3
end
section
variable {prog : Program} {w : World} {A : Around} {E : Value→Shared→Prop} {s : Shared}
def sIx (n d : Nat) : Option Int→Nat
  | none=>d
  | some v=>if v < 0 then (v + (n : Int)).toNat else min v.toNat n
end
end HT
namespace L2
open PySem PySem.Spec PyProof.Rows
abbrev TO:=St→Hp→(Option Int→Hp→Prop)→Prop
def PO (X : Cx) (e : Option Expr) (t : TO) : Prop :=
  ∀ (pins : List (Addr × Obj)) (s : Shared) (σ : St) (H : Hp) (Q : Option Int→Hp→Prop),Inv X pins σ H s→t σ H Q →
    wpAny (model X.prog X.w) X.A (evalPart e X.env) (fun u s'=>∃ o H',Inv X pins σ H' s'∧IsPart u o∧Q o H') X.xe s
def tNoPart : TO:=fun _ H Q=>Q none H
def tPart (t : TE) : TO:=fun σ H Q=>t σ H fun x H1=>∃ i,x = .int i∧Q (some i) H1
theorem intsAre_of {ns : List Int} : ∀ {us : List Value},Vals (ns.map V.int) us→IntsAre us ns:=by
  induction ns with
  | nil=>intro us r; rw [List.map_nil] at r; cases r; exact .nil
  | cons n ns ih =>
    intro us r
    rw [List.map_cons] at r
    cases r with
    | cons r1 r2 =>
      obtain ⟨t,e⟩:=r1
      subst e
      exact .cons n t (ih r2)
section
variable {X : Cx} {e : Expr} {te : TE} {lo hi : Option Expr} {tl th : TO} {pos p2 : Pos}
theorem po_none : PO X none tNoPart:=by
  intro pins s σ H Q I h
  rw [evalPart_none]
  exact wpAny_pure ⟨none,H,I,.none,h⟩
theorem po_some (h : PE X e te) : PO X (some e) (tPart te):=by
  intro pins s σ H Q I hw
  rw [evalPart_some]
  refine thn (h pins s σ H _ I hw) fun u s1 ⟨x,H1,I1,r1,q1⟩=>?_
  obtain ⟨i,rfl,q⟩:=q1
  obtain ⟨t,rfl⟩:=r1
  exact ⟨some i,H1,I1,.int i t,q⟩
def SlR (X : Cx) (r : V→Option Int→Option Int→Hp→VK→Prop) : Prop :=
  ∀ (pins : List (Addr × Obj)) (s : Shared) (σ : St) (H : Hp) (x : V) (v vl vu : Value) (lo hi : Option Int) (sl : Addr) (Q : VK),Inv X pins σ H s→RelV x v→s.heap.IsSliceOf sl vl vu .none→IsPart vl lo→IsPart vu hi→r x lo hi H Q →
    ∃ T id,typeLookup (.type T) "__getitem__" = pure (some (.builtin id))∧s.TypeIs v T∧wpAny (model X.prog X.w) X.A (getItem v (.ref sl)) (EP X pins σ Q) X.xe s
theorem SlR.or {r r' : V→Option Int→Option Int→Hp→VK→Prop} (h : SlR X r) (h' : SlR X r') : SlR X (fun x lo hi H Q=>r x lo hi H Q∨r' x lo hi H Q):=by
  intro pins s σ H x v vl vu lo hi sl Q I rx hs pl pu q
  rcases q with q | q
  · exact h pins s σ H x v vl vu lo hi sl Q I rx hs pl pu q
  · exact h' pins s σ H x v vl vu lo hi sl Q I rx hs pl pu q
def tSl (r : V→Option Int→Option Int→Hp→VK→Prop) (te : TE) (tl th : TO) : TE:=fun σ H Q=>te σ H fun x H1=>tl σ H1 fun l H2=>th σ H2 fun u H3=>r x l u H3 Q
theorem pe_slice {r : V→Option Int→Option Int→Hp→VK→Prop} (hr : SlR X r) (he : PE X e te) (hl : PO X lo tl) (hu : PO X hi th) : PE X (.Subscript e (.Slice lo hi none p2) pos) (tSl r te tl th):=by
  intro pins s σ H Q I h
  refine Subscript_ (thn (he pins s σ H _ I h) fun v s1 ⟨x,H1,I1,r1,q1⟩=>?_)
  refine wpAny_Slice (thn (hl pins s1 σ H1 _ I1 q1) fun vl s2 ⟨l,H2,I2,pl,q2⟩=>thn (hu pins s2 σ H2 _ I2 q2) fun vu s3 ⟨u,H3,I3,pu,q3⟩=>?_)
  rw [evalPart_none]
  refine wpAny_pure ?_
  have I4 : Inv X pins σ H3 { s3 with heap:=s3.heap.push { cls:=.type "slice",data:=.fields #[vl,vu,.none] } }:=I3.kept (t':=s3.toks) fun b ob q=>Heap.get?_push_of_some _ q
  obtain ⟨T,id,hT,ht,hg⟩:=hr pins { s3 with heap:=s3.heap.push { cls:=.type "slice",data:=.fields #[vl,vu,.none] } } σ H3 x v vl vu l u s3.heap.objs.size Q I4 r1 (Heap.IsSliceOf.new ..) pl pu q3
  show wpAny (model X.prog X.w) X.A (subscriptTail e (.Slice lo hi none p2) v (.ref s3.heap.objs.size)) (EP X pins σ Q) X.xe { s3 with heap:=s3.heap.push { cls:=.type "slice",data:=.fields #[vl,vu,.none] } }
  exact tail_any (ops:=[.ref s3.heap.objs.size,v]) ht hT hg (by with_unfolding_all rfl)
def cutV (xs : List V) (lo hi : Option Int) : List V:=(xs.drop (HT.sIx xs.length 0 lo)).take (HT.sIx xs.length xs.length hi - HT.sIx xs.length 0 lo)
theorem cutV_length (xs : List V) (lo hi : Option Int) : (cutV xs lo hi).length≤xs.length:=by
  unfold cutV
  rw [List.length_take,List.length_drop]
  omega
def rLtT (K : PySem.W.Frag) : R2:=fun x y H Q=>∃ a b ns ms,x = .ref a∧y = .ref b∧SqT K H a (ns.map V.int)∧SqT K H b (ms.map V.int)∧Q (.bl (HT.lexLt ns ms)) H
end
end L2
namespace L2
open PySem PySem.Spec PyProof.Rows
def ixN (n : Nat) (i : Int) : Option Nat:=if 0≤i then (if i < n then some i.toNat else none) else if -(n : Int)≤i then some (i + n).toNat else none
def atI {α : Type} (xs : List α) (i : Int) : Option α:=(ixN xs.length i).bind fun j=>xs[j]?
theorem ixN_seq {n : Nat} {i : Int} {j : Nat} (h : ixN n i = some j) : seqIndex? i n = some j∧j < n∧-(n : Int)≤i∧i < n:=by
  unfold ixN at h
  by_cases h0 : 0≤i
  · rw [if_pos h0] at h
    by_cases h1 : i < n
    · rw [if_pos h1] at h
      have e : i.toNat = j:=Option.some.inj h
      exact ⟨by rw [seqIndex_of h0 h1,e],by omega,by omega,h1⟩
    · rw [if_neg h1] at h; cases h
  · rw [if_neg h0] at h
    by_cases h1 : -(n : Int)≤i
    · rw [if_pos h1] at h
      have e : (i + n).toNat = j:=Option.some.inj h
      exact ⟨by rw [seqIndex_neg (by omega) h1,e],by omega,h1,by omega⟩
    · rw [if_neg h1] at h; cases h
theorem atI_get {α : Type} {xs : List α} {i : Int} {v : α} (h : atI xs i = some v) : ∃ j,seqIndex? i xs.length = some j∧xs[j]? = some v∧j < xs.length∧-(xs.length : Int)≤i∧i < xs.length:=by
  unfold atI at h
  cases e : ixN xs.length i with
  | none=>rw [e] at h; cases h
  | some j =>
    rw [e] at h
    obtain ⟨h1,h2,h3,h4⟩:=ixN_seq e
    exact ⟨j,h1,h,h2,h3,h4⟩
theorem atI_nat {α : Type} {xs : List α} {j : Nat} {v : α} (h : xs[j]? = some v) : atI xs (j : Int) = some v:=by
  have hj : j < xs.length:=(List.getElem?_eq_some_iff.mp h).1
  have e : ixN xs.length (j : Int) = some j:=by
    unfold ixN
    rw [if_pos (by omega),if_pos (by omega)]; simp
  unfold atI; rw [e]; exact h
theorem atI_last {α : Type} (xs : List α) (v : α) : atI (xs ++ [v]) (-1) = some v:=by
  have hl : (xs ++ [v]).length = xs.length + 1:=by simp
  have e : ixN (xs ++ [v]).length (-1) = some xs.length:=by
    unfold ixN
    rw [hl,if_neg (by decide),if_pos (by omega)]
    congr 1
    omega
  unfold atI
  rw [e]
  show (xs ++ [v])[xs.length]? = some v
  simp
def PlainIx (b : Expr) : Prop:=∀ o i,subscripted b false o i = operate [o,i] (getItem o i)
def IxR (X : Cx) (r : R2) : Prop :=
  ∀ (value slice : Expr) (pins : List (Addr × Obj)) (s : Shared) (σ : St) (H : Hp) (x y : V) (v u : Value) (Q : VK),Inv X pins σ H s→RelV x v→RelV y u→r x y H Q →
    subscripted slice false v u = operate [v,u] (getItem v u)→wpAny (model X.prog X.w) X.A (subscriptTail value slice v u) (EP X pins σ Q) X.xe s
def MtR (X : Cx) (id : String) (r : V→List V→Hp→VK→Prop) : Prop :=
  ∀ (pins : List (Addr × Obj)) (s : Shared) (σ : St) (H : Hp) (x : V) (xs : List V) (v : Value) (us : List Value) (Q : VK),Inv X pins σ H s→RelV x v→Vals xs us→r x xs H Q →
    wpAny (model X.prog X.w) X.A (call (.builtin id) (v :: us)) (EP X pins σ Q) X.xe s
section
variable {X : Cx} {a b : Expr} {ta tb : TE} {pos : Pos}
theorem IxR.or {r r' : R2} (h : IxR X r) (h' : IxR X r') : IxR X (fun x y H Q=>r x y H Q∨r' x y H Q):=by
  intro value slice pins s σ H x y v u Q I rx ry q hs
  rcases q with q | q
  · exact h value slice pins s σ H x y v u Q I rx ry q hs
  · exact h' value slice pins s σ H x y v u Q I rx ry q hs
theorem MtR.or {id : String} {r r' : V→List V→Hp→VK→Prop} (h : MtR X id r) (h' : MtR X id r') : MtR X id (fun x xs H Q=>r x xs H Q∨r' x xs H Q):=by
  intro pins s σ H x xs v us Q I rx rs q
  rcases q with q | q
  · exact h pins s σ H x xs v us Q I rx rs q
  · exact h' pins s σ H x xs v us Q I rx rs q
theorem pe_ix {r : R2} (hr : IxR X r) (ha : PE X a ta) (hb : PE X b tb) (hs : PlainIx b) : PE X (.Subscript a b pos) (tOp r ta tb):=by
  intro pins s σ H Q I h
  exact Subscript_ (binT ha hb I h fun v u s2 x y H2 I2 rx ry q=>hr a b pins s2 σ H2 x y v u Q I2 rx ry q (hs _ _))
def rIxL (K : PySem.W.Frag) : R2:=fun x y H Q=>∃ p xs i v,x = .ref p∧y = .int i∧SqL K H p xs∧atI xs i = some v∧Q v H
def rIxT (K : PySem.W.Frag) : R2:=fun x y H Q=>∃ p xs i v,x = .ref p∧y = .int i∧SqT K H p xs∧atI xs i = some v∧Q v H
theorem ix_list : IxR X (rIxL X.K):=by
  intro value slice pins s σ H x y v u Q I rx ry h hs
  obtain ⟨p,xs,i,z,rfl,rfl,hq,he,q⟩:=h
  cases rx
  obtain ⟨t,rfl⟩:=ry
  obtain ⟨its,r,pl,hz⟩:=I.list hq
  obtain ⟨j,h1,h2,h3,h4,h5⟩:=atI_get he
  obtain ⟨w,ew,rw'⟩:=r.get h2
  have hl:=r.length
  have hn:=line63
  have fin : EP X pins σ Q w s:=⟨z,H,I,rw',q⟩
  by_cases h0 : 0≤i
  · have hj : i.toNat = j:=by
      rw [seqIndex_of h0 h5] at h1
      exact Option.some.inj h1
    exact item_listR pl.isList h0 (by omega) (by rw [hj]; simpa using ew) fin hs
  · have hj : (i + (its.toArray.size : Int)).toNat = j:=by
      rw [seqIndex_neg (by omega) h4] at h1
      rw [List.size_toArray,← hl]
      exact Option.some.inj h1
    exact subscriptTail_builtinR (x:=w) pl.isList.typeIs slot_list_getitem.lookup
      (wpAny_getItem_list_neg (Q:=fun r s'=>r = w∧EP X pins σ Q r s') pl.isList (by omega) (by rw [List.size_toArray] <;> omega) (by omega) (by rw [hj]; simpa using ew) ⟨rfl,fin⟩) hs
theorem ix_tup : IxR X (rIxT X.K):=by
  intro value slice pins s σ H x y v u Q I rx ry h hs
  obtain ⟨p,xs,i,z,rfl,rfl,hq,he,q⟩:=h
  cases rx
  obtain ⟨t,rfl⟩:=ry
  obtain ⟨its,r,pl,hz⟩:=I.tuple hq
  obtain ⟨j,h1,h2,h3,h4,h5⟩:=atI_get he
  obtain ⟨w,ew,rw'⟩:=r.get h2
  have hl:=r.length
  have hn:=line63
  have fin : EP X pins σ Q w s:=⟨z,H,I,rw',q⟩
  exact subscriptTail_builtinR (x:=w) pl.typeIs slot_tuple_getitem.lookup
    (getItem_tuple (j:=j) (Q:=fun r s'=>r = w∧EP X pins σ Q r s') pl (by omega) (by omega) (by rw [List.size_toArray,← hl]; exact h1) (by simpa using ew) ⟨rfl,fin⟩) hs
theorem mapSeq_set (its : List Value) (n j : Nat) (u : Value) : Obj.mapSeq (·.setIfInBounds j u) { cls:=.type "list",data:=.seq its.toArray n } = { cls:=.type "list",data:=.seq (its.set j u).toArray n }:=by
  simp [Obj.mapSeq]
theorem Inv.lst {pins : List (Addr × Obj)} {σ : St} {H : Hp} {s : Shared} {p : Addr} {xs : List V} (I : Inv X pins σ H s) (h : H p = some (.lst xs)) :
    ∃ (its : List Value) (n : Nat),Vals xs its∧s.heap.get? p = some { cls:=.type "list",data:=.seq its.toArray n }∧xs.length≤sizeLine:=by
  obtain ⟨z,its,n,r,e⟩:=I.hok p _ h
  exact ⟨its,n,r,e,z⟩
theorem Inv.lstUpd {pins : List (Addr × Obj)} {σ : St} {H : Hp} {s : Shared} {p : Addr} {xs ys : List V} {its its' : List Value} {n n' : Nat} {f : Obj→Obj} (I : Inv X pins σ H s) (h : H p = some (.lst xs))
    (ho : s.heap.get? p = some { cls:=.type "list",data:=.seq its.toArray n }) (hf : f { cls:=.type "list",data:=.seq its.toArray n } = { cls:=.type "list",data:=.seq its'.toArray n' }) (r : Vals ys its') (hz : ys.length≤sizeLine) (t : Nat) :
    Inv X pins σ (upd H p (.lst ys)) { s with heap:=s.heap.update p f,toks:=t }:=by
  have e : (s.heap.update p f).get? p = some { cls:=.type "list",data:=.seq its'.toArray n' }:=by
    rw [Heap.get?_update_self f ho (by rw [hf] <;> rfl),hf]
  refine I.write (x:=p) (e:=p) (by rw [h]; trivial) (.inl rfl) (fun b u hb q=>(Heap.get?_update_other _ _ (Ne.symm hb)).trans q) ⟨_,e⟩ ?_
  exact ⟨hz,its',n',r,e⟩
def rSetL : V→V→V→Hp→(Hp→Prop)→Prop:=fun o i v H Q=>∃ p xs k j,o = .ref p∧i = .int k∧H p = some (.lst xs)∧ixN xs.length k = some j∧Q (upd H p (.lst (xs.set j v)))
theorem set_list : PSet X rSetL:=by
  intro pins s σ H o i v ov iv u Q I ro ri rv h
  obtain ⟨p,xs,k,j,rfl,rfl,hp,hj,q⟩:=h
  cases ro
  obtain ⟨t,rfl⟩:=ri
  obtain ⟨its,n,r,ho,hz⟩:=I.lst hp
  obtain ⟨h1,h2,h3,h4⟩:=ixN_seq hj
  have hl:=r.length
  have hn:=line63
  have I' : Inv X pins σ (upd H p (.lst (xs.set j v))) { s with heap:=s.heap.update p (Obj.mapSeq (·.setIfInBounds j u)) } :=
    I.lstUpd hp ho (mapSeq_set its n j u) (r.set rv j) (by rw [List.length_set]; exact hz) s.toks
  by_cases h0 : 0≤k
  · have hk : k.toNat = j:=by
      rw [seqIndex_of h0 h4] at h1
      exact Option.some.inj h1
    exact PySem.W.ki_setAt ho h0 (by omega) (by rw [List.size_toArray,← hl]; exact h4) (by rw [hk]; exact ⟨_,I',q⟩)
  · have hk : (k + (its.toArray.size : Int)).toNat = j:=by
      rw [seqIndex_neg (by omega) h3] at h1
      rw [List.size_toArray,← hl]
      exact Option.some.inj h1
    exact PySem.W.ki_setBack ho (by omega) (by rw [List.size_toArray,← hl]; exact h3) (by omega) (by rw [hk]; exact ⟨_,I',q⟩)
theorem slice_bounds (lo hi : Option Int) (n : Nat) : (sliceBounds lo hi none n).1 = ((HT.sIx n 0 lo : Nat) : Int)∧(sliceBounds lo hi none n).2.1 = ((HT.sIx n n hi : Nat) : Int)∧(sliceBounds lo hi none n).2.2 = 1:=by
  refine ⟨?_,?_,rfl⟩
  · cases lo with
    | none=>simp [sliceBounds,HT.sIx]
    | some i =>
      simp only [sliceBounds,HT.sIx,Option.getD_none,show (1 : Int) > 0 by decide,if_true]
      by_cases h : i < 0
      · simp only [h,if_true] <;> omega
      · simp only [h,if_false] <;> omega
  · cases hi with
    | none=>simp [sliceBounds,HT.sIx]
    | some i =>
      simp only [sliceBounds,HT.sIx,Option.getD_none,show (1 : Int) > 0 by decide,if_true]
      by_cases h : i < 0
      · simp only [h,if_true] <;> omega
      · simp only [h,if_false] <;> omega
theorem slicePick_cut (its : List Value) (lo hi : Option Int) : slicePick its.toArray lo hi none = ((its.drop (HT.sIx its.length 0 lo)).take (HT.sIx its.length its.length hi - HT.sIx its.length 0 lo)).toArray:=by
  obtain ⟨h1,h2,h3⟩:=slice_bounds lo hi its.toArray.size
  unfold slicePick
  rw [h1,h2,h3]
  simp only [sliceRange_one,pick_run,List.size_toArray] <;> rfl
def rSlL (K : PySem.W.Frag) : V→Option Int→Option Int→Hp→VK→Prop:=fun x lo hi H Q=>∃ a xs,x = .ref a∧SqL K H a xs∧∀ p,H p = none→Q (.ref p) (upd H p (.lst (cutV xs lo hi)))
theorem sl_list : SlR X (rSlL X.K):=by
  intro pins s σ H x v vl vu lo hi sl Q I rx hs pl pu h
  obtain ⟨a,xs,rfl,hx,q⟩:=h
  cases rx
  obtain ⟨its,r,ht,hz⟩:=I.list hx
  have hlen:=r.length
  refine ⟨"list",_,slot_list_getitem.lookup,ht.isList.typeIs,?_⟩
  refine wpAny_getItem_list_slice ht.isList hs pl pu .none (by simp) ?_ (by rw [List.size_toArray] <;> omega)
  rw [slicePick_cut,← hlen]
  refine ⟨.ref s.heap.objs.size,_,I.laid (t':=s.toks) (o:=.lst (cutV xs lo hi)) (fun b ob q=>Heap.get?_push_of_some _ q) (Nat.le_refl _) ?_,rfl,q _ (I.hok.fresh (Nat.le_refl _))⟩
  exact ⟨Nat.le_trans (cutV_length xs lo hi) hz,_,0,(r.drop (HT.sIx xs.length 0 lo)).take (HT.sIx xs.length xs.length hi - HT.sIx xs.length 0 lo),Heap.get?_push_size _ rfl⟩
def flatV : V→Bool
  | .non=>true
  | .bl _=>true
  | .int _=>true
  | .str _=>true
  | _=>false
def eqV : V→V→Bool
  | .non,.non=>true
  | .bl a,.bl b=>a == b
  | .bl a,.int b=>(if a then 1 else 0) == b
  | .int a,.bl b=>a == (if b then 1 else 0)
  | .int a,.int b=>a == b
  | .str a,.str b=>a == b
  | _,_=>false
theorem eqAt_V {A : Around} {s : Shared} {y x : V} {u v : Value} (ry : RelV y u) (rx : RelV x v) (fy : flatV y = true) (fx : flatV x = true) : SeqAt.EqAt A s u v (eqV y x):=by
  cases y with
  | non =>
    cases ry
    cases x with
    | non=>cases rx; exact SeqAt.EqAt.same _
    | bl b=>cases rx; exact SeqAt.EqAt.none_bool b
    | int b=>obtain ⟨t,rfl⟩:=rx; exact SeqAt.EqAt.none_int b t
    | str b=>obtain ⟨t,rfl⟩:=rx; exact SeqAt.EqAt.none_str b t
    | _=>exact absurd (show false = true from fx) Bool.false_ne_true
  | bl a =>
    cases ry
    cases x with
    | non=>cases rx; exact SeqAt.EqAt.bool_none a
    | bl b=>cases rx; exact SeqAt.EqAt.bool_bool a b
    | int b=>obtain ⟨t,rfl⟩:=rx; exact SeqAt.EqAt.bool_int a b t
    | str b=>obtain ⟨t,rfl⟩:=rx; exact SeqAt.EqAt.bool_str a b t
    | _=>exact absurd (show false = true from fx) Bool.false_ne_true
  | int a =>
    obtain ⟨t',rfl⟩:=ry
    cases x with
    | non=>cases rx; exact SeqAt.EqAt.int_none a t'
    | bl b=>cases rx; exact SeqAt.EqAt.int_bool a t' b
    | int b=>obtain ⟨t,rfl⟩:=rx; exact SeqAt.EqAt.int_int a t' b t
    | str b=>obtain ⟨t,rfl⟩:=rx; exact SeqAt.EqAt.int_str a t' b t
    | _=>exact absurd (show false = true from fx) Bool.false_ne_true
  | str a =>
    obtain ⟨t',rfl⟩:=ry
    cases x with
    | non=>cases rx; exact SeqAt.EqAt.str_none a t'
    | bl b=>cases rx; exact SeqAt.EqAt.str_bool a t' b
    | int b=>obtain ⟨t,rfl⟩:=rx; exact SeqAt.EqAt.str_int a t' b t
    | str b=>obtain ⟨t,rfl⟩:=rx; exact SeqAt.EqAt.str_str a t' b t
    | _=>exact absurd (show false = true from fx) Bool.false_ne_true
  | _=>exact absurd (show false = true from fy) Bool.false_ne_true
def eqU (x : V) (u : Value) : Bool:=match u with
  | .none=>eqV .non x
  | .bool b=>eqV (.bl b) x
  | .int i _=>eqV (.int i) x
  | .str z _=>eqV (.str z) x
  | _=>false
theorem eqU_of {x y : V} {u : Value} (r : RelV y u) (f : flatV y = true) : eqU x u = eqV y x:=by
  cases y with
  | non=>cases r; rfl
  | bl b=>cases r; rfl
  | int i=>obtain ⟨t,rfl⟩:=r; rfl
  | str z=>obtain ⟨t,rfl⟩:=r; rfl
  | _=>exact absurd (show false = true from f) Bool.false_ne_true
theorem any_eqU {x : V} : ∀ {xs : List V} {us : List Value},Vals xs us→xs.all flatV = true→us.any (eqU x) = xs.any fun y=>eqV y x
  | _,_,.nil,_=>rfl
  | y :: xs,u :: us,.cons r t,f=>by
    rw [List.all_cons,Bool.and_eq_true] at f
    rw [List.any_cons,List.any_cons,eqU_of r f.1,any_eqU t f.2]
theorem mem_eqAt {A : Around} {s : Shared} {x : V} {v : Value} (rx : RelV x v) (fx : flatV x = true) : ∀ {xs : List V} {us : List Value},Vals xs us→xs.all flatV = true→∀ u ∈ us,SeqAt.EqAt A s u v (eqU x u)
  | _,_,.nil,_=>fun u hu=>by cases hu
  | y :: xs,u :: us,.cons r t,f=>fun u' hu=>by
    rw [List.all_cons,Bool.and_eq_true] at f
    rcases List.mem_cons.mp hu with rfl | hu
    · rw [eqU_of r f.1]; exact eqAt_V r rx f.1 fx
    · exact mem_eqAt rx fx t f.2 u' hu
def inV (x : V) (xs : List V) : Bool:=xs.any fun y=>eqV y x
def rIn (K : PySem.W.Frag) (neg : Bool) : R2:=fun x y H Q=>∃ p xs,y = .ref p∧(SqL K H p xs∨SqT K H p xs)∧flatV x = true∧xs.all flatV = true∧Q (.bl (if neg then !inV x xs else inV x xs)) H
theorem op_in_seq : OpR X (compareOp .In) (rIn X.K false):=by
  intro pins s σ H x y v u Q I rx ry h
  obtain ⟨p,xs,rfl,hq,fx,fs,q⟩:=h
  cases ry
  rcases hq with hq | hq
  · obtain ⟨its,r,pl,hz⟩:=I.list hq
    refine SeqAt.in_listAt (eqU x) pl.isList (fun w hw=>mem_eqAt rx fx r fs w (by simpa using hw)) ⟨.bl _,H,I,rfl,?_⟩
    rw [show its.toArray.any (eqU x) = its.any (eqU x) by simp,any_eqU r fs]
    exact q
  · obtain ⟨its,r,pl,hz⟩:=I.tuple hq
    refine SeqAt.in_tupleAt (eqU x) pl (fun w hw=>mem_eqAt rx fx r fs w (by simpa using hw)) ⟨.bl _,H,I,rfl,?_⟩
    rw [show its.toArray.any (eqU x) = its.any (eqU x) by simp,any_eqU r fs]
    exact q
theorem call_len_seq : CallR X (.builtin "len") (fun xs H Q=>∃ p ys,xs = [.ref p]∧(SqL X.K H p ys∨SqT X.K H p ys)∧Q (.int ys.length) H):=by
  intro pins s σ H xs us Q I r h
  obtain ⟨p,ys,rfl,hq,q⟩:=h
  obtain ⟨u,rfl,rx⟩:=vals1 r
  cases rx
  have hn:=line63
  rcases hq with hq | hq
  · obtain ⟨its,r',pl,hz⟩:=I.list hq
    have hlen:=r'.length
    exact Calls.call_len_list pl.isList (by simp only [List.size_toArray] <;> omega) ⟨.int ys.length,H,I.tok _,⟨s.toks + 1,by rw [List.size_toArray,hlen]⟩,q⟩
  · obtain ⟨its,r',pl,hz⟩:=I.tuple hq
    have hlen:=r'.length
    exact len_tuple pl (by simp only [List.size_toArray] <;> omega) ⟨.int ys.length,H,I.tok _,⟨s.toks + 1,by rw [List.size_toArray,hlen]⟩,q⟩
theorem CallR.or {f : Value} {r r' : List V→Hp→VK→Prop} (h : CallR X f r) (h' : CallR X f r') : CallR X f (fun xs H Q=>r xs H Q∨r' xs H Q):=by
  intro pins s σ H xs us Q I rs q
  rcases q with q | q
  · exact h pins s σ H xs us Q I rs q
  · exact h' pins s σ H xs us Q I rs q
theorem call_list_of : CallR X (.type "list") (fun xs H Q=>∃ p ys,xs = [.ref p]∧(SqL X.K H p ys∨SqT X.K H p ys)∧∀ l,H l = none→Q (.ref l) (upd H l (.lst ys))):=by
  intro pins s σ H xs us Q I r h
  obtain ⟨p,ys,rfl,hq,q⟩:=h
  obtain ⟨u,rfl,rx⟩:=vals1 r
  cases rx
  have fin : ∀ (its : List Value),Vals ys its→ys.length≤sizeLine→∀ (h' : Heap) (c' : Nat),(∀ b o',s.heap.get? b = some o'→h'.get? b = some o') →
      h'.get? s.heap.objs.size = some { cls:=.type "list",dict:=none,data:=.seq its.toArray c',slots:=#[] }→EP X pins σ Q (.ref s.heap.objs.size) { s with heap:=h' }:=fun its r' hz h' c' kp e =>
    ⟨.ref s.heap.objs.size,_,I.laid (t':=s.toks) kp (Nat.le_refl _) (show ObjOk X.prog X.w _ h' _ (.lst ys) from ⟨hz,its,c',r',e⟩),rfl,q _ (I.hok.fresh (Nat.le_refl _))⟩
  rcases hq with hq | hq
  · obtain ⟨its,r',pl,hz⟩:=I.list hq
    have hlen:=r'.length
    obtain ⟨o,ho,hc,n,hd⟩:=pl.isList
    exact call_list_seq p (.inl rfl) ho hc hd (fun h' c' kp e=>fin its r' hz h' c' kp e) (by simp only [List.size_toArray] <;> omega)
  · obtain ⟨its,r',pl,hz⟩:=I.tuple hq
    have hlen:=r'.length
    obtain ⟨o,ho,hc,n,hd⟩:=pl
    exact call_list_seq p (.inr rfl) ho hc hd (fun h' c' kp e=>fin its r' hz h' c' kp e) (by simp only [List.size_toArray] <;> omega)
theorem call_tuple_of : CallR X (.type "tuple") (fun xs H Q=>∃ p ys,xs = [.ref p]∧((SqL X.K H p ys∧∀ l,H l = none→Q (.ref l) (upd H l (.tup ys)))∨(SqT X.K H p ys∧Q (.ref p) H))):=by
  intro pins s σ H xs us Q I r h
  obtain ⟨p,ys,rfl,h⟩:=h
  obtain ⟨u,rfl,rx⟩:=vals1 r
  cases rx
  rcases h with ⟨hq,q⟩ | ⟨hq,q⟩
  · obtain ⟨its,r',pl,hz⟩:=I.list hq
    have hlen:=r'.length
    refine call_tuple_list pl.isList (fun h' kp=>?_) (by simp only [List.size_toArray] <;> omega)
    have I1 : Inv X pins σ H { s with heap:=h' }:=I.kept (t':=s.toks) kp
    have I2 : Inv X pins σ (upd H h'.objs.size (.tup ys)) { s with heap:=h'.push { cls:=.type "tuple",data:=.seq its.toArray } } :=
      I1.laid (t':=s.toks) (fun b o e=>Heap.get?_push_of_some _ e) (Nat.le_refl _) (show ObjOk X.prog X.w _ _ _ (.tup ys) from ⟨hz,its,r',IsTup.new _ _⟩)
    exact ⟨.ref h'.objs.size,_,I2,rfl,q _ (I1.hok.fresh (Nat.le_refl _))⟩
  · obtain ⟨its,r',pl,hz⟩:=I.tuple hq
    exact call_tuple_same pl ⟨.ref p,H,I,rfl,q⟩
def tyV (K : PySem.W.Frag) (T : String) (x : V) (H : Hp) : Prop:=match x with
  | .str _=>T = "str"
  | .int _=>T = "int"
  | .ref p=>(T = "list"∧∃ xs,SqL K H p xs)∨(T = "tuple"∧∃ o,K.lookup p = some o∧o.cls = .type "tuple"∧o.dict = none) ∨
      (T = "dict"∧((∃ kvs,H p = some (.dK kvs))∨∃ kvs,H p = some (.dT kvs)))∨(T = "set"∧∃ S n,H p = some (.set S n))
  | _=>False
theorem tyV_is {pins : List (Addr × Obj)} {σ : St} {H : Hp} {s : Shared} {T : String} {x : V} {v : Value} (I : Inv X pins σ H s) (r : RelV x v) (ty : tyV X.K T x H) :
    s.TypeIs v T∧∀ a,v = .ref a→∃ ob,s.heap.get? a = some ob∧ob.dict = none:=by
  cases x with
  | str z =>
    obtain ⟨t,rfl⟩:=r
    cases (show T = "str" from ty)
    exact ⟨typeIs_str s z t,fun _ e=>nomatch e⟩
  | int i =>
    obtain ⟨t,rfl⟩:=r
    cases (show T = "int" from ty)
    exact ⟨typeIs_int s i t,fun _ e=>nomatch e⟩
  | ref p =>
    cases r
    rcases ty with ⟨rfl,xs,hq⟩ | ⟨rfl,o,hk,hc,hd⟩ | ⟨rfl,hk⟩ | ⟨rfl,S,n,hk⟩
    · obtain ⟨its,_,pl,_⟩:=I.list hq
      refine ⟨pl.isList.typeIs,fun a e=>?_⟩
      cases e
      obtain ⟨o,n,e,c,hd,_⟩:=pl
      exact ⟨o,e,hd⟩
    · refine ⟨⟨o,I.kIn p o hk,hc⟩,fun a e=>?_⟩
      cases e
      exact ⟨o,I.kIn _ o hk,hd⟩
    · have z : ∃ o,s.heap.get? p = some o∧o.ExactDict:=by
        rcases hk with ⟨kvs,hk⟩ | ⟨kvs,hk⟩
        · obtain ⟨_,_,_,_,o,_,_,e,ex,_⟩:=I.hok p _ hk
          exact ⟨o,e,ex⟩
        · obtain ⟨_,_,_,_,o,_,_,e,ex,_⟩:=I.hok p _ hk
          exact ⟨o,e,ex⟩
      obtain ⟨o,e,ex⟩:=z
      refine ⟨⟨o,e,ex.1⟩,fun a e2=>?_⟩
      cases e2
      exact ⟨o,e,ex.2.1⟩
    · obtain ⟨o,_,_,_,e,ex,_⟩:=I.hok p _ hk
      refine ⟨⟨o,e,ex.1⟩,fun a e2=>?_⟩
      cases e2
      exact ⟨o,e,ex.2.1⟩
  | _=>exact False.elim ty
def tBM0 (K : PySem.W.Frag) (T : String) (r : V→List V→Hp→VK→Prop) (to : TE) : TE:=fun σ H Q=>to σ H fun x H1=>tyV K T x H1∧r x [] H1 Q
def tBM (K : PySem.W.Frag) (T : String) (r : V→List V→Hp→VK→Prop) (to : TE) (t : TA) : TE:=fun σ H Q=>to σ H fun x H1=>tyV K T x H1∧t σ H1 fun xs H2=>r x xs H2 Q
variable {o e : Expr} {es : List Expr} {to : TE} {t : TA} {name : Str} {apos cpos : Pos} {T id : String} {r : V→List V→Hp→VK→Prop}
theorem pe_bm (pa : PlainAttrs T) (slot : Slot T name id) (hty : typeOf (.builtin id) = pure (.type "method_descriptor")) (hm : MtR X id r) (ho : PE X o to) (ha : PA X (e :: es) t)
    (hbase : attributeBase o name X.env (eval o X.env) = eval o X.env:=by rfl)
    (hfew : ((backTo cpos (starEach (e :: es) X.env)).all (fun x=>!x.1) && (backToKw cpos (keywordEach [] X.env)).all (fun x=>x.1.isSome)
      && decide ((e :: es).length + ([] : List Keyword).length + (if ([] : List Keyword).isEmpty then 0 else 1) < 30)) = true:=by rfl)
    (hline : (apos.endLine == cpos.line) = true:=by rfl) (hs : starEach (e :: es) X.env = (false,eval e X.env) :: starEach es X.env:=by rfl) (hplain : (backTo cpos (starEach es X.env)).any (·.1) = false:=by rfl) :
    PE X (.Call (.Attribute o name apos) (e :: es) [] cpos) (tBM X.K T r to t):=by
  intro pins s σ H Q I h
  refine wpAny_Call_method_late hbase hfew hline rfl (thn (ho pins s σ H _ I h) fun v s1 ⟨x,H1,I1,r1,ty,q1⟩=>?_)
  obtain ⟨h1,h2⟩:=tyV_is I1 r1 ty
  refine ⟨T,id,pa,slot,hty,h1,h2,?_⟩
  have hA:=ha cpos pins s1 σ H1 _ I1 q1
  rw [hs] at hA ⊢
  refine Calls.callWith_builtin (by show (false || (backTo cpos (starEach es X.env)).any (·.1)) = false; rw [hplain] <;> rfl) (Calls.evalArgs_plain ?_)
  exact thn hA fun us s2 ⟨vs,H2,I2,r2,q2⟩=>hm pins s2 σ H2 x vs v us Q I2 r1 r2 q2
end
end L2
namespace L2
open PySem PySem.Spec PyProof.Rows
def MtM (X : Cx) (id : String) (r : V→List V→Hp→VK→Prop) : Prop :=
  ∀ (pins : List (Addr × Obj)) (s : Shared) (σ : St) (H : Hp) (x : V) (xs : List V) (v : Value) (us : List Value) (Q : VK),Inv X pins σ H s→RelV x v→Vals xs us→r x xs H Q →
    wpAny (model X.prog X.w) X.A (call (.builtin id) (v :: us)) (EP X pins σ Q) X.xe s
theorem Vals.one : ∀ {x : V} {us : List Value},Vals [x] us→∃ u,us = [u]∧RelV x u
  | _,_,.cons r .nil=>⟨_,rfl,r⟩
theorem Vals.two : ∀ {x y : V} {us : List Value},Vals [x,y] us→∃ u v,us = [u,v]∧RelV x u∧RelV y v
  | _,_,_,.cons r (.cons q .nil)=>⟨_,_,rfl,r,q⟩
theorem Vals.zero : ∀ {us : List Value},Vals [] us→us = []
  | _,.nil=>rfl
theorem Vals.dropLast {xs : List V} {us : List Value} (h : Vals xs us) : Vals xs.dropLast us.dropLast:=by
  induction h with
  | nil=>exact .nil
  | cons r t ih =>
    cases t with
    | nil=>exact .nil
    | cons q t'=>exact .cons r ih
theorem Vals.eraseIdx : ∀ {xs : List V} {us : List Value} (i : Nat),Vals xs us→Vals (xs.eraseIdx i) (us.eraseIdx i)
  | _,_,_,.nil=>.nil
  | _,_,0,.cons _ t=>t
  | _,_,i + 1,.cons r t=>.cons r (Vals.eraseIdx i t)
theorem Vals.reverse {xs : List V} {us : List Value} (h : Vals xs us) : Vals xs.reverse us.reverse:=by
  induction h with
  | nil=>exact .nil
  | cons r t ih=>rw [List.reverse_cons,List.reverse_cons]; exact Vals.append ih (.cons r .nil)
theorem Vals.rep {xs : List V} {us : List Value} (h : Vals xs us) : ∀ k : Nat,Vals (List.replicate k xs).flatten (List.replicate k us).flatten
  | 0=>.nil
  | k + 1=>by
    rw [List.replicate_succ,List.replicate_succ,List.flatten_cons,List.flatten_cons]
    exact Vals.append h (Vals.rep h k)
theorem len_erase {α : Type} : ∀ (l : List α) (i : Nat),(l.eraseIdx i).length≤l.length
  | [],_=>Nat.le_refl _
  | _ :: _,0=>Nat.le_succ _
  | _ :: r,i + 1=>Nat.succ_le_succ (len_erase r i)
theorem foldl_rep (its : List Value) : ∀ (k : Nat) (acc : List Value),
    List.foldl (fun x1 x2=>x1 ++ x2) acc.toArray (List.replicate k its.toArray) = (acc ++ (List.replicate k its).flatten).toArray
  | 0,acc=>by simp
  | k + 1,acc=>by
    have e : acc.toArray ++ its.toArray = (acc ++ its).toArray:=by simp
    have e2 : (acc ++ its) ++ (List.replicate k its).flatten = acc ++ (List.replicate (k + 1) its).flatten:=by
      rw [List.replicate_succ,List.flatten_cons,List.append_assoc]
    rw [← e2,← foldl_rep its k (acc ++ its),← e,List.replicate_succ,List.foldl_cons]
section
variable {X : Cx} {pins : List (Addr × Obj)} {σ : St} {H : Hp} {s : Shared} {l b : Addr} {xs ys zs : List V}
theorem Inv.lset {its its' : List Value} {n : Nat} {f : Array Value→Array Value} {t' : Nat} (I : Inv X pins σ H s) (hH : H l = some (.lst xs))
    (e : s.heap.get? l = some { cls:=.type "list",data:=.seq its.toArray n }) (hf : f its.toArray = its'.toArray) (hv : Vals ys its') (hz : ys.length≤sizeLine) :
    Inv X pins σ (upd H l (.lst ys)) { s with heap:=s.heap.update l (Obj.mapSeq f),toks:=t' }:=by
  have q:=PySem.IsL.update e f
  rw [hf] at q
  refine I.write (x:=l) (e:=l) (by rw [hH]; exact trivial) (.inl rfl) (fun b' u hb hu=>(Heap.get?_update_other s.heap (Obj.mapSeq f) (Ne.symm hb)).trans hu) ⟨_,q⟩ ?_
  exact ⟨hz,its',_,hv,q⟩
theorem Inv.lnew {its : List Value} {t' : Nat} (I : Inv X pins σ H s) (hv : Vals ys its) (hz : ys.length≤sizeLine) :
    Inv X pins σ (upd H s.heap.objs.size (.lst ys)) { s with heap:=s.heap.push { cls:=.type "list",data:=.seq its.toArray },toks:=t' } :=
  I.laid (fun _ _ q=>Heap.get?_push_of_some _ q) (Nat.le_refl _) ⟨hz,its,0,hv,Heap.get?_push_size _ rfl⟩
theorem Inv.fresh (I : Inv X pins σ H s) : H s.heap.objs.size = none:=I.hok.fresh (Nat.le_refl _)
theorem Inv.lstM (I : Inv X pins σ H s) (hH : H l = some (.lst xs)) : xs.length≤sizeLine∧∃ (its : List Value) (n : Nat),Vals xs its∧xs.length = its.length∧s.heap.get? l = some { cls:=.type "list",data:=.seq its.toArray n }:=by
  obtain ⟨z,its,n,r,e⟩:=I.hok l _ hH
  exact ⟨z,its,n,r,r.length,e⟩
theorem notLongL {n : Nat} (h : n≤sizeLine) : Builtin.List.listTooLong n = false:=by
  unfold Builtin.List.listTooLong
  exact decide_eq_false (by omega)
end
section
variable {X : Cx}
def rAppend : V→List V→Hp→VK→Prop:=fun x vs H Q=>∃ l xs y,x = .ref l∧vs = [y]∧H l = some (.lst xs)∧xs.length < sizeLine∧Q .non (upd H l (.lst (xs ++ [y])))
theorem mt_append : MtM X "list.append" rAppend:=by
  intro pins s σ H x vs v us Q I rx rv h
  obtain ⟨l,xs,y,rfl,rfl,hH,hz,q⟩:=h
  cases rx
  obtain ⟨u,rfl,ru⟩:=rv.one
  obtain ⟨z,its,n,r,hl,e⟩:=I.lstM hH
  refine call_meets F.slot_list_append ⟨_,e,rfl⟩ F.entry_list_append (F.args_list_append_2 _ _) (PySem.list_append l its.toArray n u (by rw [List.size_toArray]; omega)) ⟨e,?_⟩
  refine ⟨.non,_,I.lset (its':=its ++ [u]) hH e (by simp) (r.append (.cons ru .nil)) ?_,rfl,q⟩
  rw [List.length_append,List.length_singleton]
  omega
def rExtend : V→List V→Hp→VK→Prop:=fun x vs H Q=>∃ l b xs zs,x = .ref l∧vs = [.ref b]∧H l = some (.lst xs)∧H b = some (.lst zs)∧xs.length + zs.length≤sizeLine∧Q .non (upd H l (.lst (xs ++ zs)))
def rPop : V→List V→Hp→VK→Prop:=fun x vs H Q=>∃ l xs y,x = .ref l∧vs = []∧H l = some (.lst xs)∧xs[xs.length - 1]? = some y∧Q y (upd H l (.lst xs.dropLast))
def rPopAt : V→List V→Hp→VK→Prop:=fun x vs H Q=>∃ l xs i k y,x = .ref l∧vs = [.int i]∧H l = some (.lst xs)∧-(2 ^ 63)≤i∧i < 2 ^ 63∧seqIndex? i xs.length = some k∧xs[k]? = some y∧Q y (upd H l (.lst (xs.eraseIdx k)))
theorem mt_popAt : MtM X "list.pop" rPopAt:=by
  intro pins s σ H x vs v us Q I rx rv h
  obtain ⟨l,xs,i,k,y,rfl,rfl,hH,h1,h2,hk,hy,q⟩:=h
  cases rx
  obtain ⟨u,rfl,ru⟩:=rv.one
  obtain ⟨t,rfl⟩:=ru
  obtain ⟨z,its,n,r,hl,e⟩:=I.lstM hH
  obtain ⟨w,hw,rw'⟩:=r.get hy
  refine call_meets F.slot_list_pop ⟨_,e,rfl⟩ F.entry_list_pop (F.args_list_pop_2 _ _)
    (MeetsSeq.list_pop_at l its.toArray n i t k w (fitsIndex_both h1 h2) (by rw [List.size_toArray,← hl]; exact hk) (by rw [← Array.getElem?_toList]; exact hw) (by rw [List.size_toArray]; omega)) ⟨e,?_⟩
  refine ⟨y,_,I.lset (its':=its.eraseIdx k) hH e ?_ (r.eraseIdx k) ?_,rw',q⟩
  · show its.toArray.eraseIdxIfInBounds k = (its.eraseIdx k).toArray
    rw [List.eraseIdxIfInBounds_toArray]
  · have:=len_erase xs k
    omega
def rCat : R2:=fun x y H Q=>∃ l b xs zs,x = .ref l∧y = .ref b∧H l = some (.lst xs)∧H b = some (.lst zs)∧xs.length + zs.length≤sizeLine∧∀ p,H p = none→Q (.ref p) (upd H p (.lst (xs ++ zs)))
theorem op_cat : OpR X (binaryOp .Add) rCat:=by
  intro pins s σ H x y v u Q I rx ry h
  obtain ⟨l,b,xs,zs,rfl,rfl,hH,hB,hz,q⟩:=h
  cases rx
  cases ry
  obtain ⟨z,its,n,r,hl,e⟩:=I.lstM hH
  obtain ⟨z2,its2,n2,r2,hl2,e2⟩:=I.lstM hB
  refine PySem.P.add_list e e2 ?_ (by rw [List.size_toArray,List.size_toArray]; omega)
  have ea : its.toArray ++ its2.toArray = (its ++ its2).toArray:=by simp
  rw [ea]
  exact ⟨.ref _,_,I.lnew (t':=s.toks) (r.append r2) (by rw [List.length_append]; omega),rfl,q _ I.fresh⟩
def rRep : R2:=fun x y H Q=>∃ l k xs,x = .ref l∧y = .int k∧H l = some (.lst xs)∧-(2 ^ 63)≤k∧k < 2 ^ 63∧xs.length * k.toNat≤sizeLine ∧
  ∀ p,H p = none→Q (.ref p) (upd H p (.lst (List.replicate k.toNat xs).flatten))
theorem len_rep {α : Type} (xs : List α) (k : Nat) : (List.replicate k xs).flatten.length = k * xs.length:=by
  induction k with
  | zero=>simp
  | succ k ih=>rw [List.replicate_succ,List.flatten_cons,List.length_append,ih,Nat.succ_mul,Nat.add_comm]
theorem op_rep : OpR X (binaryOp .Mult) rRep:=by
  intro pins s σ H x y v u Q I rx ry h
  obtain ⟨l,k,xs,rfl,rfl,hH,h1,h2,hz,q⟩:=h
  cases rx
  obtain ⟨t,rfl⟩:=ry
  obtain ⟨z,its,n,r,hl,e⟩:=I.lstM hH
  have hlen : its.toArray.size * k.toNat≤sizeLine:=by rw [List.size_toArray,← hl]; exact hz
  have hcap : ¬ its.toArray.size * k.toNat > (2 ^ 63 - 1) / 8:=by
    have : (sizeLine : Nat)≤(2 ^ 63 - 1) / 8:=by decide
    omega
  have hfit : ¬ (!Builtin.List.listFitsIndex k) = true:=by
    rw [fitsIndex_both h1 h2]
    exact Bool.false_ne_true
  have hlong : ¬ Builtin.List.listTooLong (its.toArray.size * k.toNat) = true:=by
    rw [notLongL hlen]
    exact Bool.false_ne_true
  have hnew : List.foldl (fun x1 x2=>x1 ++ x2) #[] (List.replicate (if its.toArray.isEmpty = true then 0 else k.toNat) its.toArray) = (List.replicate k.toNat its).flatten.toArray:=by
    have f0 : ∀ m : Nat,List.foldl (fun x1 x2=>x1 ++ x2) #[] (List.replicate m its.toArray) = (List.replicate m its).flatten.toArray:=fun m=>by
      have:=foldl_rep its m []
      rw [List.nil_append] at this
      exact this
    rw [f0]
    cases its with
    | nil=>simp
    | cons a r'=>rw [if_neg (by simp)]
  refine wpAny_binaryOp_repeat_ref (T:="list") (U:="int") (by decide) ⟨_,e,rfl⟩ (fun s'=>typeIs_int s' k t) noFill_list_mul F.fills_int_mul F.slot_int_rmul repeat_list F.slot_int_index.lookup
    (call_meets F.slot_int_rmul (typeIs_int s k t) F.entry_int_rmul (F.args_int_rmul_2 _ _) (int___rmul___int_list k t l its.toArray n)
      ⟨e,rfl,⟨_,e,rfl⟩,call_meets F.slot_list_mul ⟨_,e,rfl⟩ F.entry_list_mul (F.args_list_mul_2 _ _) (AutoListH.list___mul___list_int_3 l its.toArray n k t hfit hcap hlong) ⟨e,?_⟩⟩)
  rw [hnew]
  exact ⟨.ref _,_,I.lnew (t':=s.toks) (r.rep k.toNat) (by rw [len_rep,Nat.mul_comm]; exact hz),rfl,q _ I.fresh⟩
end
section
variable {prog : Program} {w : World} {A : Around} {E : Value→Shared→Prop} {s : Shared}
end
section
variable {X : Cx}
end
end L2
namespace Att
open PySem PySem.W PySem.Calls PyProof.Rows
theorem ints_of_wellAll {P : Params} {h : Heap} : ∀ (ns : List Int) (vs : List Value),WellAll P h vs (ns.map WData.int)→IntsAre vs ns:=by
  intro ns
  induction ns with
  | nil =>
    intro vs w
    rw [List.map_nil] at w
    cases w
    exact .nil
  | cons n ns ih =>
    intro vs w
    rw [List.map_cons] at w
    cases w with
    | cons a b =>
      cases a
      exact .cons _ _ (ih _ b)
theorem script_of {l : OpenLaw} {n : Nat} (hn : l.most = some n) {P : Params} {h : Heap} {args : List WData} {vals : List Value}
    (hpre : l.row.toRowW.claim.pre args = true) (hwl : WellAll P h vals args) :
    ∃ a vs ns,vals = [Value.ref a]∧args = [WData.list (ns.map WData.int)]∧h.get? a = some { cls:=.type "list",data:=.seq vs.toArray }∧IntsAre vs ns∧ns.length≤n:=by
  have hsh : WShape.hasAll [] args [.list .int] = true:=(pre_splitW hpre).1
  have hc : l.pre.holds [] { args:=args } = true:=(pre_splitW hpre).2
  obtain ⟨d,r,rfl,h1,h2⟩:=hasAllW_cons hsh
  obtain rfl:=hasAllW_nil h2
  obtain ⟨xs,rfl,h3⟩:=hasW_list h1
  obtain ⟨ns,rfl⟩:=items_int h3
  have hlen : ns.length≤n:=by
    unfold OpenLaw.pre at hc
    have h4 : (WTm.not (.lt (.lit (.int (n : Int))) (.len (.arg 0)))).holds [] { args:=[.list (ns.map .int)] } = true:=by
      have h4:=(holds_andW hc).1
      rw [hn] at h4
      exact h4
    have h5:=condW_of h4 (w_not (w_lt w_lit (w_len_list (w_arg rfl))))
    rw [List.length_map] at h5
    refine Nat.le_of_not_lt fun q=>?_
    have q' : (n : Int) < ((ns.length : Nat) : Int):=by omega
    first
      | (rw [decide_eq_true q'] at h5; exact absurd h5 (by decide))
      | (simp at h5; omega)
  cases hwl with
  | cons w1 w2 =>
    cases w2
    cases w1 with
    | list ho hall=>exact ⟨_,_,ns,rfl,rfl,ho,ints_of_wellAll ns _ hall,hlen⟩
theorem post_true (l : OpenLaw) (args : List WData) : l.row.toRowW.claim.post args (.bool true) args = true :=
  postW_of (r:=l.row.toRowW) (X:=(true == true))
    (show WShape.has [] (.bool true) .bool = true by first | rfl | decide | simp [WShape.has,WShape.arms,WShape.armsAll])
    (show (WTm.eq .res (.lit (.bool true))).value [] { args:=args,res:=some (.bool true),after:=args } = some (.bool (true == true)) from w_eq_bool (w_res rfl) w_lit) rfl
theorem attach_call {l : OpenLaw} {n : Nat} {q : Program} {loose : List Str} {XP : (Str→Option Value)→Heap→Prop} {YP : World→Heap→Prop} {d : DefRec}
    (hn : l.most = some n) (hdf : d.params.defaults = [])
    (call : ∀ (w : World) (s₀ s₁ : Shared) (mg mb : Str→Option Value) (fa : Addr) (o : Obj) (pm cd doc : Value) (a : Addr) (vs : List Value) (ns : List Int),
      Ground q loose [] XP w s₀ mg mb s₁.heap→YP w s₁.heap →
      s₁.heap.get? fa = some o→o.data = .func (docDef d.name d.params d.body d.scope pm cd doc)→s₁.heap.CodeRec cd d.name→mg d.name = some (.ref fa) →
      s₁.heap.get? a = some { cls:=.type "list",data:=.seq vs.toArray }→IntsAre vs ns→ns.length≤n→s₁.gens = #[] →
      codeAny (model l.prog w) callerA (.call (.ref fa) ⟨[.ref a],[]⟩) (fun r s'=>r = .ok (.ret (.bool true))∧OldK s₁.heap s'.heap∧s'.os = s₁.os∧AllBare s'.gens) s₁) :
    WalkO q loose XP YP l.row.toRowW d [] (fun f vs=>PySem.call f vs):=by
  intro w s₀ s₁ mg mb G Y fa o pm cd doc dV kV ho hd hcd hD hmg hg args vals as hpre hlay hrd hwl hlo
  obtain rfl : dV = .none:=Dflts.none hD hdf
  obtain rfl : kV = .none:=Dflts.noKw hD
  obtain ⟨a,vs,ns,rfl,rfl,hobj,hints,hlen⟩:=script_of hn hpre hwl
  refine enter_call (codeAny_mono (call w s₀ s₁ mg mb fa o pm cd doc a vs ns G Y ho (fd_plain hd) hcd hmg hobj hints hlen hg) fun r s' hq=>?_)
  obtain ⟨rfl,h2,h3,h4⟩:=hq
  exact ⟨.inl ⟨.bool true,.bool true,[],rfl,fun _=>rfl,.bool true,post_true l _,fun _=>⟨List.Pairwise.nil,fun _ hm=>(nomatch hm)⟩⟩,h2,h3,h4⟩
section
variable {prog : Program} {w : World} {A : Around} {E : Value→Shared→Prop} {s : Shared} {K : Frag}
end
end Att
namespace L2
open PySem PySem.Spec PyProof.Rows
theorem vals_ints : ∀ {vs : List Value} {ns : List Int},IntsAre vs ns→Vals (ns.map V.int) vs
  | _,_,.nil=>.nil
  | _,_,.cons n t h=>.cons ⟨t,rfl⟩ (vals_ints h)
end L2
namespace L2
open PySem PySem.Spec PyProof.Rows
end L2
namespace L2
open PySem PySem.Spec PyProof.Rows
def defArgs (s : Stmt) : Arguments:=match s with
  | .FunctionDef _ a _ _ _ _ _ _ _ _=>a
  | _=>{ posonlyargs:=[],args:=[],vararg:=none,kwonlyargs:=[],kw_defaults:=[],kwarg:=none,defaults:=[] }
def defBody (s : Stmt) : List Stmt:=match s with
  | .FunctionDef _ _ b _ _ _ _ _ _ _=>b
  | _=>[]
def defScope (s : Stmt) : Scope:=match s with
  | .FunctionDef _ _ _ _ _ _ sc _ _ _=>sc
  | _=>{ kind:=.function,names:=[],isGenerator:=false,isCoroutine:=false }
abbrev CX0 : CXT:=fun _ _ _ _ _ _=>False
abbrev E0 : XK:=fun _ _ _=>False
structure Fun (K : PySem.W.Frag) (x qual : Str) (st : Stmt) (f : Addr) (fd : FuncData) : Prop where
  ex : ∃ (oc : Value) (od : Option Addr) (kV doc pm : Value) (an : Option Addr) (cdv ct : Value) (osl : Array (Option Value)),
    fd = PySem.W.fnOf x qual (defArgs st) (defBody st) (defScope st) .none kV doc pm an cdv ct∧K.lookup f = some ⟨oc,od,.func fd,osl⟩∧PySem.W.codeIn K cdv qual = true
  kp : PySem.W.keepIn K (.ref f) = true
section
variable {P : Program} {w : World} {K : PySem.W.Frag} {mg : Str→Option Value} {base : Heap}
theorem Fun.ok {x qual : Str} {st : Stmt} {f : Addr} {fd : FuncData} {N ps : List Str} {k : Nat} {sp : Sp} (F : Fun K x qual st f fd) (S : FnScope N ps (defScope st)) (len : ∀ vs H Q E,sp vs H Q E→vs.length = ps.length)
    (hbody : ∀ (cdv : Value) (A : Around) (outer : List Env) (s : Shared) (H : Hp) (vs : List V) (Q : VK) (E : XK),Room k (A.deeper (envOfC qual (defScope st) s.heap.objs.size f cdv))→sp vs H Q E →
      ∃ t,PSs (cxOf CX0 P w K mg base N qual (defScope st) f cdv A outer s H E).nox (defBody st) t∧t { nx:=fun _ H'=>Q .non H',rt:=Q } (start N vs) H) : FnOk P w K mg base CX0 (k + 1) f fd ps sp:=by
  obtain ⟨oc,od,kV,doc,pm,an,cdv,ct,osl,rfl,lk,hcd⟩:=F.ex
  refine fn_of lk hcd S len fun A outer s H vs Q E hr hsp=>?_
  obtain ⟨t,h,q⟩:=hbody cdv A outer s H vs Q E hr hsp
  exact ⟨t,h.nox,q⟩
theorem Fun.binds {x qual : Str} {st : Stmt} {f : Addr} {fd : FuncData} {ps : List Str} (F : Fun K x qual st f fd)
    (h : ∀ (kV doc pm : Value) (an : Option Addr) (cdv ct : Value) (us : List Value),us.length = ps.length→bindArgs (PySem.W.fnOf x qual (defArgs st) (defBody st) (defScope st) .none kV doc pm an cdv ct) ⟨us,[]⟩ = pure (ps.zip us)) : Binds K fd ps []:=by
  obtain ⟨oc,od,kV,doc,pm,an,cdv,ct,osl,rfl,lk,hcd⟩:=F.ex
  exact .all (h kV doc pm an cdv ct)
theorem fun_mk {x qual : Str} {st : Stmt} {f : Addr} {oc : Value} {od an : Option Addr} {osl : Array (Option Value)} {kV doc pm cdv ct : Value} (l : K.lookup f = some ⟨oc,od,.func (PySem.W.fnOf x qual (defArgs st) (defBody st) (defScope st) .none kV doc pm an cdv ct),osl⟩)
    (c : PySem.W.codeIn K cdv qual = true) (k : PySem.W.keepIn K (.ref f) = true) : Fun K x qual st f (PySem.W.fnOf x qual (defArgs st) (defBody st) (defScope st) .none kV doc pm an cdv ct):=⟨⟨oc,od,kV,doc,pm,an,cdv,ct,osl,rfl,l,c⟩,k⟩
end
section
variable {X : Cx}
theorem pv (i : Nat) {x : Str} {pos : Pos} (hN : X.N[i]? = some x:=by rfl) (hv : Vis X.env.scope x:=by first | exact Or.inl rfl | exact Or.inr (Or.inl rfl) | exact Or.inr (Or.inr rfl)) (hd : (x == ("__debug__" : Str)) = false:=by decide)
    (hcd : (x == ("__classdict__" : Str)) = false:=by decide) : PE X (.Name x pos) (tVar i):=pe_var hN hv hd hcd
end
theorem ite2 {c A B : Prop} [Decidable c] (h1 : c→A) (h2 : ¬ c→B) : if c then A else B:=by
  by_cases h : c
  · rw [if_pos h]
    exact h1 h
  · rw [if_neg h]
    exact h2 h
def Same (H H' : Hp) : Prop:=∀ b o,H b = some o→H' b = some o
theorem Same.refl (H : Hp) : Same H H:=fun _ _ h=>h
theorem Same.trans {H H1 H2 : Hp} (a : Same H H1) (b : Same H1 H2) : Same H H2:=fun c o h=>b c o (a c o h)
theorem Same.free {H H' : Hp} (e : Same H H') {l : Addr} (h : H' l = Option.none) : H l = Option.none:=by
  cases q : H l with
  | none=>rfl
  | some o =>
    rw [e l o q] at h
    cases h
theorem Same.seq {K : PySem.W.Frag} {H H' : Hp} {a : Addr} {xs : List V} (e : Same H H') (h : SqL K H a xs) : SqL K H' a xs:=by
  rcases h with (h | ⟨o,h⟩) | h
  · exact .inl (.inl (e _ _ h))
  · exact .inl (.inr ⟨o,e _ _ h⟩)
  · exact .inr h
end L2
set_option Elab.async false
set_option linter.all false
set_option maxRecDepth 100000
set_option maxHeartbeats 1000000
namespace L2
open PySem PySem.Spec PyProof.Rows
theorem closure_in {env : Env} : ∀ (names : List (Str × NameKind)) (cs0 : List (Str × Addr)),(∀ y ∈ names,y.2 = .free→∃ c,env.cells.lookup y.1 = some c) →
    ∃ cl,(forIn names cs0 (fun (x : Str × NameKind) r=>(do
      match x with
      | (name,kind)=>if (kind == NameKind.free) = true then do let a ← cellOf env name; pure (ForInStep.yield ((name,a) :: r)) else pure (ForInStep.yield r)) : _→_→Sem (ForInStep (List (Str × Addr))))) = pure cl ∧
      (∀ p ∈ cl,p ∈ cs0∨env.cells.lookup p.1 = some p.2)∧(∀ p ∈ cs0,p ∈ cl)∧(∀ y ∈ names,y.2 = .free→∃ c,(y.1,c) ∈ cl)
  | [],cs0,_=>⟨cs0,rfl,fun p h=>.inl h,fun p h=>h,fun y h=>by cases h⟩
  | (n,k) :: r,cs0,h=>by
    by_cases hk : k = .free
    · subst hk
      obtain ⟨c,hc⟩:=h (n,.free) (.head _) rfl
      obtain ⟨cl,e,h1,h2,h3⟩:=closure_in r ((n,c) :: cs0) fun y hy=>h y (.tail _ hy)
      refine ⟨cl,?_,fun p hp=>?_,fun p hp=>h2 p (.tail _ hp),fun y hy hf=>?_⟩
      · rw [List.forIn_cons]
        have e1 : cellOf env n = pure c:=by unfold cellOf; rw [hc]
        simp only [beq_self_eq_true,if_true,e1,pure_bind]
        exact e
      · rcases h1 p hp with q | q
        · rcases List.mem_cons.mp q with q | q
          · subst q; exact .inr hc
          · exact .inl q
        · exact .inr q
      · rcases List.mem_cons.mp hy with q | q
        · subst q; exact ⟨c,h2 _ (.head _)⟩
        · exact h3 y q hf
    · obtain ⟨cl,e,h1,h2,h3⟩:=closure_in r cs0 fun y hy=>h y (.tail _ hy)
      refine ⟨cl,?_,h1,h2,fun y hy hf=>?_⟩
      · rw [List.forIn_cons]
        have e1 : (k == NameKind.free) = false:=by cases k <;> first | rfl | exact absurd rfl hk
        simp only [e1,Bool.false_eq_true,if_false,pure_bind]
        exact e
      · rcases List.mem_cons.mp hy with q | q
        · subst q; exact absurd hf hk
        · exact h3 y q hf
theorem closure_of {env : Env} {scope : Scope} (h : ∀ y ∈ scope.names,y.2 = .free→∃ c,env.cells.lookup y.1 = some c) :
    ∃ cl,closureFor scope env = pure cl∧(∀ x c,cl.lookup x = some c→env.cells.lookup x = some c)∧(∀ y ∈ scope.names,y.2 = .free→∃ c,cl.lookup y.1 = some c∧env.cells.lookup y.1 = some c):=by
  obtain ⟨cl,e,h1,h2,h3⟩:=closure_in (env:=env) scope.names [] h
  have up : ∀ x c,cl.lookup x = some c→env.cells.lookup x = some c:=fun x c q=>by
    rcases h1 _ (PySem.mem_of_lookup q) with z | z
    · cases z
    · exact z
  refine ⟨cl,?_,up,fun y hy hf=>?_⟩
  · unfold closureFor
    simp only [bind_pure_comp] at e ⊢
    rw [e]
    exact pure_bind _ _
  · obtain ⟨c,hc⟩:=h3 y hy hf
    cases q : cl.lookup y.1 with
    | none=>exact absurd (List.lookup_eq_none_iff.mp q _ hc) (by simp)
    | some c'=>exact ⟨c',rfl,up _ _ q⟩
def compOk (around scope : Scope) : Bool :=
  scope.kind == .function && around.kind == .function && scope.names.all fun y=>match y.2 with
    | .local=>scope.names.lookup y.1 == some .local
    | .cell=>false
    | .free=>(scope.names.lookup y.1 == some .free) && (around.names.lookup y.1 == some .cell || around.names.lookup y.1 == some .free)
    | _=>true
theorem compOk_kind {a s : Scope} (h : compOk a s = true) : s.kind = .function:=by
  simp only [compOk,Bool.and_eq_true,beq_iff_eq] at h; exact h.1.1
theorem compOk_at {a s : Scope} (h : compOk a s = true) {y : Str × NameKind} (hy : y ∈ s.names) : (match y.2 with
    | .local=>s.names.lookup y.1 == some .local
    | .cell=>false
    | .free=>(s.names.lookup y.1 == some .free) && (a.names.lookup y.1 == some .cell || a.names.lookup y.1 == some .free)
    | _=>true) = true:=by
  simp only [compOk,Bool.and_eq_true] at h
  exact List.all_eq_true.mp h.2 y hy
theorem compOk_cell {a s : Scope} (h : compOk a s = true) : ∀ y ∈ s.names,y.2≠.cell:=fun y hy e=>by
  have q:=compOk_at h hy
  rw [e] at q
  cases q
theorem compOk_free {a s : Scope} (h : compOk a s = true) : ∀ y ∈ s.names,y.2 = .free→a.names.lookup y.1 = some .cell∨a.names.lookup y.1 = some .free:=fun y hy e=>by
  have q:=compOk_at h hy
  rw [e] at q
  simp only [Bool.and_eq_true,Bool.or_eq_true,beq_iff_eq] at q
  exact q.2
theorem lookup_relabel_inv {env : Env} : ∀ {names : List (Str × NameKind)} {x : Str} {k : NameKind},(names.map fun (n,k)=>if (k == NameKind.free && env.scope.kind == .function && env.kindOf n == some .cell) then (n,NameKind.cell) else (n,k)).lookup x = some k →
    ∃ k',names.lookup x = some k'∧(k = k'∨(k' = .free∧k = .cell))
  | [],_,_,h=>by simp at h
  | (n,k0) :: r,x,k,h=>by
    by_cases hx : x = n
    · subst hx
      refine ⟨k0,by simp,?_⟩
      simp only [List.map_cons] at h
      split at h
      · rename_i hc
        simp only [Bool.and_eq_true,beq_iff_eq] at hc
        simp only [List.lookup_cons_self,Option.some.injEq] at h
        exact .inr ⟨hc.1.1,h.symm⟩
      · simp only [List.lookup_cons_self,Option.some.injEq] at h
        exact .inl h.symm
    · have hb : (x == n) = false:=by simpa using hx
      simp only [List.map_cons] at h
      have e2 : ∀ k1,((n,k1) :: r).lookup x = r.lookup x:=fun k1=>by simp [List.lookup_cons,hb]
      split at h <;> (simp only [List.lookup_cons,hb] at h; obtain ⟨k',h1,h2⟩:=lookup_relabel_inv h; exact ⟨k',by rw [e2]; exact h1,h2⟩)
def compCx (X : Cx) (Nc : List Str) (scope : Scope) (cl : List (Str × Addr)) (C : Addr) (s2 : Shared) (H2 : Hp) (fp : List Addr) : Cx where
  prog:=X.prog
  w:=X.w
  K:=X.K
  mg:=X.mg
  base:=X.base
  A:=X.A
  N:=Nc
  s₀:=s2
  H₀:=H2
  env:=compEnvC scope cl C X.env
  outer:=X.stack
  stack:=X.stack
  ex:=fp
  fn:=fun _=>false
  calm:=X.calm
  pn:=[]
  xe:=fun _ _=>False
def iniC (js : List (Option Nat)) (σ : St) : St:=js.map fun j=>match j with
  | none=>none
  | some i=>(σ[i]?).join
def takesC (N Nc : List Str) (scope : Scope) : List (Option Nat)→Nat→Bool
  | [],i=>i == Nc.length
  | none :: r,i=>takesC N Nc scope r (i + 1)
  | some j :: r,i=>(match Nc[i]?,N[j]? with
    | some x,some y=>x == y && scope.names.lookup x == some .free
    | _,_=>false) && takesC N Nc scope r (i + 1)
theorem takesC_len {N Nc : List Str} {scope : Scope} : ∀ {js : List (Option Nat)} {i : Nat},takesC N Nc scope js i = true→i + js.length = Nc.length
  | [],i,h=>by simpa [takesC] using h
  | none :: r,i,h=>by
    have:=takesC_len (js:=r) (i:=i + 1) (by simpa [takesC] using h)
    simp only [List.length_cons]; omega
  | some j :: r,i,h=>by
    simp only [takesC,Bool.and_eq_true] at h
    have:=takesC_len (js:=r) (i:=i + 1) h.2
    simp only [List.length_cons]; omega
theorem takesC_at {N Nc : List Str} {scope : Scope} : ∀ {js : List (Option Nat)} {i k j : Nat},takesC N Nc scope js i = true→js[k]? = some (some j)→∃ x,Nc[i + k]? = some x∧N[j]? = some x∧scope.names.lookup x = some .free
  | [],i,k,j,h,e=>by simp at e
  | none :: r,i,0,j,h,e=>by simp at e
  | none :: r,i,k + 1,j,h,e=>by
    obtain ⟨x,h1,h2,h3⟩:=takesC_at (js:=r) (i:=i + 1) (k:=k) (j:=j) (by simpa [takesC] using h) (by simpa using e)
    exact ⟨x,by rw [← h1]; congr 1; omega,h2,h3⟩
  | some j0 :: r,i,0,j,h,e=>by
    simp only [takesC,Bool.and_eq_true] at h
    simp only [List.getElem?_cons_zero,Option.some.injEq] at e
    subst e
    cases e1 : Nc[i]? with
    | none=>rw [e1] at h; simp at h
    | some x =>
      cases e2 : N[j0]? with
      | none=>rw [e1,e2] at h; simp at h
      | some y =>
        rw [e1,e2] at h
        simp only [Bool.and_eq_true,beq_iff_eq] at h
        exact ⟨x,by simpa using e1,by rw [h.1.1],h.1.2⟩
  | some j0 :: r,i,k + 1,j,h,e=>by
    simp only [takesC,Bool.and_eq_true] at h
    obtain ⟨x,h1,h2,h3⟩:=takesC_at (js:=r) (i:=i + 1) (k:=k) (j:=j) h.2 (by simpa using e)
    exact ⟨x,by rw [← h1]; congr 1; omega,h2,h3⟩
section
variable {X : Cx}
theorem lookup_mem {names : List (Str × NameKind)} {x : Str} {k : NameKind} (h : names.lookup x = some k) : (x,k) ∈ names:=PySem.mem_of_lookup h
theorem codeAny_compLoop_all {prog : Program} {w : World} {A : Around} {R : Result→Shared→Prop} {s : Shared} {elt target iter : Expr} {ifs : List Expr} {scope : Scope} {pos : Pos} {it acc : Value} {env : Env} (I : Nat→Shared→Prop)
    (turn : ∀ n s,I n s→wpAny (model prog w) A (pyNext it) (fun r s₁=>match r with
      | none=>R (.ok .next) s₁
      | some v=>wpAny (model prog w) A (letOwnedTupleGo target it v) (fun _ s₁=>wpAny (model prog w) A (assign target env v) (fun _ s₂ =>
          wpAny (model prog w) A (forIn ifs true fun c r=>if r = true then do let ok ← isTrue c env (eval c env); pure (ForInStep.yield ok) else pure (ForInStep.yield r)) (fun ok s₃ =>
            if ok = true then wpAny (model prog w) A (eval elt env) (fun x s₄ =>
              wpAny (model prog w) A (call (.builtin "list.append") [acc,x]) (fun _ s₅=>∃ m,m < n∧I m s₅) (fun _ _=>False) s₄) (fun _ _=>False) s₃
            else ∃ m,m < n∧I m s₃) (fun _ _=>False) s₂) (fun _ _=>False) s₁) (fun _ _=>False) s₁) (fun _ _=>False) s)
    (n : Nat) (h : I n s) :
    codeAny (model prog w) A (.compLoop (.ListComp elt [⟨target,iter,ifs,0⟩] scope pos) 0 it acc env) R s:=by
  refine codeAny_loop rfl I (fun n s hI=>?_) n h
  show wpAny _ A ((compTurn (.ListComp elt [⟨target,iter,ifs,0⟩] scope pos) 0 it acc env).onRaise (fun x=>do noteFrame x env; theTreesLotGoes x)) _ _ s
  refine wpAny_noted ?_
  rw [compTurn_list]
  refine wpAny_bind (wpAny_standAt (wpAny_bind (wpAny_mono (turn n s hI) (fun r s₁ h₁=>?_) fun _ _ h'=>h'.elim)))
  cases r with
  | none=>exact wpAny_pure h₁
  | some v =>
    refine wpAny_bind (wpAny_mono h₁ (fun _ s₁' h₁=>?_) fun _ _ h'=>h'.elim)
    refine wpAny_bind (wpAny_mono h₁ (fun _ s₂ h₂=>wpAny_bind (wpAny_mono h₂ (fun ok s₃ h₃=>?_) fun _ _ h'=>h'.elim)) fun _ _ h'=>h'.elim)
    cases ok with
    | false=>exact wpAny_pure ⟨rfl,h₃⟩
    | true =>
      exact wpAny_bind (wpAny_bind (wpAny_mono h₃ (fun x s₄ h₄=>wpAny_bind (wpAny_mono h₄ (fun _ s₅ h₅=>wpAny_pure (wpAny_pure ⟨rfl,h₅⟩)) fun _ _ h'=>h'.elim)) fun _ _ h'=>h'.elim))
def PIfs (X : Cx) (ifs : List Expr) (t : TT) : Prop :=
  ∀ (pins : List (Addr × Obj)) (s : Shared) (σ : St) (H : Hp) (Q : Bool→Hp→Prop),Inv X pins σ H s→t σ H Q →
    wpAny (model X.prog X.w) X.A (forIn ifs true fun c r=>if r = true then do let ok ← isTrue c X.env (eval c X.env); pure (ForInStep.yield ok) else pure (ForInStep.yield r)) (TP X pins σ Q) X.xe s
def tYes : TT:=fun _ H Q=>Q true H
theorem pifs_nil : PIfs X [] tYes:=fun pins s σ H Q I h=>wpAny_tests_nil ⟨H,I,h⟩
theorem pifs_one {c : Expr} {t : TT} (h : PT X c t) : PIfs X [c] t:=fun pins s σ H Q I hq=>wpAny_tests_one (h pins s σ H Q I hq)
def KeepOn (L : List Nat) (σ σ' : St) : Prop:=σ'.length = σ.length∧∀ k,k ∉ L→σ'[k]? = σ[k]?
def OnlyG (g : TG) (L : List Nat) : Prop:=∀ v σ H (Q Q' : St→Hp→Prop),(∀ σ' H',KeepOn L σ σ'→Q σ' H'→Q' σ' H')→g v σ H Q→g v σ H Q'
theorem KeepOn.refl {L : List Nat} {σ : St} : KeepOn L σ σ:=⟨rfl,fun _ _=>rfl⟩
theorem KeepOn.trans {L L' : List Nat} {a b c : St} (x : KeepOn L a b) (y : KeepOn L' b c) : KeepOn (L ++ L') a c :=
  ⟨y.1.trans x.1,fun k hk=>(y.2 k fun z=>hk (List.mem_append_right _ z)).trans (x.2 k fun z=>hk (List.mem_append_left _ z))⟩
theorem only_name {i : Nat} : OnlyG (gName i) [i]:=fun v σ H Q Q' hq h=>hq _ _ ⟨by simp,fun k hk=>by
  rw [List.getElem?_set_ne]
  intro z; subst z; exact hk (by simp)⟩ h
def tComp (wi : TI) (g : TG) (tt : TT) (te : TE) (js : List (Option Nat)) : TE:=fun σ H Q=>wi σ H fun J H1=>∃ W : Nat→Nat→List V→Hp→Prop,(∃ m,W 0 m [] H1)∧∀ i m acc H,W i m acc H →
  (J.stop i H∧acc.length≤sizeLine∧∀ p,H p = none→Q (.ref p) (upd H p (.lst acc))) ∨
  (J.go i H∧acc.length < sizeLine∧∀ x H',J.yld i H x H'→g x (iniC js σ) H' fun σ2 H2=>tt σ2 H2 fun b H3=>if b = true then te σ2 H3 fun v H4=>∃ m',m' < m∧W (i + 1) m' (acc ++ [v]) H4 else ∃ m',m' < m∧W (i + 1) m' acc H3)
theorem sameBut_refl {C : Addr} {h : Heap} : Heap.SameBut C h h:=by
  first | exact Heap.SameBut.refl | exact ⟨rfl,fun _ _=>rfl⟩
end
end L2
set_option Elab.async false
set_option linter.all false
set_option maxRecDepth 100000
set_option maxHeartbeats 1000000
namespace L2
open PySem PySem.Spec PyProof.Rows PySem.W PySem.Builtin.ObjectAttr PySem.Builtin.Getset_descriptor
def ExAt (x C : Addr) (h : Heap) : Prop:=∃ o,h.get? x = some o∧o.cls = .ref C
structure ExK (K : Frag) (C : Addr) : Prop where
  dk : hasDictIn K C = true
  ga : findIn K (.ref C) "__getattribute__" = some (some (.builtin "BaseException.__getattribute__"))
  gt : findIn K (.ref C) "__getattr__" = some none
  cl : findIn K (.ref C) "__class__" = some (some (.builtin "object.__class__"))
  gg : specialIn K (.builtin "object.__class__") "__get__" = some (some (.builtin "getset_descriptor.__get__"))
  tk : takesIn K (.builtin "object.__class__") = some true
  mo : mroIn K C (.type "object") = some true
  mb : mroIn K C (.type "BaseException") = some true
section
variable {K : Frag} {x C : Addr}
theorem ExAt.type {M : Model} {h : Heap} (I : ExAt x C h) : Looks M h (typeOf (.ref x)) (.ref C):=by
  obtain ⟨o,e,c⟩:=I
  exact c ▸ (Looks.ld e).andThen .now
theorem exa_find {M : Model} {h : Heap} (X : K.In h) (Z : ExK K C) : Looks M h (find (.ref x) (.ref C) "__class__") (.bind (.builtin "getset_descriptor.__get__") (.builtin "object.__class__")):=by
  have L3:=looks_takesIn (M:=M) X Z.tk
  exact (looks_findIn (M:=M) X Z.cl).andThen ((looks_specialIn X Z.gg).andThen
    ((show Looks M h (dataDescriptor? (some (.builtin "object.__class__")) (some (.builtin "getset_descriptor.__get__"))) (some (.builtin "getset_descriptor.__get__",.builtin "object.__class__")) from L3.andThen .now).andThen (Looks.tag .now)))
theorem exa_get {prog : Program} {w : World} {A : Around} {R : Result→Shared→Prop} {s : Shared} {tp : Value} (X : K.In s.heap) (I : ExAt x C s.heap) (Z : ExK K C) (hR : R (.ok (.ret (.ref C))) s) :
    codeAny (model prog w) A (.call (.builtin "getset_descriptor.__get__") ⟨[.builtin "object.__class__",.ref x,tp],[]⟩) R s:=by
  obtain ⟨hp,gn,dw,tk,os⟩:=s
  have L0:=I.type (M:=model prog w)
  have L1:=looks_mroIn (M:=model prog w) X Z.mo
  refine codeAny_call_builtin KF.slot_gs.plain KF.entry_gs (KF.slot_gs.check _ _ _ _ _ _ _ _ KF.type_class (KF.args_gs _ _ _) ?_)
  unfold Builtin.«getset_descriptor.__get__» descrGet; rw [dga_obj]; refine wpAny_bind (wpAny_pure ?_)
  unfold descrGetter descrCheckInstance descrNameAndClass isInstance; simp only [KF.owner_class]
  repeat lk
  refine ⟨Code.quiet_builtin _ (by decide +kernel),codeAny_builtin KF.entry_class ?_⟩; unfold Builtin.«object.__class__» shownTypeOf
  repeat lk
  exact hR
theorem exa_entry {prog : Program} {w : World} {A : Around} {E : Value→Shared→Prop} {s : Shared} {tk : Tok} {Q : Fin→Shared→Prop} (X : K.In s.heap) (I : ExAt x C s.heap) (Z : ExK K C) (hQ : Q (.done (.ret (.ref C))) s) :
    wpAny (model prog w) A (Builtin.«object.__getattribute__» ⟨[.ref x,.str "__class__" tk],[]⟩) Q E s:=by
  obtain ⟨hp,gn,dw,t,os⟩:=s
  have L0:=I.type (M:=model prog w)
  have L2:=exa_find (M:=model prog w) (x:=x) X Z
  unfold Builtin.«object.__getattribute__»
  refine wpAny_bind (wpAny_pure (wpAny_bind (wpAny_pure (wpAny_bind (L0.at (wpAny_bind (L2.at ?_)))))))
  show wpAny _ _ (holding _ (call _ _) >>= ret) _ _ _
  exact wpAny_bind (wpAny_holding (wpAny_call (exa_get (s:=⟨hp,gn,dw,t,os⟩) X I Z (wpAny_pure hQ))))
theorem exa_check {M : Model} {A : Around} {E : Value→Shared→Prop} {s : Shared} {nameV : Value} {Q : Unit→Shared→Prop} (X : K.In s.heap) (I : ExAt x C s.heap) (Z : ExK K C) (hq : Q () s) :
    wpAny M A (checkBuiltinCall "BaseException.__getattribute__" ⟨[.ref x,nameV],[]⟩) Q E s:=by
  obtain ⟨hp,gn,dw,t,os⟩:=s
  have hk : builtinKind "BaseException.__getattribute__" = some .slot:=by decide +kernel
  have hsplit : splitId "BaseException.__getattribute__" = some ("BaseException","__getattribute__"):=by decide +kernel
  have L0:=I.type (M:=M)
  have L1:=looks_mroIn (M:=M) X Z.mb
  have ha:=F.args_bexc_ga (.ref x) nameV
  simp only [checkBuiltinCall,hk,hsplit]
  refine wpAny_bind ?_
  unfold isInstance
  refine wpAny_bind (L0.at (L1.at ?_))
  repeat (first | assumption | wp_step)
theorem exa_class {prog : Program} {w : World} {A : Around} {E : Value→Shared→Prop} {s : Shared} {Q : Option Value→Shared→Prop} (X : K.In s.heap) (I : ExAt x C s.heap) (Z : ExK K C) (hQ : Q (some (.ref C)) { s with toks:=s.toks + 1 }) :
    wpAny (model prog w) A (getAttr? (.ref x) "__class__") Q E s:=by
  obtain ⟨hp,gn,dw,tk,os⟩:=s
  have L0:=I.type (M:=model prog w)
  have L1:=looks_findIn (M:=model prog w) X Z.ga
  have L3:=looks_findIn (M:=model prog w) X Z.gt
  have hb:=(F.attrBase_ValueError.ga).bind (.ref x)
  unfold getAttr? getAttrBy? getAttrBy; refine wpAny_bind (wpAny_mkText (wpAny_bind (wpAny_attempt (wpAny_holding (wpAny_bind (L0.at (wpAny_bind (L1.at ?_))))))))
  show wpAny _ _ (getAttrByItsOwn _ _ _ _ _ _) _ _ _
  unfold getAttrByItsOwn hookBefore
  refine wpAny_bind (L3.at ?_)
  refine wpAny_bind (wpAny_attempt (wpAny_holding ?_))
  unfold callGetattribute
  show wpAny _ _ (boundAndCalled _ _ _) _ _ _
  unfold boundAndCalled
  rw [hb]
  refine wpAny_bind (wpAny_pure ?_)
  refine wpAny_call ?_
  refine codeAny_call_builtin F.attrBase_ValueError.ga.plain F.entry_bexc_ga (exa_check (s:=⟨hp,gn,dw,tk + 1,os⟩) X I Z (exa_entry (s:=⟨hp,gn,dw,tk + 1,os⟩) X I Z ?_))
  exact handed_on rfl (wpAny_pure hQ)
theorem exa_kit (Z : ExK K C) : KitX K (.ref x) (.ref C) (ExAt x C) where
  ty:=fun _ _ _ I=>I.type
  it:=fun _ _ X _=>by
    obtain ⟨cdD,hcD,_⟩:=any_some Z.dk
    unfold clsIn at hcD
    split at hcD
    · rename_i c' d' cd' sl' ho
      intro A' Q' E' s' k q
      unfold isType loadHead; exact wpAny_bind (wpAny_loadPart (k _ _ (X _ _ ho)) (wpAny_pure q))
    · cases hcD
  ne:=fun h tp dd its n sl X htp=>by
    obtain ⟨cdD,hcD,_⟩:=any_some Z.dk
    refine Bool.eq_false_iff.mpr fun q=>?_
    have e : C = tp:=Value.ref.inj (beq_iff_eq.mp q); subst e
    unfold clsIn at hcD
    split at hcD
    · rename_i c' d' cd' sl' ho
      have z:=(X _ _ ho).symm.trans htp; cases z
    · cases hcD
  ca:=fun X I k=>exa_class X I Z k
end
def ExcO (e C : Addr) : HO:=.ext (ExAt e C)
def tyIs (K : Frag) (H : Hp) (x : V) (c : Value) (b : Bool) : Prop :=
  (∃ t,TyOf K H x t∧kitOne K t c = some b)∨∃ e C,x = .ref e∧H e = some (ExcO e C)∧ExK K C∧kitOne K (.ref C) c = some b
def cOf : V→Option Value
  | .ref a=>some (.ref a)
  | .ty n=>some (.type n)
  | _=>none
section
variable {X : Cx}
def rIsi (K : Frag) : List V→Hp→VK→Prop:=fun xs H Q=>∃ x v c b,xs = [x,v]∧cOf v = some c∧tyIs K H x c b∧Q (.bl b) H
theorem call_isi : CallR X (.builtin "isinstance") (rIsi X.K):=by
  intro pins s σ H xs us Q I r h
  obtain ⟨x,v,c,b,rfl,hc,ht,q⟩:=h
  obtain ⟨u,u2,rfl,ru,ru2⟩:=r.two
  have e2 : u2 = c:=by
    cases v with
    | ref a=>have:=(show u2 = Value.ref a from ru2); cases hc; exact this
    | ty n=>have:=(show u2 = Value.type n from ru2); cases hc; exact this
    | _=>cases hc
  subst e2
  have fin : ∀ tk,EP X pins σ Q (.bool b) { s with toks:=tk }:=fun tk=>⟨.bl b,H,I.tok tk,rfl,q⟩
  rcases ht with ⟨t,ty,e⟩ | ⟨e,C,rfl,hH,Z,e1⟩
  · exact isinst_ok I ru ty e fin
  · cases (show u = Value.ref e from ru)
    obtain ⟨p,_,_⟩:=(show ObjOk X.prog X.w H s.heap e (ExcO e C) from I.hok e _ hH)
    exact kia_one (exa_kit Z) I.kIn p e1 (fun z=>nomatch z) fin
end
end L2
set_option Elab.async false
set_option linter.all false
set_option maxRecDepth 100000
set_option maxHeartbeats 1000000
namespace L2
open PySem PySem.Spec PyProof.Rows
theorem ObjOk.has {P : Program} {w : World} {H : Hp} {h : Heap} {a : Addr} {o : HO} (x : ObjOk P w H h a o) : ∃ u,h.get? a = some u:=by
  induction o with
  | lst xs=>obtain ⟨_,_,_,_,e⟩:=x; exact ⟨_,e⟩
  | tup xs=>obtain ⟨_,_,_,o,e,_⟩:=x; exact ⟨_,e⟩
  | dK kvs=>obtain ⟨_,_,_,_,o,_,_,e,_⟩:=x; exact ⟨_,e⟩
  | dT kvs=>obtain ⟨_,_,_,_,o,_,_,e,_⟩:=x; exact ⟨_,e⟩
  | set S n=>obtain ⟨o,_,_,_,e,_⟩:=x; exact ⟨_,e⟩
  | ins C dx fs=>obtain ⟨_,_,_,e,_⟩:=x; exact ⟨_,e⟩
  | own y=>exact x
  | xd fs=>obtain ⟨_,⟨_,_,_,e,_⟩,_⟩:=x; exact ⟨_,e⟩
  | rng lo hi=>obtain ⟨_,_,_,e⟩:=x; exact ⟨_,e⟩
  | frz ob u _=>obtain ⟨e,_⟩:=x; exact ⟨_,e⟩
  | tbl ps=>obtain ⟨_,e,_⟩:=x; exact ⟨_,e⟩
  | met f y=>exact ⟨_,x⟩
  | ext φ=>obtain ⟨_,e,_⟩:=x; exact e
structure Fly (P : Program) (w : World) (outer : List Env) (H : Hp) (s : Shared) (H' : Hp) (B : Heap) (e : Addr) (C a0 : Value) (s' : Shared) : Prop where
  os : s'.os = s.os
  bare : AllBare s'.gens
  fly : Heap.FlyingW B outer e C a0 s'.heap
  hok : HOk P w H' B
  keep : ∀ b o,s.heap.get? b = some o→H b = none→b ∉ frs outer→B.get? b = some o
  slot : ∀ b o,s.heap.get? b = some o→b ∈ frs outer→(∀ vs,o.data≠.fields vs)→∃ sl,s'.heap.get? b = some { o with slots:=sl }
  free : ∀ b o,s.heap.get? b = some o→H b = none→H' b = none
  there : ∀ b o,s.heap.get? b = some o→b ∉ frs outer→∃ o',B.get? b = some o'
  tups : ∀ b xs,H b = some (.tup xs)→H' b = some (.tup xs)
  frzs : ∀ b o u,H b = some (.frz o u)→H' b = some (.frz o u)
  tbls : ∀ b ps,H b = some (.tbl ps)→∃ more,H' b = some (.tbl (ps ++ more))
def CXE (P : Program) (w : World) : CXT:=fun outer H s E ev s'=>∃ e C a0 H' B,ev = .ref e∧Fly P w outer H s H' B e C a0 s'∧E C none H'
theorem passE {P : Program} {w : World} {X : Cx} : Passes (CXE P w) X E0:=fun _ _ _ _ _ _ _ ⟨_,_,_,_,_,_,_,z⟩=>z.elim
section
variable {P : Program} {w : World} {K : PySem.W.Frag} {mg : Str→Option Value} {base : Heap} {N : List Str} {qual : Str} {scope : Scope} {f : Addr} {cd : Value} {A : Around} {outer : List Env} {s : Shared} {H : Hp} {E : XK}
theorem raise_leaves {pins : List (Addr × Obj)} {σ : St} {H1 : Hp} {s1 : Shared} {h' : Heap} {e : Addr} {C : Value} {vs : List Value} (I : Inv (cxOf (CXE P w) P w K mg base N qual scope f cd A outer s H E) pins σ H1 s1)
    (hx : Heap.MadeExcOf s1.heap h' e C vs) (hE : E C none H1) : (cxOf (CXE P w) P w K mg base N qual scope f cd A outer s H E).xe (.ref e) { s1 with heap:=h' }:=by
  let env:=envOfC qual scope s.heap.objs.size f cd
  let B:=PySem.W.hideAll s1.heap (frs (env :: outer))
  have hin : ∀ en ∈ (env :: outer),∀ b,en.frame = some b→b ∈ frs (env :: outer):=fun en he b hb=>List.mem_filterMap.mpr ⟨en,he,hb⟩
  have st : s1.heap.FunFrames base (env :: outer):=I.stack
  have loc : ∀ b,b ∈ frs (env :: outer)→b = s.heap.objs.size∨b ∈ frs outer:=fun b hb=>List.mem_cons.mp (I.stkSub b hb)
  have old : ∀ b o,s.heap.get? b = some o→b ∉ frs outer→b ∉ frs (env :: outer):=fun b o q nb hb=>by
    rcases loc b hb with z | z
    · exact absurd (Heap.lt_size q) (by rw [z]; exact Nat.lt_irrefl _)
    · exact nb z
  have un : Un (frs outer) [] H H1 s.heap s1.heap:=I.base
  have hokB : HOk P w H1 B:=fun a o q=>by
    have nf : ∀ b o,H1 b = some o→b ∉ frs (env :: outer):=fun b o z hb=>by
      have:=I.stkFree b hb
      rw [this] at z; cases z
    refine (I.hok a o q).stay (fun b u hb z=>?_) (fun _ z=>z) (fun _ _ z=>z) fun _ _ _ z=>z
    rcases hb with hb | hb
    · rw [hb] at z ⊢; exact PySem.W.hideAll_get _ z (nf a o q)
    · exact PySem.W.hideAll_get _ z (nf b _ hb)
  refine wpAny_leaves_madeW (base:=B) (h:=s1.heap) (env:=env) (outer:=outer) (L:=s.heap.objs.size) I.ok.frames rfl (fun b o q=>PySem.W.of_hideAll _ q) (PySem.W.funFrames_hide st hin) hx fun h2 t x1 x2 x3 x4=>?_
  refine ⟨e,C,.ref t,H1,B,rfl,⟨I.os,I.bare,x1,hokB,fun b o q n nb=>?_,fun b o q hb hd=>?_,fun b o q n=>un.free b o q n (by simp),fun b o q nb=>?_,un.tups,un.frzs,un.tbls⟩,hE⟩
  · exact PySem.W.hideAll_get _ (un.keep b o q n nb (by simp)) (old b o q nb)
  · obtain ⟨sl,z⟩:=un.slot b o q (I.ok.frf b hb) hb (by simp)
    obtain ⟨sl2,z2⟩:=x4 b _ (hx.keeps _ _ z) hd
    exact ⟨sl2,z2⟩
  · obtain ⟨o',z⟩:=un.there b o q (by simp)
    exact ⟨o',PySem.W.hideAll_get _ z (old b o q nb)⟩
theorem pass_on : Passes (CXE P w) (cxOf (CXE P w) P w K mg base N qual scope f cd A outer s H E) E:=by
  intro pins σ H1 s1 ev s2 I h
  obtain ⟨e,C,a0,H',B,rfl,F,hE⟩:=h
  let env:=envOfC qual scope s.heap.objs.size f cd
  have un : Un (frs outer) [] H H1 s.heap s1.heap:=I.base
  have loc : ∀ b,b ∈ frs (env :: outer)→b = s.heap.objs.size∨b ∈ frs outer:=fun b hb=>List.mem_cons.mp (I.stkSub b hb)
  have old : ∀ b o,s.heap.get? b = some o→b ∉ frs outer→b ∉ frs (env :: outer):=fun b o q nb hb=>by
    rcases loc b hb with z | z
    · exact absurd (Heap.lt_size q) (by rw [z]; exact Nat.lt_irrefl _)
    · exact nb z
  refine wpAny_leaves_onW (env:=env) (outer:=outer) (L:=s.heap.objs.size) I.ok.frames rfl F.fly fun h2 x1 x2=>?_
  refine ⟨e,C,a0,H',B,rfl,⟨F.os.trans I.os,F.bare,x1,F.hok,fun b o q n nb=>F.keep b o (un.keep b o q n nb (by simp)) (un.free b o q n (by simp)) (old b o q nb),fun b o q hb hd=>?_,fun b o q n=>?_,fun b o q nb=>?_,fun b xs z=>F.tups b xs (un.tups b xs z),fun b o u z=>F.frzs b o u (un.frzs b o u z),fun b ps z=>?_⟩,hE⟩
  · obtain ⟨sl,z⟩:=un.slot b o q (I.ok.frf b hb) hb (by simp)
    obtain ⟨en,he,hf⟩:=List.mem_filterMap.mp hb
    obtain ⟨sl2,z2⟩:=F.slot b _ z (List.mem_filterMap.mpr ⟨en,.tail _ he,hf⟩) hd
    obtain ⟨sl3,z3⟩:=x2 b _ z2 hd
    exact ⟨sl3,z3⟩
  · by_cases hb : b ∈ frs outer
    · have h1 : H1 b = none:=un.free b o q n (by simp)
      obtain ⟨sl,z⟩:=un.slot b o q n hb (by simp)
      exact F.free b _ z h1
    · exact F.free b o (un.keep b o q n hb (by simp)) (un.free b o q n (by simp))
  · obtain ⟨o',z⟩:=un.there b o q (by simp)
    exact F.there b o' z (old b o q nb)
  · obtain ⟨m1,z1⟩:=un.tbls b ps z
    obtain ⟨m2,z2⟩:=F.tbls b _ z1
    exact ⟨m1 ++ m2,by rw [← Array.append_assoc]; exact z2⟩
end
abbrev bmV : List Value:=[.type "ValueError",.type "Exception",.type "BaseException",.type "object"]
abbrev newV : String:="ValueError.__new__"
theorem own_mk {K : PySem.W.Frag} {h : Heap} {mg : Str→Option Value} {x : Str} {C : Addr} (X : K.In h) (hm : mg x = some (.ref C)) (q : PySem.W.excIn K C bmV newV = true) : OwnCls x C bmV newV mg h:=by
  refine ⟨hm,?_⟩
  unfold PySem.W.excIn at q; split at q
  · rename_i dd cd sl ho
    split at q
    · rename_i C' bm k0 k1 k2 k3 n k5 hmm hs
      simp only [Bool.and_eq_true,beq_iff_eq,Bool.not_eq_true'] at q; obtain ⟨⟨⟨⟨⟨rfl,rfl⟩,hdel⟩,ht⟩,hok⟩,hni⟩:=q
      obtain ⟨nm,bs,mro,ns,qn,hd,sn,sub,ab,col,del⟩:=cd; dsimp only at hmm hdel hok hni; subst hmm hdel
      have hsl : sl = #[k0,k1,k2,k3,some (.builtin newV),k5]:=by obtain ⟨l⟩:=sl; simp only at hs; rw [hs]
      subst hsl; exact ⟨bm,ns,nm,qn,bs,hd,sn,sub,ab,col,dd,k0,k1,k2,k3,k5,_,X _ _ ho,.of_isNs (PySem.W.isNs_of_in X hok),PySem.W.nsMap_none_of_in X hok hni,PySem.W.tail_of_in X ht⟩
    · cases q
  · cases q
section
variable {X : Cx}
def tRaise (C : Addr) (E : XK) (t : TA) : TS:=fun _ σ H=>t σ H fun vs H1=>vs.length≤sizeLine∧E (.ref C) none H1
theorem ps_raise {x : Str} {C : Addr} {np cpos pos : Pos} {e0 : Expr} {es : List Expr} {t : TA} {E : XK} (hc : X.calm = true) (hg : Gl X x) (hm : X.mg x = some (.ref C)) (q : PySem.W.excIn X.K C bmV newV = true) (ha : PA X (e0 :: es) t)
    (hx : ∀ pins σ H s h' e vs,Inv X pins σ H s→Heap.MadeExcOf s.heap h' e (.ref C) vs→E (.ref C) none H→X.xe (.ref e) { s with heap:=h' })
    (he : starEach (e0 :: es) X.env = (false,eval e0 X.env) :: starEach es X.env:=by rfl) (hpl : (backTo cpos (starEach es X.env)).any (·.1) = false:=by rfl) (hd : (x == ("__debug__" : Str)) = false:=by decide) :
    PS X (.Raise (some (.Call (.Name x np) (e0 :: es) [] cpos)) none pos) (tRaise C E t):=by
  intro pins s σ H D I h
  obtain ⟨tl,Nn,nm,qn,bs,hdct,sn,sub,ab,col,dd,k0,k1,k2,k3,k5,mN,hC,hN,hni,T⟩:=(own_mk (x:=x) I.mod.kin hm q).obj
  refine wpAny_Raise_call_subT (C:=C) (nm:=nm) (q:=qn) (N:=Nn) (bs:=bs) (bm:=tl) (hdct:=hdct) (sn:=sn) (sub:=sub) (ab:=ab) (col:=col) (dd:=dd) (k0:=k0) (k1:=k1) (k2:=k2) (k3:=k3) (k5:=k5)
    PySem.F.excBase_ValueError (mN:=mN) (T.hasType PySem.F.excBase_ValueError.hasBase) (I.ok.hd hc) (by rw [he]; show (false || (backTo cpos (starEach es X.env)).any (·.1)) = false; rw [hpl]; rfl) hni (ld_glob I hg hm ⟨rfl,?_⟩ hd)
  have h2:=ha cpos pins s σ H _ I h
  rw [he] at h2 ⊢
  exact Calls.evalArgs_plain (thn h2 fun us s2 ⟨vs,H2,I2,r,z,q2⟩=>⟨rfl,by rw [← r.length]; exact z,I2.bk _ _ hC,hN.keeps I2.bk,T.keeps I2.bk,fun h' e hm'=>hx pins σ H2 s2 h' e us I2 hm' q2⟩)
end
end L2
set_option Elab.async false
set_option linter.all false
set_option maxRecDepth 100000
set_option maxHeartbeats 1000000
namespace L2
open PySem PySem.Spec PyProof.Rows
section
variable {X : Cx}
def tCallX (sp : Sp) (E : St→XK) (t : TA) : TE:=fun σ H Q=>t σ H fun vs H1=>sp vs H1 Q (E σ)
end
section
variable {P : Program} {w : World} {K : PySem.W.Frag} {mg : Str→Option Value} {base : Heap}
theorem Fun.okX {x qual : Str} {st : Stmt} {f : Addr} {fd : FuncData} {N ps : List Str} {k : Nat} {sp : Sp} (F : Fun K x qual st f fd) (S : FnScope N ps (defScope st)) (len : ∀ vs H Q E,sp vs H Q E→vs.length = ps.length)
    (hbody : ∀ (cdv : Value) (A : Around) (outer : List Env) (s : Shared) (H : Hp) (vs : List V) (Q : VK) (E : XK),Room k (A.deeper (envOfC qual (defScope st) s.heap.objs.size f cdv))→sp vs H Q E →
      ∃ t,PSs (cxOf (CXE P w) P w K mg base N qual (defScope st) f cdv A outer s H E) (defBody st) t∧t { nx:=fun _ H'=>Q .non H',rt:=Q } (start N vs) H) : FnOk P w K mg base (CXE P w) (k + 1) f fd ps sp:=by
  obtain ⟨oc,od,kV,doc,pm,an,cdv,ct,osl,rfl,lk,hcd⟩:=F.ex
  exact fn_of lk hcd S len fun A outer s H vs Q E hr hsp=>hbody cdv A outer s H vs Q E hr hsp
end
end L2
set_option Elab.async false
set_option linter.all false
set_option maxRecDepth 100000
set_option maxHeartbeats 1000000
namespace L2
open PySem PySem.Spec PyProof.Rows PySem.W
theorem ints_of : ∀ {ns : List Int} {us : List Value},Vals (ns.map V.int) us→∃ xs : Array (Int × Tok),us.toArray = intItems xs∧xs.toList.map (·.1) = ns
  | [],_,.nil=>⟨#[],by simp [intItems],rfl⟩
  | n :: ns,_,.cons (b:=u) r t=>by
    obtain ⟨tk,rfl⟩:=(show ∃ t,u = Value.int n t from r)
    obtain ⟨xs,e1,e2⟩:=ints_of t
    refine ⟨#[(n,tk)] ++ xs,?_,by simp [e2]⟩
    have : ∀ (l : List Value),(Value.int n tk :: l).toArray = #[Value.int n tk] ++ l.toArray:=fun l=>by simp
    rw [this,e1]
    simp [intItems]
section
variable {X : Cx}
theorem op_mulX : OpR X (binaryOp .Mult) (rI IntMulOk fun i j=>.int (i * j)):=opI fun _ _ _ _ _ _ _ hc q=>mul_int q hc
def rSum (K : Frag) : List V→Hp→VK→Prop:=fun xs H Q=>∃ (p : Addr) (ns : List Int),xs = [.ref p]∧SqL K H p (ns.map V.int)∧Q (.int ns.sum) H
theorem call_min1 (hc : X.calm = true) : CallR X (.builtin "min") (fun xs H Q=>∃ (p : Addr) (ns : List Int),xs = [.ref p]∧SqL X.K H p (ns.map V.int)∧ns≠[]∧∀ m,m ∈ ns→(∀ a ∈ ns,m≤a)→Q (.int m) H):=by
  intro pins s σ H xs us Q I r h
  obtain ⟨p,ns,rfl,hp,hne,q⟩:=h
  obtain ⟨u,rfl,ru⟩:=r.one
  cases (show u = Value.ref p from ru)
  obtain ⟨its,rv,pl,hz⟩:=I.list hp
  obtain ⟨ys,e1,e2⟩:=ints_of rv
  have hsz : 0 < ys.size:=by
    have:=congrArg List.length e2
    rw [List.length_map,Array.length_toList] at this
    cases ns with
    | nil=>exact absurd rfl hne
    | cons=>simp at this; omega
  refine min_intList (xs:=ys) (I.ok.hd hc) (e1 ▸ pl.isList) hsz fun v h' tk hv k=>?_
  obtain ⟨t,rfl⟩:=intItems_at hv
  obtain ⟨h1,h2⟩:=argBest_lt (numAt ys) (ys.size - 1)
  refine ⟨.int _,H,I.kept k,⟨t,rfl⟩,q _ ?_ fun a ha=>?_⟩
  · rw [numAt_eq,e2]; exact getD_mem (by rw [← e2,List.length_map,Array.length_toList]; omega)
  · obtain ⟨j,hj,rfl⟩:=mem_getD ha
    rw [← e2,List.length_map,Array.length_toList] at hj
    rw [← e2,← numAt_eq]; exact h2 j (by omega)
def rCount : V→List V→Hp→VK→Prop:=fun x vs H Q=>∃ l xs y,x = .ref l∧vs = [y]∧H l = some (.lst xs)∧(∃ b,y = .bl b)∧(∀ z ∈ xs,∃ b,z = .bl b)∧Q (.int (xs.countP fun z=>decide (z = y))) H
def Itv (K : Frag) (a : Addr) (n : Nat) : It :=
  ⟨fun i H=>i < n∧∃ xs,SqL K H a xs∧xs.length = n,fun i H x H'=>H' = H∧∀ xs,SqL K H a xs→xs[n - 1 - i]? = some x,fun i _=>n≤i⟩
def iRev (K : Frag) (ta : TA) : TI:=fun σ H R=>ta σ H fun vs H1=>∃ a xs,vs = [.ref a]∧SqL K H1 a xs∧R (Itv K a xs.length) H1
def PJ (X : Cx) (es : List (Sem Value)) (t : St→Hp→(Hp→Prop)→Prop) : Prop :=
  ∀ (out : Str) (pins : List (Addr × Obj)) (s : Shared) (σ : St) (H : Hp) (Q : Hp→Prop),out.length + 2000 * es.length≤100000→Inv X pins σ H s→t σ H Q →
    wpAny (model X.prog X.w) X.A (joinParts out es) (fun u s'=>∃ y tk H',u = .str y tk∧Inv X pins σ H' s'∧Q H') X.xe s
theorem pj_nil : PJ X [] (fun _ H Q=>Q H):=fun out pins s σ H Q hl I h =>
  joinParts_nil ⟨out,_,H,rfl,I.tok _,h⟩ (by simp at hl; exact Nat.le_trans hl (by decide))
theorem pj_text {x : Str} {j : Nat} {pos : Pos} {es : List (Sem Value)} {t : St→Hp→(Hp→Prop)→Prop} (hx : x.length≤2000) (h : PJ X es t) : PJ X (eval (.Constant (.str x) j pos) X.env :: es) t:=by
  intro out pins s σ H Q hl I hq
  have hl' : (out ++ x).length + 2000 * es.length≤100000:=by rw [PySem.strLen_append]; simp at hl; omega
  refine joinParts_cons (Calls.Constant_str ⟨Nat.le_trans (Nat.le_trans (Nat.le_add_right _ _) hl') (by decide),?_⟩)
  exact h _ pins _ σ H Q hl' (I.tok _) hq
theorem log_small {i : Int} (h0 : 0≤i) (h1 : i < 10 ^ 18) : i.natAbs.log2 < 1920:=by
  by_cases hz : i.natAbs = 0
  · rw [hz]; decide
  · have h3 : i.natAbs < 2 ^ 60:=by
      have : (2 : Nat) ^ 60 = 1152921504606846976:=by decide
      have h2 : (10 : Int) ^ 18 = 1000000000000000000:=by decide
      omega
    exact Nat.lt_of_lt_of_le ((Nat.log2_lt hz).mpr h3) (by decide)
theorem pj_int {e : Expr} {pos : Pos} {es : List (Sem Value)} {te : TE} {t : St→Hp→(Hp→Prop)→Prop} (he : PE X e te) (h : PJ X es t) : PJ X (eval (.FormattedValue e (-1) none pos) X.env :: es) (fun σ H Q=>te σ H fun x H1=>∃ i : Int,x = .int i∧(0≤i∧i < 10 ^ 18)∧t σ H1 Q):=by
  intro out pins s σ H Q hl I hq
  refine joinParts_cons (FormattedValue_plain (thn (he pins s σ H _ I hq) fun u s1 ⟨x,H1,I1,r1,i,ex,⟨h0,h1⟩,q⟩=>?_))
  subst ex
  obtain ⟨tk,rfl⟩:=(show ∃ t,u = Value.int i t from r1)
  refine wpAny_formatField_int (log_small h0 h1) ?_
  have hx : (Str.ofString (toString i)).length≤18:=toString_length_le h0 (by decide) h1
  have hl' : (out ++ Str.ofString (toString i)).length + 2000 * es.length≤100000:=by rw [PySem.strLen_append]; simp at hl; omega
  refine ⟨Nat.le_trans (Nat.le_trans (Nat.le_add_right _ _) hl') (by decide),?_⟩
  exact h _ pins _ σ H1 Q hl' (I1.tok _) q
theorem each_len (env : Env) : ∀ l : List Expr,(evalEach l env).length = l.length
  | []=>rfl
  | e :: r=>by
    have : evalEach (e :: r) env = eval e env :: evalEach r env:=rfl
    rw [this,List.length_cons,List.length_cons,each_len env r]
theorem pe_joined {e1 e2 : Expr} {rest : List Expr} {pos : Pos} {t : St→Hp→(Hp→Prop)→Prop} (h : PJ X (eval e1 X.env :: eval e2 X.env :: evalEach rest X.env) t) (hn : rest.length≤20:=by decide) :
    PE X (.JoinedStr (e1 :: e2 :: rest) pos) (fun σ H Q=>t σ H fun H1=>∀ y,Q (.str y) H1):=by
  intro pins s σ H Q I hq
  have hle:=each_len X.env rest
  refine JoinedStr_many (thn (h Str.empty pins s σ H _ (by simp only [List.length_cons,hle]; show 0 + _≤_; omega) I hq) fun u s' ⟨y,tk,H',e,I',q⟩=>?_)
  subst e
  exact ⟨.str y,H',I',⟨tk,rfl⟩,q y⟩
end
end L2
set_option Elab.async false
set_option linter.all false
set_option maxRecDepth 100000
set_option maxHeartbeats 1000000
namespace L2
open PySem PySem.Spec PyProof.Rows PySem.W
def clsAt (mg : Str→Option Value) (x : Str) : Addr:=match mg x with
  | some (.ref C)=>C
  | _=>0
def tokAt (mg : Str→Option Value) (x : Str) : Tok:=match mg x with
  | some (.int _ t)=>t
  | _=>default
def Callee (P : Program) (w : World) (K : Frag) (mg : Str→Option Value) (base : Heap) (x : Str) (k : Nat) (ps : List Str) (sp : Sp) : Prop :=
  ∃ f fd,mg x = some (.ref f)∧keepIn K (.ref f) = true∧Binds K fd ps []∧FnOk P w K mg base (CXE P w) k f fd ps sp
section
variable {X : Cx}
theorem ps_nox {st : Stmt} {t : TS} (h : PS X.nox st t) : PS X st t:=fun pins s σ H D I hw =>
  wpAny_mono (h pins s σ H D (I.wish _) hw) (fun _ _ q=>q.unwish) fun _ _ z=>False.elim z
theorem pe_callF {x : Str} {k : Nat} {ps : List Str} {sp : Sp} {E : XK} {e : Expr} {es : List Expr} {t : TA} {p pos : Pos} (C : Callee X.prog X.w X.K X.mg X.base x k ps sp) (hr : Room k X.A) (hg : Gl X x) (hx : Passes (CXE X.prog X.w) X E)
    (ha : PA X (e :: es) t) (hdb : (x == ("__debug__" : Str)) = false:=by decide) (he : starEach (e :: es) X.env = (false,eval e X.env) :: starEach es X.env:=by rfl) (hpl : (backTo pos (starEach es X.env)).any (·.1) = false:=by rfl) :
    PE X (.Call (.Name x p) (e :: es) [] pos) (tCall sp [] E t):=by
  obtain ⟨f,fd,hm,hk,hb,F⟩:=C
  exact pe_call F hr hg hm hk hb .nil hx ha hdb he hpl
theorem raisesE {P : Program} {w : World} {K : Frag} {mg : Str→Option Value} {base : Heap} {N : List Str} {qual : Str} {scope : Scope} {f : Addr} {cd : Value} {A : Around} {outer : List Env} {s0 : Shared} {H0 : Hp} {E : XK} {C : Addr} :
    ∀ pins σ H s h' e vs,Inv (cxOf (CXE P w) P w K mg base N qual scope f cd A outer s0 H0 E) pins σ H s→Heap.MadeExcOf s.heap h' e (.ref C) vs→E (.ref C) none H→(cxOf (CXE P w) P w K mg base N qual scope f cd A outer s0 H0 E).xe (.ref e) { s with heap:=h' } :=
  fun _ _ _ _ _ _ _ I hx hE=>raise_leaves I hx hE
end
theorem bt_max : bootBuiltins "max" = some (.builtin "max"):=by decide +kernel
theorem bt_min : bootBuiltins "min" = some (.builtin "min"):=by decide +kernel
theorem bt_isinstance : bootBuiltins "isinstance" = some (.builtin "isinstance"):=by decide +kernel
theorem bt_list : bootBuiltins "list" = some (.type "list"):=by decide +kernel
theorem bt_tuple : bootBuiltins "tuple" = some (.type "tuple"):=by decide +kernel
theorem bt_bool : bootBuiltins "bool" = some (.type "bool"):=by decide +kernel
end L2
set_option Elab.async false
set_option linter.all false
set_option maxRecDepth 100000
set_option maxHeartbeats 1000000
namespace L2
open PySem PySem.Spec PyProof.Rows PySem.W
section
variable {X : Cx} {pins : List (Addr × Obj)} {σ : St} {H : Hp} {s : Shared} {h' : Heap}
theorem Inv.turnedL {t' : Nat} {fp : List Addr} (I : Inv X pins σ H s) (k : ∀ b o,b ∉ fp→s.heap.get? b = some o→h'.get? b = some o) (hf : ∀ b ∈ fp,FpOk X pins H b) : Inv X pins σ H { s with heap:=h',toks:=t' }:=by
  have nit : ∀ b u,H b = some u→b ∉ fp:=fun b u e z=>by rw [(hf b z).1] at e; cases e
  refine I.step (g':=s.gens) (d':=s.drawn) (ch:=fp) (fun b hb=>?_) (fun b o _ _ hc e _=>k b o hc e) (fun b o _ _ hc e _=>⟨o.slots,k b o hc e⟩) (fun _ _ _ _ n=>n)
    (fun b o hc e=>⟨o,k b o hc e⟩) (fun _ _ e=>e) (fun _ _ _ e=>e) (fun b ps e=>⟨#[],by rw [e]; simp⟩) (fun m hm=>?_) (fun b u e=>?_) I.bare
  · obtain ⟨_,f1,_,f3,f4,f5⟩:=hf b hb
    exact ⟨f3,f1,f4,f5⟩
  · obtain ⟨o,es,ep,ho,r⟩:=hm
    exact ⟨o,es,ep,k _ o (fun z=>(hf _ z).2.1 rfl) ho,r⟩
  · refine (I.hok b u e).stay (fun c v hc q=>k c v ?_ q) (fun _ q=>q) (fun _ _ q=>q) fun _ _ _ q=>q
    rcases hc with z | z
    · rw [z]; exact nit b u e
    · exact nit c _ z
def Itz (K : Frag) (a b : Addr) : It :=
  ⟨fun i H=>∃ xs ys x y,SqL K H a xs∧SqL K H b ys∧xs[i]? = some x∧ys[i]? = some y,
   fun i H v H'=>∃ p x y,H p = none∧v = .ref p∧H' = upd H p (.tup [x,y])∧(∀ xs,SqL K H a xs→xs[i]? = some x)∧∀ ys,SqL K H b ys→ys[i]? = some y,
   fun i H=>∃ xs ys,SqL K H a xs∧SqL K H b ys∧(xs.length≤i∨ys.length≤i)⟩
def iZip (K : Frag) (ta : TA) : TI:=fun σ H R=>ta σ H fun vs H1=>∃ a b xs ys,vs = [.ref a,.ref b]∧SqL K H1 a xs∧SqL K H1 b ys∧R (Itz K a b) H1
end
end L2
set_option Elab.async false
set_option linter.all false
set_option maxRecDepth 100000
set_option maxHeartbeats 1000000
namespace L2
open PySem PySem.Spec PyProof.Rows PySem.W
theorem cxK {CX : CXT} {P : Program} {w : World} {K : Frag} {mg : Str→Option Value} {base : Heap} {N : List Str} {qual : Str} {scope : Scope} {f : Addr} {cd : Value} {A : Around} {outer : List Env} {s : Shared} {H : Hp} {E : XK} :
    (cxOf CX P w K mg base N qual scope f cd A outer s H E).K = K:=rfl
theorem Same.upd {H H1 : Hp} {p : Addr} {o : HO} (h : H p = none) (e : Same H H1) : Same H (upd H1 p o):=fun b u z=>by
  rw [upd_ne (ne_of_none z h)]; exact e b u z
theorem Same.upd' {H H1 : Hp} {p : Addr} {o : HO} (e : Same H H1) (h : H1 p = none) : Same H (L2.upd H1 p o):=e.upd (e.free h)
def LoopR (J : It) (g : TG) (tb : TS) (D : Ends) (σ : St) (H1 : Hp) : Prop:=∃ W : Nat→Nat→St→Hp→Prop,(∃ m,W 0 m σ H1)∧∀ i m σ H,W i m σ H →
  (J.stop i H∧D.nx σ H)∨(J.go i H∧∃ N : St→Hp→Prop,(∀ σ' H',N σ' H'→∃ m',m' < m∧W (i + 1) m' σ' H')∧∀ x H',J.yld i H x H'→g x σ H' fun σ2 H2=>tb { D with nx:=N,ct:=N,bk:=D.nx } σ2 H2)
theorem tFor_eq {wi : TI} {g : TG} {tb : TS} {D : Ends} {σ : St} {H : Hp} : tFor wi g tb D σ H = wi σ H fun J H1=>LoopR J g tb D σ H1:=rfl
def WhileR (c : TT) (tb : TS) (D : Ends) (σ : St) (H : Hp) : Prop:=tWhile c tb D σ H
theorem tWhile_eq {c : TT} {tb : TS} {D : Ends} {σ : St} {H : Hp} : tWhile c tb D σ H = WhileR c tb D σ H:=rfl
def CompR (J : It) (g : TG) (tt : TT) (te : TE) (σ0 : St) (Q : VK) (H1 : Hp) : Prop:=∃ W : Nat→Nat→List V→Hp→Prop,(∃ m,W 0 m [] H1)∧∀ i m acc H,W i m acc H →
  (J.stop i H∧acc.length≤sizeLine∧∀ p,H p = none→Q (.ref p) (upd H p (.lst acc))) ∨
  (J.go i H∧acc.length < sizeLine∧∀ x H',J.yld i H x H'→g x σ0 H' fun σ2 H2=>tt σ2 H2 fun b H3=>if b = true then te σ2 H3 fun v H4=>∃ m',m' < m∧W (i + 1) m' (acc ++ [v]) H4 else ∃ m',m' < m∧W (i + 1) m' acc H3)
theorem tComp_eq {wi : TI} {g : TG} {tt : TT} {te : TE} {js : List (Option Nat)} {σ : St} {H : Hp} {Q : VK} : tComp wi g tt te js σ H Q = wi σ H fun J H1=>CompR J g tt te (iniC js σ) Q H1:=rfl
def CW (n : Nat) (vals : Nat→V) (H1 : Hp) (i m : Nat) (acc : List V) (H : Hp) : Prop:=m = n - i∧i≤n∧acc = (List.range i).map vals∧Same H1 H
theorem CW.next {n : Nat} {vals : Nat→V} {H1 H : Hp} {i : Nat} {v : V} (hi : i < n) (hv : v = vals i) (s : Same H1 H) : ∃ m',m' < n - i∧CW n vals H1 (i + 1) m' ((List.range i).map vals ++ [v]) H :=
  ⟨n - (i + 1),by omega,rfl,hi,by rw [List.range_succ,List.map_append,hv]; rfl,s⟩
theorem comp_map {J : It} {n : Nat} {H1 : Hp} {g : TG} {tt : TT} {te : TE} {σ0 : St} {Q : VK} (vals : Nat→V) (hn : n < sizeLine) (hgo : ∀ i H,Same H1 H→i < n→J.go i H) (hstop : ∀ H,Same H1 H→J.stop n H)
    (hb : ∀ i x H H',i < n→Same H1 H→J.yld i H x H'→g x σ0 H' fun σ2 H2=>tt σ2 H2 fun b H3=>if b = true then te σ2 H3 fun v H4=>∃ m',m' < n - i∧CW n vals H1 (i + 1) m' ((List.range i).map vals ++ [v]) H4 else ∃ m',m' < n - i∧CW n vals H1 (i + 1) m' ((List.range i).map vals) H3)
    (hk : ∀ l H',Same H1 H'→H' l = none→Q (.ref l) (upd H' l (.lst ((List.range n).map vals)))) :
    CompR J g tt te σ0 Q H1:=by
  refine ⟨CW n vals H1,⟨n,rfl,Nat.zero_le _,rfl,Same.refl _⟩,?_⟩
  rintro i m acc H ⟨rfl,hi,rfl,s⟩
  by_cases h : i < n
  · refine .inr ⟨hgo i H s h,by simpa using Nat.lt_trans h hn,fun x H' y=>hb i x H H' h s y⟩
  · have e : i = n:=by omega
    subst e
    exact .inl ⟨hstop H s,by simpa using Nat.le_of_lt hn,fun p hp=>hk p H s hp⟩
theorem atI_at {α : Type} {xs : List α} {i : Int} {j : Nat} (h : i = (j : Int)) (hj : j < xs.length) : atI xs i = some xs[j]:=by
  subst h
  unfold atI ixN
  rw [if_pos (by omega),if_pos (by omega)]
  simp
theorem atI_all {α : Type} {xs : List α} {i : Int} (C : α→Prop) (h0 : 0≤i) (h1 : i < xs.length) (h : ∀ x ∈ xs,C x) : ∃ v,atI xs i = some v∧C v:=by
  obtain ⟨j,rfl⟩:=Int.eq_ofNat_of_zero_le h0
  have hj : j < xs.length:=by omega
  exact ⟨xs[j],atI_at rfl hj,h _ (List.getElem_mem hj)⟩
theorem mul_r {a b : Int} (h1 : -(2 ^ 64) < b) (h2 : b < 2 ^ 64) : IntMulOk a b:=IntMulOk.of_right (intBits_le_64 h1 h2)
theorem mul_l {a b : Int} (h1 : -(2 ^ 64) < a) (h2 : a < 2 ^ 64) : IntMulOk a b:=IntMulOk.of_left (intBits_le_64 h1 h2)
theorem big_mul {a b : Int} (ha : Builtin.Int.intBits a≤2 ^ 20) (hb : Builtin.Int.intBits b≤2 ^ 20) : IntMulOk a b:=IntMulOk.of_bits ha hb
theorem cp18 : CPow 10 18:=by unfold CPow; decide
theorem cp59 : CPow 10 59:=by unfold CPow; decide
def PoolAt (H : Hp) (p : Addr) : Prop:=∃ x y : Int,H p = some (.lst [.int x,.int y])∧0≤x∧0≤y∧y < 2147483647
def Exc (p : Addr) (H H' : Hp) : Prop:=∀ b o,b≠p→H b = some o→H' b = some o
theorem Same.exc {H H1 H2 : Hp} {p : Addr} (s : Same H H1) (h : H p = none) (e : Exc p H1 H2) : Same H H2:=fun b o z=>e b o (ne_of_none z h) (s b o z)
theorem Same.toExc {H H' : Hp} {p : Addr} (s : Same H H') : Exc p H H':=fun b o _ z=>s b o z
theorem Exc.upd {H : Hp} {p : Addr} {o : HO} : Exc p H (L2.upd H p o):=fun b u n z=>by rw [upd_ne n]; exact z
theorem PoolAt.ne {H : Hp} {p q : Addr} (P : PoolAt H p) (h : H q = none) : q≠p:=by
  obtain ⟨x,y,e,_⟩:=P
  exact (ne_of_none e h).symm
theorem PoolAt.same {H H' : Hp} {p : Addr} (P : PoolAt H p) (s : Same H H') : PoolAt H' p:=by
  obtain ⟨x,y,e,r⟩:=P
  exact ⟨x,y,s _ _ e,r⟩
theorem PoolAt.upd {H : Hp} {p q : Addr} {o : HO} (P : PoolAt H p) (h : H q = none) : PoolAt (L2.upd H q o) p:=P.same ((Same.refl H).upd h)
theorem tyV_list {K : Frag} {H : Hp} {p : Addr} {xs : List V} (h : H p = some (.lst xs)) : tyV K "list" (.ref p) H:=.inl ⟨rfl,_,SqL.of h⟩
theorem scal_ii {i j : Int} : scal (.int i) (.int j) = true:=rfl
theorem scal_bb {i j : Bool} : scal (.bl i) (.bl j) = true:=rfl
theorem scal_ss {i j : Str} : scal (.str i) (.str j) = true:=rfl
theorem scal_nn : scal .non .non = true:=rfl
theorem scal_ni {i : Int} : scal .non (.int i) = true:=rfl
theorem scal_in {i : Int} : scal (.int i) .non = true:=rfl
section
variable {X : Cx}
def rLen (K : Frag) : List V→Hp→VK→Prop:=fun xs H Q=>∃ p ys,xs = [.ref p]∧(SqL K H p ys∨SqT K H p ys)∧Q (.int ys.length) H
theorem call_lenK {K : Frag} (hK : X.K = K) : CallR X (.builtin "len") (rLen K):=by subst hK; exact call_len_seq
def rLof (K : Frag) : List V→Hp→VK→Prop:=fun xs H Q=>∃ p ys,xs = [.ref p]∧(SqL K H p ys∨SqT K H p ys)∧∀ l,H l = none→Q (.ref l) (upd H l (.lst ys))
theorem call_listK {K : Frag} (hK : X.K = K) : CallR X (.type "list") (rLof K):=by subst hK; exact call_list_of
def rTof (K : Frag) : List V→Hp→VK→Prop:=fun xs H Q=>∃ p ys,xs = [.ref p]∧((SqL K H p ys∧∀ l,H l = none→Q (.ref l) (upd H l (.tup ys)))∨(SqT K H p ys∧Q (.ref p) H))
theorem call_tupK {K : Frag} (hK : X.K = K) : CallR X (.type "tuple") (rTof K):=by subst hK; exact call_tuple_of
theorem call_isiK {K : Frag} (hK : X.K = K) : CallR X (.builtin "isinstance") (rIsi K):=by subst hK; exact call_isi
end
theorem cOf_ref {a : Addr} {x : Value} : (cOf (.ref a) = some x) = (.ref a = x):=by simp [cOf]
theorem cOf_ty {n : String} {x : Value} : (cOf (.ty n) = some x) = (.type n = x):=by simp [cOf]
end L2
set_option Elab.async false
set_option linter.all false
set_option maxRecDepth 100000
set_option maxHeartbeats 1000000
namespace L2
open PySem PySem.Spec PyProof.Rows PySem.W
section
variable {X : Cx} {e st : Expr} {te ts : TE} {pos p2 : Pos}
def tRev (K : Frag) (te ts : TE) : TE:=fun σ H Q=>te σ H fun x H1=>ts σ H1 fun z H2=>∃ a xs,x = .ref a∧z = .int (-1)∧SqL K H2 a xs∧∀ p,H2 p = none→Q (.ref p) (upd H2 p (.lst xs.reverse))
end
end L2
set_option Elab.async false
set_option linter.all false
set_option maxRecDepth 100000
set_option maxHeartbeats 1000000
namespace L2
open PySem PySem.Spec PyProof.Rows PySem.W
theorem cut_to1 (xs : List V) : cutV xs none (some 1) = xs.take 1:=by
  unfold cutV HT.sIx
  cases xs <;> simp
def Rows (H : Hp) (l : Addr) (rs : List (List Int)) : Prop:=∃ as : List Addr,H l = some (.lst (as.map V.ref))∧l ∉ as∧as.length = rs.length∧∀ i (h1 : i < as.length) (h2 : i < rs.length),H as[i] = some (.lst (rs[i].map V.int))
theorem Rows.same {H H' : Hp} {l : Addr} {rs : List (List Int)} (R : Rows H l rs) (s : Same H H') : Rows H' l rs:=by
  obtain ⟨as,e,n,hl,h⟩:=R
  exact ⟨as,s _ _ e,n,hl,fun i h1 h2=>s _ _ (h i h1 h2)⟩
theorem Rows.at {K : Frag} {H : Hp} {l : Addr} {rs : List (List Int)} (R : Rows H l rs) {i : Nat} (h : i < rs.length) : ∃ xs a,SqL K H l xs∧atI xs (i : Int) = some (.ref a)∧H a = some (.lst (rs[i].map V.int)):=by
  obtain ⟨as,e,n,hl,hh⟩:=R
  have hi : i < as.length:=by omega
  refine ⟨_,as[i],SqL.of e,?_,hh i hi h⟩
  rw [atI_at rfl (by simpa using hi)]; simp
theorem Rows.push {H : Hp} {l p : Addr} {rs : List (List Int)} {r : List Int} {as : List Addr} (e : H l = some (.lst (as.map V.ref))) (n : l ∉ as) (hl : as.length = rs.length) (h : ∀ i (h1 : i < as.length) (h2 : i < rs.length),H as[i] = some (.lst (rs[i].map V.int)))
    (hp : H p = some (.lst (r.map V.int))) (np : p≠l) : Rows (upd H l (.lst (as.map V.ref ++ [.ref p]))) l (rs ++ [r]):=by
  refine ⟨as ++ [p],by rw [upd_same]; simp,?_,by simp [hl],fun i h1 h2=>?_⟩
  · simp only [List.mem_append,List.mem_singleton,not_or]
    exact ⟨n,fun z=>np z.symm⟩
  · by_cases hi : i < as.length
    · have e1 : (as ++ [p])[i] = as[i]:=List.getElem_append_left hi
      have e2 : (rs ++ [r])[i] = rs[i]'(by omega):=List.getElem_append_left (by omega)
      rw [e1,e2,upd_ne]
      · exact h i hi (by omega)
      · intro z; exact n (z ▸ List.getElem_mem hi)
    · have e1 : (as ++ [p])[i] = p:=by rw [List.getElem_append_right (by omega)]; simp
      have e2 : (rs ++ [r])[i] = r:=by rw [List.getElem_append_right (by omega)]; simp
      rw [e1,e2,upd_ne np]; exact hp
end L2
set_option Elab.async false
set_option linter.all false
set_option maxRecDepth 100000
set_option maxHeartbeats 1000000
namespace L2
open PySem PySem.Spec PyProof.Rows PySem.W
inductive EqD (K : Frag) (H : Hp) : Nat→V→V→Bool→Prop
  | flat {n : Nat} {x y : V} (fx : flatV x = true) (fy : flatV y = true) : EqD K H n x y (eqV x y)
  | lst {n : Nat} {a b : Addr} {xs ys : List V} (e : Nat→Bool) (hx : SqL K H a xs) (hy : SqL K H b ys) (hl : xs.length = ys.length) (h : ∀ j x y,xs[j]? = some x→ys[j]? = some y→EqD K H n x y (e j)) : EqD K H (n + 1) (.ref a) (.ref b) ((List.range xs.length).all e)
  | len {n : Nat} {a b : Addr} {xs ys : List V} (hx : SqL K H a xs) (hy : SqL K H b ys) (hl : xs.length≠ys.length) : EqD K H (n + 1) (.ref a) (.ref b) false
  | tup {n : Nat} {a b : Addr} {xs ys : List V} (e : Nat→Bool) (hx : SqT K H a xs) (hy : SqT K H b ys) (h : ∀ j x y,xs[j]? = some x→ys[j]? = some y→EqD K H n x y (e j)) : EqD K H (n + 1) (.ref a) (.ref b) ((List.range (min xs.length ys.length)).all e && xs.length == ys.length)
theorem eqV_refl {x : V} (h : flatV x = true) : eqV x x = true:=by
  cases x <;> first
    | rfl
    | (simp [eqV]; done)
    | cases h
section
variable {X : Cx} {pins : List (Addr × Obj)} {σ : St} {H : Hp} {s : Shared}
theorem eqd_refl (I : Inv X pins σ H s) {n : Nat} {x y : V} {b : Bool} (h : EqD X.K H n x y b) : x = y→b = true:=by
  induction h with
  | flat fx fy=>rintro rfl; exact eqV_refl fx
  | lst e hx hy hl h ih =>
    intro z
    cases z
    have:=I.list_inj hx hy
    subst this
    refine List.all_eq_true.mpr fun j hj=>?_
    have hj':=List.mem_range.mp hj
    exact ih j _ _ (List.getElem?_eq_getElem hj') (List.getElem?_eq_getElem hj') rfl
  | len hx hy hl =>
    intro z
    cases z
    have:=I.list_inj hx hy
    subst this
    exact absurd rfl hl
  | tup e hx hy h ih =>
    intro z
    cases z
    have:=I.tuple_inj hx hy
    subst this
    rw [Nat.min_self]
    have : (List.range _).all e = true:=List.all_eq_true.mpr fun j hj=>by
      have hj':=List.mem_range.mp hj
      exact ih j _ _ (List.getElem?_eq_getElem hj') (List.getElem?_eq_getElem hj') rfl
    rw [this]; simp
theorem eqd_at (I : Inv X pins σ H s) {n : Nat} {x y : V} {b : Bool} (h : EqD X.K H n x y b) : ∀ (A : Around) (u v : Value),A.units + n < cLine→RelV x u→RelV y v→SeqAt.EqAt A s u v b:=by
  induction h with
  | flat fx fy=>intro A u v _ ru rv; exact eqAt_V ru rv fx fy
  | @lst n a b xs ys e hx hy hl h ih =>
    intro A u v hu ru rv
    have hb:=eqd_refl I (.lst e hx hy hl h)
    cases ru
    cases rv
    by_cases hab : a = b
    · subst hab
      rw [hb rfl]; exact SeqAt.EqAt.same _
    · obtain ⟨is1,r1,p1,_⟩:=I.list hx
      obtain ⟨is2,r2,p2,_⟩:=I.list hy
      have e1:=r1.length
      have e2:=r2.length
      have key:=SeqAt.RcAt.lists (A:=A) (s:=s) (e:=e) p1.isList p2.isList (by simp; omega) (by omega) fun j h1 h2=>by
        have h1' : j < xs.length:=by simpa [e1] using h1
        have h2' : j < ys.length:=by simpa [e2] using h2
        obtain ⟨u,hu1,ru⟩:=r1.get (List.getElem?_eq_getElem h1')
        obtain ⟨v,hv1,rv⟩:=r2.get (List.getElem?_eq_getElem h2')
        have eu : is1.toArray[j] = u:=by simpa using (List.getElem?_eq_some_iff.mp hu1).2
        have ev : is2.toArray[j] = v:=by simpa using (List.getElem?_eq_some_iff.mp hv1).2
        rw [eu,ev]
        exact ih j _ _ (List.getElem?_eq_getElem h1') (List.getElem?_eq_getElem h2') A.in1 u v (by show A.units + 1 + n < cLine; omega) ru rv
      have e3 : is1.toArray.size = xs.length:=by simp [e1]
      rw [e3] at key
      exact SeqAt.EqAt.of_refs hab key
  | @len n a b xs ys hx hy hl =>
    intro A u v hu ru rv
    cases ru
    cases rv
    have hab : a≠b:=fun z=>by subst z; exact hl (congrArg List.length (I.list_inj hx hy))
    obtain ⟨is1,r1,p1,_⟩:=I.list hx
    obtain ⟨is2,r2,p2,_⟩:=I.list hy
    have e1:=r1.length
    have e2:=r2.length
    exact SeqAt.EqAt.of_refs hab (SeqAt.RcAt.lists_lengths p1.isList p2.isList (by simp; omega) (by omega))
  | @tup n a b xs ys e hx hy h ih =>
    intro A u v hu ru rv
    have hb:=eqd_refl I (.tup e hx hy h)
    cases ru
    cases rv
    by_cases hab : a = b
    · subst hab
      rw [hb rfl]; exact SeqAt.EqAt.same _
    · obtain ⟨is1,r1,p1,_⟩:=I.tuple hx
      obtain ⟨is2,r2,p2,_⟩:=I.tuple hy
      have e1:=r1.length
      have e2:=r2.length
      have key:=SeqAt.RcAt.tuples (A:=A) (s:=s) (e:=e) p1 p2 (by omega) fun j h1 h2=>by
        have h1' : j < xs.length:=by simpa [e1] using h1
        have h2' : j < ys.length:=by simpa [e2] using h2
        obtain ⟨u,hu1,ru⟩:=r1.get (List.getElem?_eq_getElem h1')
        obtain ⟨v,hv1,rv⟩:=r2.get (List.getElem?_eq_getElem h2')
        have eu : is1.toArray[j] = u:=by simpa using (List.getElem?_eq_some_iff.mp hu1).2
        have ev : is2.toArray[j] = v:=by simpa using (List.getElem?_eq_some_iff.mp hv1).2
        rw [eu,ev]
        exact ih j _ _ (List.getElem?_eq_getElem h1') (List.getElem?_eq_getElem h2') A.in1 u v (by show A.units + 1 + n < cLine; omega) ru rv
      have e3 : is1.toArray.size = xs.length:=by simp [e1]
      have e4 : is2.toArray.size = ys.length:=by simp [e2]
      rw [e3,e4] at key
      exact SeqAt.EqAt.of_refs hab key
end
def rEqD (K : Frag) (neg : Bool) : R2:=fun x y H Q=>∃ a b k,x = .ref a∧y = .ref b∧EqD K H 3 x y k∧Q (.bl (if neg then !k else k)) H
section
variable {X : Cx}
theorem op_eqD {K : Frag} (hK : X.K = K) {k : Nat} (hr : Room k X.A) : OpR X (compareOp .Eq) (rEqD K false):=by
  subst hK
  have hu0:=hr.un
  intro pins s σ H x y v u Q I rx ry h
  obtain ⟨a,b,k,rfl,rfl,h,q⟩:=h
  cases rx
  cases ry
  cases h with
  | flat fx fy=>cases fx
  | @lst n _ _ xs ys e hx hy hl h =>
    obtain ⟨is1,r1,p1,_⟩:=I.list hx
    obtain ⟨is2,r2,p2,_⟩:=I.list hy
    have e1:=r1.length
    have e2:=r2.length
    have e3 : is1.toArray.size = xs.length:=by simp [e1]
    refine SeqAt.eq_listAt (e:=e) p1.isList p2.isList (by simp; omega) (by omega) (fun j h1 h2=>?_) ⟨.bl _,H,I,rfl,by rw [e3]; exact q⟩
    have h1' : j < xs.length:=by simpa [e1] using h1
    have h2' : j < ys.length:=by simpa [e2] using h2
    obtain ⟨u,hu1,ru⟩:=r1.get (List.getElem?_eq_getElem h1')
    obtain ⟨v,hv1,rv⟩:=r2.get (List.getElem?_eq_getElem h2')
    have eu : is1.toArray[j] = u:=by simpa using (List.getElem?_eq_some_iff.mp hu1).2
    have ev : is2.toArray[j] = v:=by simpa using (List.getElem?_eq_some_iff.mp hv1).2
    rw [eu,ev]
    exact eqd_at I (h j _ _ (List.getElem?_eq_getElem h1') (List.getElem?_eq_getElem h2')) X.A.in1 u v (by show X.A.units + 1 + 2 < cLine; omega) ru rv
  | @len n _ _ xs ys hx hy hl =>
    obtain ⟨is1,r1,p1,_⟩:=I.list hx
    obtain ⟨is2,r2,p2,_⟩:=I.list hy
    have e1:=r1.length
    have e2:=r2.length
    exact SeqAt.eq_list_lengthsAt p1.isList p2.isList (by simp; omega) (by omega) ⟨.bl _,H,I,rfl,q⟩
  | @tup n _ _ xs ys e hx hy h =>
    obtain ⟨is1,r1,p1,_⟩:=I.tuple hx
    obtain ⟨is2,r2,p2,_⟩:=I.tuple hy
    have e1:=r1.length
    have e2:=r2.length
    have e3 : is1.toArray.size = xs.length:=by simp [e1]
    have e4 : is2.toArray.size = ys.length:=by simp [e2]
    refine SeqAt.eq_tupleAt (e:=e) p1 p2 (by omega) (fun j h1 h2=>?_) ⟨.bl _,H,I,rfl,by rw [e3,e4]; exact q⟩
    have h1' : j < xs.length:=by simpa [e1] using h1
    have h2' : j < ys.length:=by simpa [e2] using h2
    obtain ⟨u,hu1,ru⟩:=r1.get (List.getElem?_eq_getElem h1')
    obtain ⟨v,hv1,rv⟩:=r2.get (List.getElem?_eq_getElem h2')
    have eu : is1.toArray[j] = u:=by simpa using (List.getElem?_eq_some_iff.mp hu1).2
    have ev : is2.toArray[j] = v:=by simpa using (List.getElem?_eq_some_iff.mp hv1).2
    rw [eu,ev]
    exact eqd_at I (h j _ _ (List.getElem?_eq_getElem h1') (List.getElem?_eq_getElem h2')) X.A.in1 u v (by show X.A.units + 1 + 2 < cLine; omega) ru rv
end
def IsI (v : V) (i : Int) : Prop:=v = .int i
def IsL (K : Frag) (H : Hp) {α : Type} (P : V→α→Prop) (v : V) (as : List α) : Prop:=∃ a xs,v = .ref a∧SqL K H a xs∧xs.length = as.length∧∀ (j : Nat) (x : V) (y : α),xs[j]? = some x→as[j]? = some y→P x y
def IsT (K : Frag) (H : Hp) {α : Type} (P : V→α→Prop) (v : V) (as : List α) : Prop:=∃ a xs,v = .ref a∧SqT K H a xs∧xs.length = as.length∧∀ (j : Nat) (x : V) (y : α),xs[j]? = some x→as[j]? = some y→P x y
def EqP (K : Frag) (H : Hp) (n : Nat) {α : Type} [DecidableEq α] (P : V→α→Prop) : Prop:=∀ x y a b,P x a→P y b→EqD K H n x y (decide (a = b))
theorem eqp_int {K : Frag} {H : Hp} {n : Nat} : EqP K H n IsI:=by
  rintro x y a b rfl rfl
  have:=EqD.flat (K:=K) (H:=H) (n:=n) (x:=.int a) (y:=.int b) rfl rfl
  have e : eqV (.int a) (.int b) = decide (a = b):=by simp [eqV,Bool.beq_eq_decide_eq]
  rw [← e]; exact this
theorem all_eq {α : Type} [DecidableEq α] (as bs : List α) (h : as.length = bs.length) : (List.range as.length).all (fun j=>decide (as[j]? = bs[j]?)) = decide (as = bs):=by
  rw [Bool.eq_iff_iff,List.all_eq_true,decide_eq_true_iff]
  constructor
  · intro q
    refine List.ext_getElem? fun j=>?_
    by_cases hj : j < as.length
    · simpa using q j (List.mem_range.mpr hj)
    · rw [List.getElem?_eq_none (by omega),List.getElem?_eq_none (by omega)]
  · rintro rfl j _; simp
theorem eqp_lst {K : Frag} {H : Hp} {n : Nat} {α : Type} [DecidableEq α] {P : V→α→Prop} (h : EqP K H n P) : EqP K H (n + 1) (IsL K H P):=by
  rintro x y as bs ⟨a,xs,rfl,hx,lx,px⟩ ⟨b,ys,rfl,hy,ly,py⟩
  by_cases hl : as.length = bs.length
  · rw [← all_eq as bs hl,← lx]
    refine .lst _ hx hy (by omega) fun j x y h1 h2=>?_
    have j1:=(List.getElem?_eq_some_iff.mp h1).1
    have j2:=(List.getElem?_eq_some_iff.mp h2).1
    have ha : as[j]? = some as[j]:=List.getElem?_eq_getElem (by omega)
    have hb : bs[j]? = some bs[j]:=List.getElem?_eq_getElem (by omega)
    have:=h x y _ _ (px j _ _ h1 ha) (py j _ _ h2 hb)
    rw [ha,hb]
    simpa using this
  · have e : decide (as = bs) = false:=by simp; intro z; exact hl (congrArg List.length z)
    rw [e]
    exact .len hx hy (by omega)
theorem isL_ints {K : Frag} {H : Hp} {a : Addr} {ns : List Int} (h : SqL K H a (ns.map V.int)) : IsL K H IsI (.ref a) ns:=⟨a,_,rfl,h,by simp,fun j x y h1 h2=>by
  rw [List.getElem?_map,h2] at h1
  exact (Option.some.inj h1).symm⟩
theorem isT_ints {K : Frag} {H : Hp} {a : Addr} {ns : List Int} (h : SqT K H a (ns.map V.int)) : IsT K H IsI (.ref a) ns:=⟨a,_,rfl,h,by simp,fun j x y h1 h2=>by
  rw [List.getElem?_map,h2] at h1
  exact (Option.some.inj h1).symm⟩
end L2
set_option Elab.async false
set_option linter.all false
set_option maxRecDepth 100000
set_option maxHeartbeats 1000000
namespace L2
open PySem PySem.Spec PyProof.Rows PySem.W
section
variable {X : Cx}
def tRngV (ta : TA) : TE:=fun σ H Q=>ta σ H fun vs H1=>∃ j : Int,vs = [.int j]∧-(2 ^ 62)≤j∧j < 2 ^ 62∧∀ p,H1 p = none→Q (.ref p) (upd H1 p (.rng 0 j))
theorem pe_range1 {a : Expr} {ta : TA} {p pos : Pos} (hg : Gl X "range") (hm : X.mg "range" = none) (ha : PA X [a] ta) (hs : starEach [a] X.env = [(false,eval a X.env)]:=by rfl) : PE X (.Call (.Name "range" p) [a] [] pos) (tRngV ta):=by
  intro pins s σ H Q I h
  refine wpAny_Call_Name_kw (ld_blt I hg hm boot_range (PyProof.Rows.callWith_type1 (thn (ha pos pins s σ H _ I h) fun us s1 ⟨vs,H1,I1,r1,q1⟩=>?_) hs rfl))
  obtain ⟨j,e,q1,q2,q⟩:=q1
  subst e
  obtain ⟨u,rfl,ru⟩:=r1.one
  obtain ⟨t,rfl⟩:=ru
  refine call_range_1 ⟨.ref s1.heap.objs.size,_,I1.laid (fun b o e=>Heap.get?_push_of_some _ e) (Nat.le_refl _) ?_,rfl,q _ (I1.hok.fresh (Nat.le_refl _))⟩
  exact ⟨_,_,_,Heap.get?_push_size _ rfl⟩
def rLstR : List V→Hp→VK→Prop:=fun xs H Q=>∃ p j,xs = [.ref p]∧H p = some (.rng 0 j)∧0≤j∧j≤1000∧∀ l,H l = none→Q (.ref l) (upd H l (.lst ((List.range j.toNat).map fun (i : Nat)=>V.int (i : Int))))
theorem vals_of {g : Nat→V} {P : Nat→Value→Prop} (hP : ∀ i v,P i v→RelV (g i) v) : ∀ (n : Nat) (us : List Value),us.length = n→(∀ (j : Nat) (v : Value),us[j]? = some v→P j v)→Vals ((List.range n).map g) us:=by
  intro n
  induction n with
  | zero =>
    intro us hl _
    cases us with
    | nil=>exact .nil
    | cons _ _=>cases hl
  | succ n ih =>
    intro us hl h
    have hne : us≠[]:=fun z=>by rw [z] at hl; cases hl
    rw [List.range_succ,List.map_append,← List.dropLast_concat_getLast hne]
    have hl2 : us.dropLast.length = n:=by rw [List.length_dropLast,hl]; rfl
    refine (ih us.dropLast hl2 fun j v hj=>?_).append (.cons ?_ .nil)
    · have hj2:=(List.getElem?_eq_some_iff.mp hj).1
      refine h j v ?_
      rw [List.getElem?_dropLast] at hj
      split at hj
      · exact hj
      · cases hj
    · refine hP n _ (h n _ ?_)
      rw [List.getLast_eq_getElem]
      rw [List.getElem?_eq_some_iff]
      refine ⟨by omega,?_⟩
      congr 1
      omega
def rAll (K : Frag) : List V→Hp→VK→Prop:=fun xs H Q=>∃ (p : Addr) (bs : List Bool),xs = [.ref p]∧SqL K H p (bs.map V.bl)∧Q (.bl (bs.all id)) H
def rAny (K : Frag) : List V→Hp→VK→Prop:=fun xs H Q=>∃ (p : Addr) (bs : List Bool),xs = [.ref p]∧SqL K H p (bs.map V.bl)∧Q (.bl (bs.any id)) H
def ipM : TIp:=fun x y H Q=>∃ i j,x = .int i∧y = .int j∧IntMulOk i j∧Q (.int (i * j)) H
def rIxQ (K : Frag) : R2:=fun x y H Q=>∃ p xs i v,x = .ref p∧y = .int i∧(SqL K H p xs∨SqT K H p xs)∧atI xs i = some v∧Q v H
theorem ix_q {K : Frag} (hK : X.K = K) : IxR X (rIxQ K):=by
  subst hK
  intro value slice pins s σ H x y v u Q I rx ry h hs
  refine (ix_list.or ix_tup) (value:=value) (slice:=slice) pins s σ H x y v u Q I rx ry ?_ hs
  obtain ⟨p,xs,i,v,rfl,rfl,hq,ha,q⟩:=h
  rcases hq with hq | hq
  · exact .inl ⟨p,xs,i,v,rfl,rfl,hq,ha,q⟩
  · exact .inr ⟨p,xs,i,v,rfl,rfl,hq,ha,q⟩
end
end L2
set_option Elab.async false
set_option linter.all false
set_option maxRecDepth 100000
set_option maxHeartbeats 1000000
namespace L2
open PySem PySem.Spec PyProof.Rows PySem.W
def IsLow (f : Nat→Int) (a b p : Nat) : Prop:=a≤p∧p≤b∧(∀ q,a≤q→q < p→f p < f q)∧∀ q,p < q→q≤b→f p≤f q
theorem IsLow.unique {f : Nat→Int} {a b p q : Nat} (h : IsLow f a b p) (k : IsLow f a b q) : p = q:=by
  obtain ⟨h1,h2,h3,h4⟩:=h
  obtain ⟨k1,k2,k3,k4⟩:=k
  rcases Nat.lt_trichotomy p q with z | z | z
  · have:=k3 p h1 z
    have:=h4 q z k2
    omega
  · exact z
  · have:=h3 q k1 z
    have:=k4 p z h2
    omega
theorem IsLow.join {f : Nat→Int} {a m a' b p q : Nat} (h : IsLow f a m p) (k : IsLow f a' b q) (h1 : a≤a') (h2 : a'≤m + 1) (h3 : m≤b) : IsLow f a b (if f q < f p then q else p):=by
  obtain ⟨p1,p2,p3,p4⟩:=h
  obtain ⟨q1,q2,q3,q4⟩:=k
  have pm : ∀ r,a≤r→r≤m→f p≤f r:=fun r r1 r2=>by
    rcases Nat.lt_trichotomy r p with z | z | z
    · exact Int.le_of_lt (p3 r r1 z)
    · rw [z]; exact Int.le_refl _
    · exact p4 r z r2
  have qm : ∀ r,a'≤r→r≤b→f q≤f r:=fun r r1 r2=>by
    rcases Nat.lt_trichotomy r q with z | z | z
    · exact Int.le_of_lt (q3 r r1 z)
    · rw [z]; exact Int.le_refl _
    · exact q4 r z r2
  split
  · rename_i hlt
    refine ⟨by omega,q2,fun r r1 r2=>?_,fun r r1 r2=>qm r (by omega) r2⟩
    by_cases z : a'≤r
    · exact q3 r z r2
    · have:=pm r r1 (by omega); omega
  · rename_i hle
    refine ⟨p1,by omega,p3,fun r r1 r2=>?_⟩
    by_cases z : r≤m
    · exact p4 r r1 z
    · have:=qm r (by omega) r2; omega
def lowF (f : Nat→Int) (a : Nat) : Nat→Nat
  | 0=>a
  | c + 1=>if f (a + c + 1) < f (lowF f a c) then a + c + 1 else lowF f a c
theorem isLow_one (f : Nat→Int) (a : Nat) : IsLow f a a a:=⟨Nat.le_refl _,Nat.le_refl _,fun q h1 h2=>by omega,fun q h1 h2=>by omega⟩
theorem lowF_is (f : Nat→Int) (a c : Nat) : IsLow f a (a + c) (lowF f a c):=by
  induction c with
  | zero=>exact isLow_one f a
  | succ c ih =>
    rw [lowF]
    exact ih.join (isLow_one f (a + c + 1)) (by omega) (by omega) (by omega)
def nth (ns : List Int) (i : Nat) : Int:=ns.getD i 0
theorem nth_at {ns : List Int} {i : Nat} (h : i < ns.length) : atI (ns.map V.int) (i : Int) = some (V.int (nth ns i)):=by
  rw [atI_at rfl (by simpa using h)]
  simp [nth,List.getD_eq_getElem?_getD,h]
def Tall (n i : Nat) : Prop:=n < 2 ^ i∧∀ j,j < i→2 ^ j≤n
theorem Tall.unique {n i j : Nat} (h : Tall n i) (k : Tall n j) : i = j:=by
  rcases Nat.lt_trichotomy i j with z | z | z
  · have:=k.2 i z; have:=h.1; omega
  · exact z
  · have:=h.2 j z; have:=k.1; omega
def WI (N : Nat) (Pv : Nat→St→Hp→Prop) (m : Nat) (σ : St) (H : Hp) : Prop:=∃ i,m = N - i∧i≤N∧Pv i σ H
theorem WI.next {N : Nat} {Pv : Nat→St→Hp→Prop} {i : Nat} : ∀ σ' H',(i + 1≤N∧Pv (i + 1) σ' H')→∃ m',m' < N - i∧WI N Pv m' σ' H':=fun σ' H' h=>⟨N - (i + 1),by omega,i + 1,rfl,h.1,h.2⟩
theorem while_i {c : TT} {tb : TS} {D : Ends} {σ : St} {H : Hp} (N : Nat) (Pv : Nat→St→Hp→Prop) (h0 : Pv 0 σ H)
    (hs : ∀ i σ H,i≤N→Pv i σ H→c σ H fun b H1=>if b = true then ∃ Nx : St→Hp→Prop,(∀ σ' H',Nx σ' H'→∃ m',m' < N - i∧WI N Pv m' σ' H')∧tb { D with nx:=Nx,ct:=Nx,bk:=D.nx } σ H1 else D.nx σ H1) : WhileR c tb D σ H:=by
  refine ⟨WI N Pv,⟨N,0,rfl,Nat.zero_le _,h0⟩,?_⟩
  rintro m σ H ⟨i,rfl,hi,p⟩
  exact hs i σ H hi p
theorem Same.seqT {K : Frag} {H H' : Hp} {a : Addr} {xs : List V} (e : Same H H') (h : SqT K H a xs) : SqT K H' a xs:=by
  rcases h with (h | ⟨o,h⟩) | h
  · exact .inl (.inl (e _ _ h))
  · exact .inl (.inr ⟨o,e _ _ h⟩)
  · exact .inr h
theorem Same.q {K : Frag} {H H' : Hp} {a : Addr} {xs : List V} (e : Same H H') (h : SqL K H a xs∨SqT K H a xs) : SqL K H' a xs∨SqT K H' a xs:=h.imp e.seq e.seqT
theorem Exc.trans {p : Addr} {H H1 H2 : Hp} (a : Exc p H H1) (b : Exc p H1 H2) : Exc p H H2:=fun c o n z=>b c o n (a c o n z)
theorem Exc.free {p q : Addr} {H H' : Hp} (e : Exc p H H') (n : q≠p) (h : H' q = none) : H q = none:=by
  cases z : H q with
  | none=>rfl
  | some o=>rw [e q o n z] at h; cases h
theorem Exc.updN {p q : Addr} {H H' : Hp} {o : HO} (e : Exc p H H') (h : H q = none) : Exc p H (L2.upd H' q o):=fun b u n z=>by
  rw [upd_ne (ne_of_none z h)]; exact e b u n z
theorem Exc.same {p : Addr} {H H1 H2 : Hp} (a : Exc p H H1) (s : Same H1 H2) : Exc p H H2:=a.trans s.toExc
def RowsN (H0 H : Hp) (l : Addr) (rs : List (List Int)) : Prop:=∃ as : List Addr,H l = some (.lst (as.map V.ref))∧l ∉ as∧as.length = rs.length∧(∀ i (h1 : i < as.length) (h2 : i < rs.length),H as[i] = some (.lst (rs[i].map V.int)))∧H0 l = none∧∀ a ∈ as,H0 a = none
theorem RowsN.same {H0 H H' : Hp} {l : Addr} {rs : List (List Int)} (R : RowsN H0 H l rs) (s : Same H H') : RowsN H0 H' l rs:=by
  obtain ⟨as,e,n,hl,h,z⟩:=R
  exact ⟨as,s _ _ e,n,hl,fun i h1 h2=>s _ _ (h i h1 h2),z⟩
theorem RowsN.from {H0 H1 H : Hp} {l : Addr} {rs : List (List Int)} (R : RowsN H1 H l rs) (s : Same H0 H1) : RowsN H0 H l rs:=by
  obtain ⟨as,e,n,hl,h,z1,z2⟩:=R
  exact ⟨as,e,n,hl,h,s.free z1,fun a ha=>s.free (z2 a ha)⟩
theorem RowsN.push {H0 H : Hp} {l p : Addr} {rs : List (List Int)} {r : List Int} {as : List Addr} (e : H l = some (.lst (as.map V.ref))) (n : l ∉ as) (hl : as.length = rs.length) (h : ∀ i (h1 : i < as.length) (h2 : i < rs.length),H as[i] = some (.lst (rs[i].map V.int)))
    (z1 : H0 l = none) (z2 : ∀ a ∈ as,H0 a = none) (hp : H p = some (.lst (r.map V.int))) (np : p≠l) (zp : H0 p = none) : RowsN H0 (upd H l (.lst (as.map V.ref ++ [.ref p]))) l (rs ++ [r]):=by
  obtain ⟨bs,q1,q2,q3,q4⟩:=Rows.push e n hl h hp np
  rw [upd_same] at q1
  have e2 : bs = as ++ [p]:=by
    have q1' : (as ++ [p]).map V.ref = bs.map V.ref:=by
      have:=HO.lst.inj (Option.some.inj q1)
      simpa using this
    have inj : ∀ (u v : List Addr),u.map V.ref = v.map V.ref→u = v:=by
      intro u
      induction u with
      | nil=>intro v hv; cases v with | nil=>rfl | cons _ _=>cases hv
      | cons x u ih =>
        intro v hv
        cases v with
        | nil=>cases hv
        | cons y v =>
          rw [List.map_cons,List.map_cons] at hv
          injection hv with h1 h2
          injection h1 with h1
          rw [h1,ih v h2]
    exact (inj _ _ q1').symm
  subst e2
  refine ⟨as ++ [p],upd_same.trans (by simp),q2,q3,q4,z1,fun a ha=>?_⟩
  rcases List.mem_append.mp ha with ha | ha
  · exact z2 a ha
  · have : a = p:=by simpa using ha
    rw [this]; exact zp
theorem RowsN.nil {H : Hp} {p : Addr} (hp : H p = none) : RowsN H (upd H p (.lst [])) p []:=⟨[],upd_same,by simp,rfl,fun i h1 h2=>absurd h1 (by simp),hp,fun a ha=>nomatch ha⟩
end L2
set_option Elab.async false
set_option linter.all false
set_option maxRecDepth 100000
set_option maxHeartbeats 1000000
namespace L2
open PySem PySem.Spec PyProof.Rows PySem.W
section
variable {X : Cx} {a b c d : Expr} {ta tb tc td : TE} {pos : Pos}
def tChain3 (r r' r'' : R2) (ta tb tc td : TE) : TE:=fun σ H Q=>ta σ H fun x H1=>tb σ H1 fun y H2=>r x y H2 fun z H3=>∃ k,z = .bl k ∧
  (if k = true then tc σ H3 fun y' H4=>r' y y' H4 fun z' H5=>∃ k',z' = .bl k'∧(if k' = true then td σ H5 fun y'' H6=>r'' y' y'' H6 Q else Q (.bl false) H5) else Q (.bl false) H3)
def rBits : V→List V→Hp→VK→Prop:=fun x vs H Q=>∃ i,x = .int i∧vs = []∧Q (.int (Builtin.Int.intBits i : Nat)) H
def iSeq (K : Frag) (tl : TE) : TI:=fun σ H R=>tl σ H fun x H1=>∃ a,x = .ref a∧(((∃ xs,SqL K H1 a xs)∧R (Itl K a) H1)∨((∃ xs,SqT K H1 a xs)∧R (Itt K a) H1))
theorem pi_seq {tg l : Expr} {tl : TE} {K : Frag} (hK : X.K = K) (hl : PE X l tl) : PI X tg l (iSeq K tl):=by
  subst hK
  intro pins s σ H R I h
  refine thn (hl pins s σ H _ I h) fun v s1 ⟨x,H1,I1,r1,q1⟩=>?_
  obtain ⟨a,e,q1⟩:=q1
  subst e
  cases r1
  rcases q1 with ⟨⟨xs,hq⟩,q⟩ | ⟨⟨xs,hq⟩,q⟩
  · obtain ⟨its,rv,p,hz⟩:=I1.list hq
    refine wpAny_pyIter_list p.isList ?_
    refine ⟨s1.heap.objs.size,[s1.heap.objs.size],_,_,H1,rfl,I1.kept (t':=s1.toks) fun b o e=>Heap.get?_push_of_some _ e,turn_list a _,⟨_,Heap.get?_push_size _ rfl,rfl,rfl⟩,fun b hb=>?_,q⟩
    have e : b = s1.heap.objs.size:=by simpa using hb
    subst e
    exact I1.fpOk (Nat.le_refl _) (I1.hok.fresh (Nat.le_refl _))
  · obtain ⟨its,rv,p,hz⟩:=I1.tuple hq
    refine wpAny_pyIter_tuple (show s1.heap.IsTuple a its.toArray from p) ?_
    refine ⟨s1.heap.objs.size,[s1.heap.objs.size],_,_,H1,rfl,I1.kept (t':=s1.toks) fun b o e=>Heap.get?_push_of_some _ e,turn_tuple a _,⟨_,Heap.get?_push_size _ rfl,rfl,rfl⟩,fun b hb=>?_,q⟩
    have e : b = s1.heap.objs.size:=by simpa using hb
    subst e
    exact I1.fpOk (Nat.le_refl _) (I1.hok.fresh (Nat.le_refl _))
end
def CA (n : Nat) (Pv : Nat→List V→Hp→Prop) (i m : Nat) (acc : List V) (H : Hp) : Prop:=m = n - i∧i≤n∧acc.length≤i∧Pv i acc H
theorem CA.take {n : Nat} {Pv : Nat→List V→Hp→Prop} {i : Nat} {acc : List V} {v : V} {H : Hp} (hi : i < n) (hl : acc.length≤i) (h : Pv (i + 1) (acc ++ [v]) H) : ∃ m',m' < n - i∧CA n Pv (i + 1) m' (acc ++ [v]) H:=⟨n - (i + 1),by omega,rfl,hi,by simp; omega,h⟩
theorem CA.skip {n : Nat} {Pv : Nat→List V→Hp→Prop} {i : Nat} {acc : List V} {H : Hp} (hi : i < n) (hl : acc.length≤i) (h : Pv (i + 1) acc H) : ∃ m',m' < n - i∧CA n Pv (i + 1) m' acc H:=⟨n - (i + 1),by omega,rfl,hi,by omega,h⟩
theorem comp_inv {J : It} {n : Nat} {H1 : Hp} {g : TG} {tt : TT} {te : TE} {σ0 : St} {Q : VK} (Pv : Nat→List V→Hp→Prop) (hn : n < sizeLine) (h0 : Pv 0 [] H1) (hgo : ∀ i acc H,Pv i acc H→i < n→J.go i H) (hstop : ∀ acc H,Pv n acc H→J.stop n H)
    (hb : ∀ i x acc H H',i < n→acc.length≤i→Pv i acc H→J.yld i H x H'→g x σ0 H' fun σ2 H2=>tt σ2 H2 fun b H3=>if b = true then te σ2 H3 fun v H4=>∃ m',m' < n - i∧CA n Pv (i + 1) m' (acc ++ [v]) H4 else ∃ m',m' < n - i∧CA n Pv (i + 1) m' acc H3)
    (hk : ∀ l acc H',Pv n acc H'→acc.length≤n→H' l = none→Q (.ref l) (upd H' l (.lst acc))) : CompR J g tt te σ0 Q H1:=by
  refine ⟨CA n Pv,⟨n,rfl,Nat.zero_le _,Nat.le_refl _,h0⟩,?_⟩
  rintro i m acc H ⟨rfl,hi,hl,p⟩
  by_cases h : i < n
  · exact .inr ⟨hgo i acc H p h,by omega,fun x H' y=>hb i x acc H H' h hl p y⟩
  · have e : i = n:=by omega
    subst e
    exact .inl ⟨hstop acc H p,by omega,fun q hq=>hk q acc H p hl hq⟩
def IsQ (K : Frag) (H : Hp) {α : Type} (P : V→α→Prop) (v : V) (as : List α) : Prop:=∃ a xs,v = .ref a∧(SqL K H a xs∨SqT K H a xs)∧xs.length = as.length∧∀ (j : Nat) (x : V) (y : α),xs[j]? = some x→as[j]? = some y→P x y
theorem IsQ.mono {K : Frag} {H H' : Hp} {α : Type} {P P' : V→α→Prop} {v : V} {as : List α} (h : IsQ K H P v as) (s : Same H H') (hp : ∀ x y,P x y→P' x y) : IsQ K H' P' v as:=by
  obtain ⟨a,xs,e,q,l,r⟩:=h
  exact ⟨a,xs,e,s.q q,l,fun j x y h1 h2=>hp _ _ (r j x y h1 h2)⟩
theorem IsI.list {xs : List V} {ns : List Int} (hl : xs.length = ns.length) (h : ∀ (j : Nat) (x : V) (y : Int),xs[j]? = some x→ns[j]? = some y→IsI x y) : xs = ns.map V.int:=by
  refine List.ext_getElem (by simpa using hl) fun j h1 h2=>?_
  have h2' : j < ns.length:=by simpa using h2
  rw [List.getElem_map]
  exact h j _ _ (List.getElem?_eq_getElem h1) (List.getElem?_eq_getElem h2')
theorem IsQ.at {K : Frag} {H : Hp} {α : Type} {P : V→α→Prop} {a : Addr} {as : List α} (h : IsQ K H P (.ref a) as) {j : Nat} (hj : j < as.length) : ∃ xs x,(SqL K H a xs∨SqT K H a xs)∧atI xs (j : Int) = some x∧P x as[j]:=by
  obtain ⟨b,xs,e,q,l,r⟩:=h
  cases e
  have hj' : j < xs.length:=by omega
  exact ⟨xs,xs[j],q,atI_at rfl hj',r j _ _ (List.getElem?_eq_getElem hj') (List.getElem?_eq_getElem hj)⟩
def ItemsOf2 (F : List V→HO) (H : Hp) (rs : List (List Int)) (acc : List V) : Prop:=acc.length = rs.length∧∀ (j : Nat) (x : V) (ns : List Int),acc[j]? = some x→rs[j]? = some ns→∃ a,x = .ref a∧H a = some (F (ns.map V.int))
theorem Rows.walk {K : Frag} {H1 : Hp} {d : Addr} {rs : List (List Int)} (R : Rows H1 d rs) : (∀ i H,Same H1 H→i < rs.length→(Itl K d).go i H)∧(∀ H,Same H1 H→(Itl K d).stop rs.length H) ∧
    ∀ i x H H' (h : i < rs.length),Same H1 H→(Itl K d).yld i H x H'→H' = H∧∃ a,x = .ref a∧H a = some (.lst (rs[i].map V.int)):=by
  obtain ⟨as,e,n,hl,hh⟩:=R
  refine ⟨fun i H s hi=>⟨_,V.ref (as[i]'(by omega)),SqL.of (s _ _ e),by simp [show i < as.length by omega]⟩,fun H s=>⟨_,SqL.of (s _ _ e),by simp [hl]⟩,fun i x H H' hi s y=>?_⟩
  obtain ⟨e1,y⟩:=y
  have h1:=y _ (SqL.of (s _ _ e))
  have hia : i < as.length:=by omega
  rw [List.getElem?_map,List.getElem?_eq_getElem hia] at h1
  exact ⟨e1,as[i],(Option.some.inj h1).symm,s _ _ (hh i hia hi)⟩
theorem IsQ.same {K : Frag} {H H' : Hp} {v : V} {rs : List (List Int)} (h : IsQ K H (IsQ K H IsI) v rs) (s : Same H H') : IsQ K H' (IsQ K H' IsI) v rs:=h.mono s fun x y q=>q.mono s fun _ _ z=>z
theorem IsQ.walk {K : Frag} {H1 : Hp} {l : Addr} {rs : List (List Int)} {R : It→Hp→Prop} (h : IsQ K H1 (IsQ K H1 IsI) (.ref l) rs)
    (hk : ∀ J : It,(∀ i H,Same H1 H→i < rs.length→J.go i H)→(∀ H,Same H1 H→J.stop rs.length H)→(∀ i x H H' (h : i < rs.length),Same H1 H→J.yld i H x H'→H' = H∧IsQ K H IsI x rs[i])→R J H1) :
    ((∃ xs,SqL K H1 l xs)∧R (Itl K l) H1)∨((∃ xs,SqT K H1 l xs)∧R (Itt K l) H1):=by
  obtain ⟨b,xs,e,q,hl,r⟩:=h
  cases e
  rcases q with q | q
  · refine .inl ⟨⟨_,q⟩,hk _ (fun i H s hi=>⟨xs,xs[i]'(by omega),s.seq q,List.getElem?_eq_getElem (by omega)⟩) (fun H s=>⟨xs,s.seq q,by omega⟩) fun i x H H' hi s y=>?_⟩
    obtain ⟨e1,y⟩:=y
    exact ⟨e1,(r i x _ (y _ (s.seq q)) (List.getElem?_eq_getElem hi)).mono s fun _ _ z=>z⟩
  · refine .inr ⟨⟨_,q⟩,hk _ (fun i H s hi=>⟨xs,xs[i]'(by omega),s.seqT q,List.getElem?_eq_getElem (by omega)⟩) (fun H s=>⟨xs,s.seqT q,by omega⟩) fun i x H H' hi s y=>?_⟩
    obtain ⟨e1,y⟩:=y
    exact ⟨e1,(r i x _ (y _ (s.seqT q)) (List.getElem?_eq_getElem hi)).mono s fun _ _ z=>z⟩
theorem ItemsOf2.same {F : List V→HO} {H H' : Hp} {rs : List (List Int)} {acc : List V} (h : ItemsOf2 F H rs acc) (s : Same H H') : ItemsOf2 F H' rs acc:=⟨h.1,fun j x ns h1 h2=>by obtain ⟨a,e1,e2⟩:=h.2 j x ns h1 h2; exact ⟨a,e1,s _ _ e2⟩⟩
theorem PoolAt.some {H : Hp} {p : Addr} (P : PoolAt H p) : H p≠none:=fun z=>by obtain ⟨x,y,e,_⟩:=P; rw [z] at e; cases e
end L2
set_option Elab.async false
set_option linter.all false
set_option maxRecDepth 100000
set_option maxHeartbeats 1000000
namespace L2
open PySem PySem.Spec PyProof.Rows PySem.W
section
variable {X : Cx}
def rInsert : V→List V→Hp→VK→Prop:=fun x vs H Q=>∃ l xs i y,x = .ref l∧vs = [.int i,y]∧H l = some (.lst xs)∧0≤i∧i < 2 ^ 62∧xs.length < sizeLine∧Q .non (upd H l (.lst (xs.take i.toNat ++ y :: xs.drop i.toNat)))
theorem Vals.takeN : ∀ {xs : List V} {us : List Value} (k : Nat),Vals xs us→Vals (xs.take k) (us.take k)
  | _,_,0,_=>by simp; exact .nil
  | _,_,_ + 1,.nil=>.nil
  | _,_,k + 1,.cons r h=>.cons r (Vals.takeN k h)
theorem Vals.dropN : ∀ {xs : List V} {us : List Value} (k : Nat),Vals xs us→Vals (xs.drop k) (us.drop k)
  | _,_,0,h=>by simpa using h
  | _,_,_ + 1,.nil=>.nil
  | _,_,k + 1,.cons _ h=>Vals.dropN k h
theorem mt_insert : MtM X "list.insert" rInsert:=by
  intro pins s σ H x vs v us Q I rx rv h
  obtain ⟨l,xs,i,y,rfl,rfl,hH,h1,h2,hz,q⟩:=h
  cases rx
  obtain ⟨u,u2,rfl,ru,ru2⟩:=rv.two
  obtain ⟨t,rfl⟩:=ru
  obtain ⟨z,its,n,r,hl,e⟩:=I.lstM hH
  have hf : ¬ (!Builtin.List.listFitsIndex i) = true:=by
    unfold Builtin.List.listFitsIndex
    have a1 : decide (-(2 ^ 63 : Int)≤i) = true:=decide_eq_true (by omega)
    have a2 : decide (i < (2 ^ 63 : Int)) = true:=decide_eq_true (by omega)
    rw [a1,a2]; decide
  refine call_meets F.slot_list_insert ⟨_,e,rfl⟩ F.entry_list_insert (F.args_list_insert_3 _ _ _) (AutoListH.list_insert_list_int_val_1 l its.toArray n i t u2 hf (by rw [List.size_toArray]; omega)) ⟨e,?_⟩
  refine ⟨.non,_,I.lset (its':=its.take i.toNat ++ u2 :: its.drop i.toNat) (ys:=xs.take i.toNat ++ y :: xs.drop i.toNat) hH e ?_ ((r.takeN _).append (.cons ru2 (r.dropN _))) ?_,rfl,q⟩
  · show ((its.toArray.extract 0 (if i < 0 then (i + ((its.toArray.size : Nat) : Int)).toNat else min i.toNat its.toArray.size)).push u2 ++ its.toArray.extract (if i < 0 then (i + ((its.toArray.size : Nat) : Int)).toNat else min i.toNat its.toArray.size)) = _
    rw [if_neg (by omega)]
    have e1 : its.take (min i.toNat its.length) = its.take i.toNat:=by
      by_cases hh : i.toNat≤its.length
      · rw [Nat.min_eq_left hh]
      · rw [Nat.min_eq_right (by omega),List.take_of_length_le (by omega),List.take_of_length_le (by omega)]
    have e2 : its.drop (min i.toNat its.length) = its.drop i.toNat:=by
      by_cases hh : i.toNat≤its.length
      · rw [Nat.min_eq_left hh]
      · rw [Nat.min_eq_right (by omega),List.drop_of_length_le (by omega),List.drop_of_length_le (by omega)]
    apply Array.ext'
    simp [e1,e2]
    exact List.take_of_length_le (by rw [List.length_drop]; omega)
  · rw [List.length_append,List.length_cons,List.length_take,List.length_drop]; omega
def rIndex (K : Frag) : V→List V→Hp→VK→Prop:=fun x vs H Q=>∃ (l : Addr) (ns : List Int) (k : Int),x = .ref l∧vs = [.int k]∧SqL K H l (ns.map V.int)∧ns.length≤100000∧k ∈ ns∧Q (.int (ns.idxOf k : Nat)) H
theorem mt_index {K : Frag} (hK : X.K = K) : MtM X "list.index" (rIndex K):=by
  subst hK
  intro pins s σ H x vs v us Q I rx rv h
  obtain ⟨l,ns,k,rfl,rfl,hH,hz,hk,q⟩:=h
  cases rx
  obtain ⟨u,rfl,ru⟩:=rv.one
  obtain ⟨t,rfl⟩:=ru
  obtain ⟨its,r,pl,_⟩:=I.list hH
  have hi : IntsAre its ns:=intsAre_of r
  have hlen:=r.length
  rw [List.length_map] at hlen
  obtain ⟨⟨cls,dd,data,sl⟩,ho,hc,n,hd⟩:=pl.isList
  simp only at hc hd
  subst hc hd
  have hj : ns.idxOf k < ns.length:=List.idxOf_lt_length_iff.mpr hk
  refine call_meets F.slot_list_index ⟨_,ho,rfl⟩ F.entry_list_index (F.args_list_index_2 _ _)
    (SeqAt.list_indexAt l its.toArray n dd sl (.int k t) (isInt k) (ns.idxOf k) (by rw [List.size_toArray]; omega) (by omega) ?_ ?_) ⟨ho,fun y hy=>(eq_isInt k t hi y (by simpa using hy)).at _ _,⟨.int _,H,I.tok _,⟨_,rfl⟩,q⟩⟩
  · show isInt k its[ns.idxOf k] = true
    rw [isInt_at k hi _ (by omega) hj]
    simpa using List.getElem_idxOf hj
  · intro j hjs hlt
    show isInt k its[j] = false
    rw [isInt_at k hi j (by simpa using hjs) (by omega)]
    exact ne_of_lt_idxOf hlt _
end
def rIntB : List V→Hp→VK→Prop:=fun xs H Q=>∃ k,xs = [.bl k]∧Q (.int (if k = true then 1 else 0)) H
def PotAt (H : Hp) (p : Addr) : Prop:=∃ x : Int,H p = some (.lst [.int x])∧0≤x
theorem PotAt.ne {H : Hp} {p q : Addr} (P : PotAt H p) (h : H q = none) : q≠p:=by
  obtain ⟨x,e,_⟩:=P
  exact (ne_of_none e h).symm
theorem PotAt.same {H H' : Hp} {p : Addr} (P : PotAt H p) (s : Same H H') : PotAt H' p:=by
  obtain ⟨x,e,r⟩:=P
  exact ⟨x,s _ _ e,r⟩
theorem PotAt.upd {H : Hp} {p q : Addr} {o : HO} (P : PotAt H p) (h : H q = none) : PotAt (L2.upd H q o) p:=P.same ((Same.refl H).upd h)
theorem PotAt.updN {H : Hp} {p q : Addr} {o : HO} (P : PotAt H p) (h : q≠p) : PotAt (L2.upd H q o) p:=by
  obtain ⟨x,e,r⟩:=P
  exact ⟨x,by rw [upd_ne h.symm]; exact e,r⟩
theorem PotAt.some {H : Hp} {p : Addr} (P : PotAt H p) : H p≠none:=fun z=>by obtain ⟨x,e,_⟩:=P; rw [z] at e; cases e
theorem cp60 : CPow 10 60:=by unfold CPow; decide
theorem qm1 : IntMulOk (10 ^ Int.toNat 60) (10 ^ Int.toNat 60):=big_mul (by decide +kernel) (by decide +kernel)
theorem qm2 : IntMulOk (10 ^ Int.toNat 60 * 10 ^ Int.toNat 60) (10 ^ Int.toNat 60):=big_mul (by decide +kernel) (by decide +kernel)
theorem qm3 : IntMulOk (10 ^ Int.toNat 60 * 10 ^ Int.toNat 60 * 10 ^ Int.toNat 60) (10 ^ Int.toNat 60):=big_mul (by decide +kernel) (by decide +kernel)
theorem qm4 : (0 : Int) < 10 ^ Int.toNat 60 * 10 ^ Int.toNat 60 * 10 ^ Int.toNat 60 * 10 ^ Int.toNat 60:=by decide +kernel
end L2
set_option Elab.async false
set_option linter.all false
set_option maxRecDepth 100000
set_option maxHeartbeats 1000000
namespace L2
def IsPrev (f : Nat→Int) (p q : Nat) : Prop:=q < p∧f q≤f p∧∀ r,q < r→r < p→f p < f r
def IsNext (f : Nat→Int) (n p r : Nat) : Prop:=p < r∧r < n∧f r < f p∧∀ s,p < s→s < r→f p≤f s
def NoPrev (f : Nat→Int) (p : Nat) : Prop:=∀ q,q < p→f p < f q
def NoNext (f : Nat→Int) (n p : Nat) : Prop:=∀ r,p < r→r < n→f p≤f r
def ElderIs (f : Nat→Int) (n p : Nat) (e : Int) : Prop :=
  (NoPrev f p∧NoNext f n p∧e = -1)∨(∃ q,IsPrev f p q∧NoNext f n p∧e = q)∨(∃ r,NoPrev f p∧IsNext f n p r∧e = r) ∨
  ∃ q r,IsPrev f p q∧IsNext f n p r∧e = if f q≤f r then (r : Int) else q
theorem exists_last {P : Nat→Prop} [DecidablePred P] (i : Nat) : ∀ d r,r + d = i→P r→∃ t,r≤t∧t≤i∧P t∧∀ s,t < s→s≤i→¬ P s:=by
  intro d
  induction d with
  | zero=>intro r e h; exact ⟨r,Nat.le_refl _,by omega,h,fun s h1 h2=>by omega⟩
  | succ d ih =>
    intro r e h
    by_cases hx : ∃ t,r < t∧t≤i∧P t
    · obtain ⟨t,h1,h2,h3⟩:=hx
      -- step to r + 1 by cases
      by_cases h4 : P (r + 1)
      · obtain ⟨u,u1,u2,u3,u4⟩:=ih (r + 1) (by omega) h4
        exact ⟨u,by omega,u2,u3,u4⟩
      · -- go on from the next one
        have gen : ∀ k t,t + k = i→r < t→P t→∃ u,r≤u∧u≤i∧P u∧∀ s,u < s→s≤i→¬ P s:=by
          intro k
          induction k with
          | zero=>intro t e h1 h3; exact ⟨t,by omega,by omega,h3,fun s h1 h2=>by omega⟩
          | succ k ihk =>
            intro t e h1 h3
            by_cases hy : ∃ s,t < s∧s≤i∧P s
            · -- the last one of the rest
              have key : ∀ m,m≤i→(∃ s,t < s∧s≤m∧P s)→∃ u,t < u∧u≤m∧P u∧∀ s,u < s→s≤m→¬ P s:=by
                intro m
                induction m with
                | zero=>rintro _ ⟨s,h5,h6,_⟩; omega
                | succ m ihm =>
                  rintro hm ⟨s,h5,h6,h7⟩
                  by_cases hp : P (m + 1)
                  · exact ⟨m + 1,by omega,Nat.le_refl _,hp,fun s h1 h2=>by omega⟩
                  · have hs : s≤m:=by
                      rcases Nat.lt_or_ge m s with z | z
                      · have : s = m + 1:=by omega
                        rw [this] at h7; exact absurd h7 hp
                      · exact z
                    obtain ⟨u,u1,u2,u3,u4⟩:=ihm (by omega) ⟨s,h5,hs,h7⟩
                    refine ⟨u,u1,by omega,u3,fun s' h1 h2=>?_⟩
                    by_cases e : s' = m + 1
                    · rw [e]; exact hp
                    · exact u4 s' h1 (by omega)
              obtain ⟨u,u1,u2,u3,u4⟩:=key i (Nat.le_refl _) hy
              exact ⟨u,by omega,u2,u3,u4⟩
            · exact ⟨t,by omega,by omega,h3,fun s h1 h2 h5=>hy ⟨s,h1,h2,h5⟩⟩
        exact gen (i - t) t (by omega) h1 h3
    · exact ⟨r,Nat.le_refl _,by omega,h,fun s h1 h2 h3=>hx ⟨s,h1,h2,h3⟩⟩
theorem last_below {P : Nat→Prop} [DecidablePred P] {n r : Nat} (hr : r < n) (h : P r) : ∃ t,r≤t∧t < n∧P t∧∀ s,t < s→s < n→¬ P s:=by
  obtain ⟨t,h1,h2,h3,h4⟩:=exists_last (P:=P) (n - 1) (n - 1 - r) r (by omega) h
  exact ⟨t,h1,by omega,h3,fun s a b=>h4 s a (by omega)⟩
def Spine (f : Nat→Int) (i : Nat) (sp : List Nat) : Prop:=sp.Pairwise (· < ·)∧∀ q,q ∈ sp↔q < i∧∀ r,q < r→r < i→f q≤f r
theorem prev_or (f : Nat→Int) (p : Nat) : NoPrev f p∨∃ q,IsPrev f p q:=by
  by_cases h : ∃ q,q < p∧f q≤f p
  · obtain ⟨q,h1,h2⟩:=h
    obtain ⟨t,_,t2,t3,t4⟩:=last_below (P:=fun q=>f q≤f p) h1 h2
    exact .inr ⟨t,t2,t3,fun r a b=>by have:=t4 r a b; omega⟩
  · exact .inl fun q hq=>by
      have : ¬ (f q≤f p):=fun z=>h ⟨q,hq,z⟩
      omega
theorem prev_open {f : Nat→Int} {i p q : Nat} (hp : p < i) (ho : ∀ r,p < r→r < i→f p≤f r) (h : IsPrev f p q) : (∀ r,q < r→r < i→f q≤f r)∧∀ s,q < s→s < p→¬ ∀ r,s < r→r < i→f s≤f r:=by
  obtain ⟨h1,h2,h3⟩:=h
  refine ⟨fun r a b=>?_,fun s a b z=>?_⟩
  · rcases Nat.lt_trichotomy r p with c | c | c
    · have:=h3 r a c; omega
    · rw [c]; exact h2
    · have:=ho r c b; omega
  · have:=z p b hp
    have:=h3 s a b
    omega
theorem spine_step {f : Nat→Int} {i : Nat} {A B : List Nat} (hs : Spine f i (A ++ B)) (hA : ∀ q ∈ A,f q≤f i) (hB : ∀ q ∈ B,f i < f q) :
    Spine f (i + 1) (A ++ [i])∧ElderIs f (i + 1) i (match A.getLast? with | some q=>(q : Int) | none=>-1)∧∀ p e,p < i→ElderIs f i p e→ElderIs f (i + 1) p (if B.head? = some p then (i : Int) else e):=by
  obtain ⟨hso,hm⟩:=hs
  have hAB:=List.pairwise_append.mp hso
  have noNx : NoNext f (i + 1) i:=fun r a b=>by omega
  refine ⟨⟨?_,fun q=>?_⟩,?_,fun p e hp he=>?_⟩
  · refine List.pairwise_append.mpr ⟨hAB.1,List.pairwise_singleton _ _,fun a ha b hb=>?_⟩
    have : b = i:=by simpa using hb
    rw [this]
    exact ((hm a).mp (List.mem_append_left _ ha)).1
  · rw [List.mem_append,List.mem_singleton]
    constructor
    · rintro (h | h)
      · obtain ⟨h1,h2⟩:=(hm q).mp (List.mem_append_left _ h)
        refine ⟨by omega,fun r a b=>?_⟩
        by_cases e : r = i
        · rw [e]; exact hA q h
        · exact h2 r a (by omega)
      · subst h; exact ⟨by omega,fun r a b=>by omega⟩
    · rintro ⟨h1,h2⟩
      by_cases e : q = i
      · exact .inr e
      · have hq : q ∈ A ++ B:=(hm q).mpr ⟨by omega,fun r a b=>h2 r a (by omega)⟩
        rcases List.mem_append.mp hq with h | h
        · exact .inl h
        · have:=hB q h
          have:=h2 i (by omega) (by omega)
          omega
  · -- the elder of i
    rcases prev_or f i with h | ⟨q,h⟩
    · have hA0 : A = []:=by
        cases A with
        | nil=>rfl
        | cons a r =>
          have h1:=((hm a).mp (by simp)).1
          have:=hA a (by simp)
          have:=h a h1
          omega
      rw [hA0]
      exact .inl ⟨h,noNx,rfl⟩
    · have ho : ∀ r,q < r→r < i→f q≤f r:=fun r a b=>by have:=h.2.2 r a b; have:=h.2.1; omega
      have hqA : q ∈ A:=by
        rcases List.mem_append.mp ((hm q).mpr ⟨h.1,ho⟩) with z | z
        · exact z
        · have:=hB q z; have:=h.2.1; omega
      have hlast : A.getLast? = some q:=by
        have hne : A≠[]:=fun z=>by rw [z] at hqA; cases hqA
        rw [List.getLast?_eq_some_getLast hne]
        congr 1
        have hl : A.getLast hne ∈ A:=List.getLast_mem hne
        -- q≤last,and last is not past q
        by_cases e : A.getLast hne = q
        · exact e
        · exfalso
          have hlt : q < A.getLast hne:=by
            have hd:=List.dropLast_concat_getLast hne
            have hq2 : q ∈ A.dropLast:=by
              rw [← hd] at hqA
              rcases List.mem_append.mp hqA with z | z
              · exact z
              · exact absurd (by simpa using z) (Ne.symm e)
            have hp2:=hAB.1
            rw [← hd] at hp2
            exact (List.pairwise_append.mp hp2).2.2 q hq2 _ (by simp)
          have h1:=((hm (A.getLast hne)).mp (List.mem_append_left _ hl)).1
          have:=h.2.2 _ hlt h1
          have:=hA _ hl
          omega
      rw [hlast]
      exact .inr (.inl ⟨q,h,noNx,rfl⟩)
  · -- the elder of an earlier place
    have nxt : ∀ r,IsNext f i p r→IsNext f (i + 1) p r:=fun r ⟨a,b,c,d⟩=>⟨a,by omega,c,d⟩
    by_cases hop : NoNext f i p
    · have hmem : p ∈ A ++ B:=(hm p).mpr ⟨hp,hop⟩
      by_cases hlt : f i < f p
      · have hnx : IsNext f (i + 1) p i:=⟨hp,by omega,hlt,fun s a b=>hop s a b⟩
        have hpB : p ∈ B:=by
          rcases List.mem_append.mp hmem with z | z
          · have:=hA p z; omega
          · exact z
        obtain ⟨b0,Br,rfl⟩ : ∃ b0 Br,B = b0 :: Br:=by
          cases B with
          | nil=>cases hpB
          | cons b0 Br=>exact ⟨b0,Br,rfl⟩
        have hhead : (b0 :: Br).head? = some b0:=rfl
        rw [hhead]
        rcases prev_or f p with hn | ⟨q,hq⟩
        · -- nothing ahead: p is the first of all
          have e0 : b0 = p:=by
            by_cases z : b0 = p
            · exact z
            · exfalso
              have hpr : p ∈ Br:=by
                rcases List.mem_cons.mp hpB with y | y
                · exact absurd y.symm z
                · exact y
              have hlt2 : b0 < p:=(List.pairwise_cons.mp hAB.2.1).1 p hpr
              have:=((hm b0).mp (by simp)).2 p hlt2 hp
              have:=hn b0 hlt2
              omega
          rw [if_pos (by rw [e0])]
          exact .inr (.inr (.inl ⟨i,hn,hnx,rfl⟩))
        · obtain ⟨hq1,hq2⟩:=prev_open hp hop hq
          have hqm : q ∈ A ++ b0 :: Br:=(hm q).mpr ⟨Nat.lt_trans hq.1 hp,hq1⟩
          by_cases hqi : f q≤f i
          · -- q is kept: p is the first of B
            have e0 : b0 = p:=by
              by_cases z : b0 = p
              · exact z
              · exfalso
                have hpr : p ∈ Br:=by
                  rcases List.mem_cons.mp hpB with y | y
                  · exact absurd y.symm z
                  · exact y
                have hlt2 : b0 < p:=(List.pairwise_cons.mp hAB.2.1).1 p hpr
                have hb0:=(hm b0).mp (by simp)
                have hqA : q ∈ A:=by
                  rcases List.mem_append.mp hqm with y | y
                  · exact y
                  · have:=hB q y; omega
                have hqb : q < b0:=hAB.2.2 q hqA b0 (by simp)
                exact hq2 b0 hqb hlt2 hb0.2
            rw [if_pos (by rw [e0])]
            refine .inr (.inr (.inr ⟨q,i,hq,hnx,?_⟩))
            rw [if_pos hqi]
          · -- q goes,too: the elder stays
            have hqB : q ∈ b0 :: Br:=by
              rcases List.mem_append.mp hqm with y | y
              · exact absurd (hA q y) hqi
              · exact y
            have hne : b0≠p:=by
              intro z
              subst z
              rcases List.mem_cons.mp hqB with y | y
              · have:=hq.1; omega
              · have:=(List.pairwise_cons.mp hAB.2.1).1 q y
                have:=hq.1; omega
            rw [if_neg (by intro z; exact hne (Option.some.inj z))]
            have ee : e = q:=by
              rcases he with ⟨h1,_,_⟩ | ⟨q',h1,_,h3⟩ | ⟨r,h1,_,_⟩ | ⟨q',r,_,h2,_⟩
              · have:=h1 q hq.1; have:=hq.2.1; omega
              · have : q' = q:=by
                  rcases Nat.lt_trichotomy q' q with y | y | y
                  · have:=h1.2.2 q y hq.1; have:=hq.2.1; omega
                  · exact y
                  · have:=hq.2.2 q' y h1.1; have:=h1.2.1; omega
                rw [h3,this]
              · have:=h1 q hq.1; have:=hq.2.1; omega
              · have:=hop r h2.1 h2.2.1; have:=h2.2.2.1; omega
            refine .inr (.inr (.inr ⟨q,i,hq,hnx,?_⟩))
            rw [if_neg hqi,ee]
      · -- still open: not of B
        have hnn : NoNext f (i + 1) p:=fun r a b=>by
          by_cases z : r = i
          · rw [z]; omega
          · exact hop r a (by omega)
        have hne : B.head?≠some p:=fun z=>by
          have : p ∈ B:=List.mem_of_head? z
          have:=hB p this
          omega
        rw [if_neg hne]
        rcases he with ⟨h1,_,h3⟩ | ⟨q,h1,_,h3⟩ | ⟨r,_,h2,_⟩ | ⟨q,r,_,h2,_⟩
        · exact .inl ⟨h1,hnn,h3⟩
        · exact .inr (.inl ⟨q,h1,hnn,h3⟩)
        · have:=hop r h2.1 h2.2.1; have:=h2.2.2.1; omega
        · have:=hop r h2.1 h2.2.1; have:=h2.2.2.1; omega
    · -- shut already
      have hne : B.head?≠some p:=fun z=>hop ((hm p).mp (List.mem_append_right _ (List.mem_of_head? z))).2
      rw [if_neg hne]
      rcases he with ⟨_,h2,_⟩ | ⟨q,_,h2,_⟩ | ⟨r,h1,h2,h3⟩ | ⟨q,r,h1,h2,h3⟩
      · exact absurd h2 hop
      · exact absurd h2 hop
      · exact .inr (.inr (.inl ⟨r,h1,nxt r h2,h3⟩))
      · exact .inr (.inr (.inr ⟨q,r,h1,nxt r h2,h3⟩))
end L2
set_option Elab.async false
set_option linter.all false
set_option maxRecDepth 100000
set_option maxHeartbeats 1000000
namespace L2
open PySem PySem.Spec PyProof.Rows PySem.W
theorem fm_congr {α β : Type} {f g : α→Option β} : ∀ {l : List α},(∀ x ∈ l,f x = g x)→l.filterMap f = l.filterMap g
  | [],_=>rfl
  | x :: r,h=>by rw [List.filterMap_cons,List.filterMap_cons,h x (List.mem_cons_self ..),fm_congr fun y hy=>h y (List.mem_cons_of_mem _ hy)]
theorem keep_take (its : List Value) (k : Nat) (hk : k≤its.length) (start : Nat) : (its.zipIdx start).filterMap (fun xk=>if (decide (((start + k : Nat) : Int)≤(xk.2 : Int)) && decide ((xk.2 : Int) < ((start + its.length : Nat) : Int)) && (((xk.2 : Int) - ((start + k : Nat) : Int)) % 1 == 0)) = true then none else some xk.1) = its.take k:=by
  induction its generalizing k start with
  | nil=>simp
  | cons x r ih =>
    rw [List.zipIdx_cons,List.filterMap_cons]
    cases k with
    | zero =>
      have h1 : (decide (((start + 0 : Nat) : Int)≤(start : Int)) && decide ((start : Int) < ((start + (x :: r).length : Nat) : Int)) && (((start : Int) - ((start + 0 : Nat) : Int)) % 1 == 0)) = true:=by
        simp; omega
      simp only [h1,if_true]
      have:=ih 0 (by omega) (start + 1)
      rw [List.take_zero] at this ⊢
      rw [← this]
      refine fm_congr fun xk hxk=>?_
      have hm:=List.mem_zipIdx hxk
      have e1 : (decide (((start + 0 : Nat) : Int)≤(xk.2 : Int))) = (decide (((start + 1 + 0 : Nat) : Int)≤(xk.2 : Int))):=by
        rw [decide_eq_decide]; omega
      have e2 : ((start + (x :: r).length : Nat) : Int) = ((start + 1 + r.length : Nat) : Int):=by simp; omega
      have e3 : (((xk.2 : Int) - ((start + 0 : Nat) : Int)) % 1 == 0) = (((xk.2 : Int) - ((start + 1 + 0 : Nat) : Int)) % 1 == 0):=by simp [Int.emod_one]
      rw [e1,e2,e3]
    | succ k =>
      have h1 : (decide (((start + (k + 1) : Nat) : Int)≤(start : Int)) && decide ((start : Int) < ((start + (x :: r).length : Nat) : Int)) && (((start : Int) - ((start + (k + 1) : Nat) : Int)) % 1 == 0)) = false:=by
        have : decide (((start + (k + 1) : Nat) : Int)≤(start : Int)) = false:=decide_eq_false (by omega)
        rw [this]; rfl
      simp only [h1,Bool.false_eq_true,if_false]
      rw [List.take_succ_cons]
      congr 1
      have:=ih k (by simpa using hk) (start + 1)
      rw [← this]
      refine fm_congr fun xk hxk=>?_
      have e1 : ((start + (k + 1) : Nat) : Int) = ((start + 1 + k : Nat) : Int):=by omega
      have e2 : ((start + (x :: r).length : Nat) : Int) = ((start + 1 + r.length : Nat) : Int):=by simp; omega
      rw [e1,e2]
section
variable {X : Cx} {e st : Expr} {te ts : TE} {pos pos1 p2 : Pos}
def tDelT (te ts : TE) : TS:=fun D σ H=>te σ H fun x H1=>ts σ H1 fun z H2=>∃ (l : Addr) (xs : List V) (k : Nat),x = .ref l∧z = .int k∧H2 l = some (.lst xs)∧k≤xs.length∧D.nx σ (upd H2 l (.lst (xs.take k)))
theorem ps_delTail (he : PE X e te) (hs : PE X st ts) : PS X (.Delete [.Subscript e (.Slice (some st) none none p2) pos1] pos) (tDelT te ts):=by
  intro pins s σ H D I h
  refine wpAny_Delete (wpAny_deleteEach_cons ?_)
  show wpAny _ _ (eval e X.env >>= fun ov=>holding [ov] (eval (.Slice (some st) none none p2) X.env) >>= fun iv=>(do standAt pos1; holding [ov,iv] (delItem ov iv); release [ov,iv] [])) _ _ _
  refine wpAny_bind (thn (he pins s σ H _ I h) fun v s1 ⟨x,H1,I1,r1,q1⟩=>?_)
  refine wpAny_bind (wpAny_holding ?_)
  refine wpAny_Slice ?_
  rw [evalPart_some]
  refine thn (hs pins s1 σ H1 _ I1 q1) fun vs s2 ⟨z,H2,I2,r2,l,xs,k,e1,e2,hx,hk,q⟩=>?_
  subst e1 e2
  obtain ⟨tk,rfl⟩:=r2
  cases r1
  rw [evalPart_none]
  refine wpAny_pure ?_
  refine wpAny_pure ?_
  have I4 : Inv X pins σ H2 { s2 with heap:=s2.heap.push { cls:=.type "slice",data:=.fields #[.int k tk,.none,.none] } }:=I2.kept (t':=s2.toks) fun b ob q=>Heap.get?_push_of_some _ q
  have hsl : ({ s2 with heap:=s2.heap.push { cls:=.type "slice",data:=.fields #[.int k tk,.none,.none] } } : Shared).heap.get? s2.heap.objs.size = some { cls:=.type "slice",data:=.fields #[.int k tk,.none,.none] }:=Heap.get?_push_size _ rfl
  obtain ⟨z,its,n,r,hlen,hob⟩:=I4.lstM hx
  generalize ({ s2 with heap:=s2.heap.push { cls:=.type "slice",data:=.fields #[.int k tk,.none,.none] } } : Shared) = s4 at I4 hsl hob ⊢
  have hT : s4.TypeIs (.ref l) "list":=⟨_,hob,rfl⟩
  have hTs : s4.TypeIs (.ref s2.heap.objs.size) "slice":=⟨_,hsl,rfl⟩
  refine wpAny_bind (wpAny_standAt (wpAny_bind (wpAny_holding ?_)))
  refine wpAny_delItem_slot hT (by decide) F.slot_list_delitem (wpAny_call_entry F.slot_list_delitem hT F.entry_list_delitem ?_ (F.args_list_delitem_2 _ _))
  show wpAny _ _ (Builtin.List.listSubscript? (.ref s2.heap.objs.size) >>= _) _ _ s4
  refine wpAny_bind ?_; unfold Builtin.List.listSubscript?; refine wpAny_bind (wpAny_specialOf hTs slice_no_index ?_)
  simp only [Option.isNone_none,if_true]; refine wpAny_pure ?_
  show wpAny _ _ (typeOf (.ref s2.heap.objs.size) >>= _) _ _ s4
  refine wpAny_bind (wpAny_typeOf hTs ?_); rw [if_neg (by decide),listSliceParts_eq]
  refine wpAny_bind (wpAny_bind (wpAny_field hsl rfl (x:=.none) rfl (wpAny_bind (wpAny_listPart (k:=none) .none ?_)))); rw [if_neg (show ¬ ((rawPart none == rawInt 0) = true) from Bool.false_ne_true)]
  refine wpAny_bind (wpAny_field hsl rfl (x:=.int k tk) rfl (wpAny_bind (wpAny_listPart (.int (k : Int) tk) ?_)))
  refine wpAny_bind (wpAny_field hsl rfl (x:=.none) rfl (wpAny_bind (wpAny_listPart (k:=none) .none (wpAny_pure ?_))))
  refine wpAny_bind (m:=Builtin.List.listItems (.ref l)) ?_; unfold Builtin.List.listItems
  refine wpAny_bind (wpAny_seqItems hob rfl (wpAny_pure ?_)); refine wpAny_bind (wpAny_of_eq (sliceIndices_raw (some (k : Int)) none none its.toArray.size (by simp)) (wpAny_bind (wpAny_rule ?_)))
  have hb : sliceBounds (some (k : Int)) none none its.toArray.size = ((k : Int),((its.length : Nat) : Int),1):=by
    unfold sliceBounds
    simp
    omega
  rw [hb]
  have hf : ∀ f : Array Value→Array Value,(∀ ys : Array Value,f ys = (ys.toList.zipIdx.filterMap fun xk=>if (decide ((k : Int)≤(xk.2 : Int)) && decide ((xk.2 : Int) < ((its.length : Nat) : Int)) && (((xk.2 : Int) - (k : Int)) % 1 == 0)) = true then none else some xk.1).toArray)→f its.toArray = (its.take k).toArray:=fun f h=>by
    rw [h]
    congr 1
    have:=keep_take its k (by omega) 0
    simpa using this
  refine wpAny_bind (m:=updateSeq l _) ?_
  refine wpAny_updateSeq (n:=n) hob rfl ?_ (by rw [List.size_toArray]; omega) ?_
  · refine wpAny_bind (wpAny_letGo (wpAny_pure ⟨_,rfl,?_⟩))
    refine wpAny_release (wpAny_deleteEach_nil ⟨σ,_,I4.lset hx hob (hf _ fun ys=>rfl) (r.takeN k) ?_,q⟩)
    rw [List.length_take]; omega
  · rw [List.size_toArray]
    refine Nat.le_trans (List.length_filterMap_le _ _) ?_
    rw [List.length_zipIdx]
    show its.length≤sizeLine + 1
    omega
end
end L2
set_option Elab.async false
set_option linter.all false
set_option maxRecDepth 100000
set_option maxHeartbeats 1000000
namespace L2
open PySem PySem.Spec PyProof.Rows PySem.W
theorem IsPrev.unique {f : Nat→Int} {p q q' : Nat} (h : IsPrev f p q) (k : IsPrev f p q') : q = q':=by
  rcases Nat.lt_trichotomy q q' with z | z | z
  · have:=h.2.2 q' z k.1; have:=k.2.1; omega
  · exact z
  · have:=k.2.2 q z h.1; have:=h.2.1; omega
theorem IsNext.unique {f : Nat→Int} {n p r r' : Nat} (h : IsNext f n p r) (k : IsNext f n p r') : r = r':=by
  rcases Nat.lt_trichotomy r r' with z | z | z
  · have:=k.2.2.2 r h.1 z; have:=h.2.2.1; omega
  · exact z
  · have:=h.2.2.2 r' k.1 z; have:=k.2.2.1; omega
theorem IsPrev.no {f : Nat→Int} {p q : Nat} (h : IsPrev f p q) (k : NoPrev f p) : False:=by have:=k q h.1; have:=h.2.1; omega
theorem IsNext.no {f : Nat→Int} {n p r : Nat} (h : IsNext f n p r) (k : NoNext f n p) : False:=by have:=k r h.1 h.2.1; have:=h.2.2.1; omega
theorem ElderIs.unique {f : Nat→Int} {n p : Nat} {e e' : Int} (h : ElderIs f n p e) (k : ElderIs f n p e') : e = e':=by
  rcases h with ⟨h1,h2,h3⟩ | ⟨q,h1,h2,h3⟩ | ⟨r,h1,h2,h3⟩ | ⟨q,r,h1,h2,h3⟩ <;>
  rcases k with ⟨k1,k2,k3⟩ | ⟨q',k1,k2,k3⟩ | ⟨r',k1,k2,k3⟩ | ⟨q',r',k1,k2,k3⟩
  · rw [h3,k3]
  · exact (k1.no h1).elim
  · exact (k2.no h2).elim
  · exact (k1.no h1).elim
  · exact (h1.no k1).elim
  · rw [h3,k3,h1.unique k1]
  · exact (h1.no k1).elim
  · exact (k2.no h2).elim
  · exact (h2.no k2).elim
  · exact (k1.no h1).elim
  · rw [h3,k3,h2.unique k2]
  · exact (k1.no h1).elim
  · exact (h1.no k1).elim
  · exact (h2.no k2).elim
  · exact (h1.no k1).elim
  · rw [h3,k3,h1.unique k1,h2.unique k2]
def TreeIs (ns : List Int) (es : List Int) : Prop:=es.length = ns.length∧∀ p,p < ns.length→ElderIs (nth ns) ns.length p (es.getD p 0)
theorem TreeIs.unique {ns es es' : List Int} (h : TreeIs ns es) (k : TreeIs ns es') : es = es':=by
  refine List.ext_getElem (by rw [h.1,k.1]) fun j h1 h2=>?_
  have hj : j < ns.length:=by rw [← h.1]; exact h1
  have:=(h.2 j hj).unique (k.2 j hj)
  simpa [List.getD_eq_getElem?_getD,h1,h2] using this
def GoodS (f : Nat→Int) (n : Nat) (a b e : Int) : Prop:=0≤a∧a≤b + 1∧b < n∧(∀ k : Nat,a = ((k + 1 : Nat) : Int)→∀ q : Nat,a≤q→(q : Int)≤b→f k≤f q)∧(∀ k : Nat,b + 1 = (k : Int)→k < n→∀ q : Nat,a≤q→(q : Int)≤b→f k < f q) ∧
  e = (if a = 0 then (if b + 1 = n then -1 else b + 1) else if b + 1 = n then a - 1 else if f (a - 1).toNat≤f (b + 1).toNat then b + 1 else a - 1)
theorem GoodS.elder {f : Nat→Int} {n : Nat} {a c : Nat} {e : Int} (h : GoodS f n a ((a + c : Nat) : Int) e) : ElderIs f n (lowF f a c) e:=by
  obtain ⟨h0,h1,h2,h3,h4,h5⟩:=h
  obtain ⟨l1,l2,l3,l4⟩:=lowF_is f a c
  generalize lowF f a c = p at l1 l2 l3 l4
  have prevA : ∀ k,a = k + 1→IsPrev f p k:=fun k hk=>⟨by omega,h3 k (by omega) p (by omega) (by omega),fun r r1 r2=>l3 r (by omega) r2⟩
  have prev0 : a = 0→NoPrev f p:=fun z q hq=>l3 q (by omega) hq
  have nextB : a + c + 1 < n→IsNext f n p (a + c + 1):=fun z=>⟨by omega,z,h4 (a + c + 1) (by omega) z p (by omega) (by omega),fun s s1 s2=>l4 s s1 (by omega)⟩
  have next0 : a + c + 1 = n→NoNext f n p:=fun z r r1 r2=>l4 r r1 (by omega)
  by_cases za : a = 0
  · by_cases zb : a + c + 1 = n
    · refine .inl ⟨prev0 za,next0 zb,?_⟩
      rw [h5,if_pos (by omega),if_pos (by omega)]
    · refine .inr (.inr (.inl ⟨a + c + 1,prev0 za,nextB (by omega),?_⟩))
      rw [h5,if_pos (by omega),if_neg (by omega)]; omega
  · obtain ⟨k,hk⟩ : ∃ k,a = k + 1:=⟨a - 1,by omega⟩
    by_cases zb : a + c + 1 = n
    · refine .inr (.inl ⟨k,prevA k hk,next0 zb,?_⟩)
      rw [h5,if_neg (by omega),if_pos (by omega)]; omega
    · refine .inr (.inr (.inr ⟨k,a + c + 1,prevA k hk,nextB (by omega),?_⟩))
      have e1 : ((a : Int) - 1).toNat = k:=by omega
      have e2 : (((a + c : Nat) : Int) + 1).toNat = a + c + 1:=by omega
      rw [h5,if_neg (by omega),if_neg (by omega),e1,e2]
      split <;> omega
theorem GoodS.ahead {f : Nat→Int} {n : Nat} {a c : Nat} {e : Int} (h : GoodS f n a ((a + c : Nat) : Int) e) : GoodS f n a ((lowF f a c : Int) - 1) (lowF f a c):=by
  obtain ⟨h0,h1,h2,h3,h4,h5⟩:=h
  obtain ⟨l1,l2,l3,l4⟩:=lowF_is f a c
  generalize lowF f a c = p at l1 l2 l3 l4
  refine ⟨h0,by omega,by omega,fun k hk q q1 q2=>h3 k hk q q1 (by omega),fun k hk hkn q q1 q2=>?_,?_⟩
  · have : k = p:=by omega
    subst this
    exact l3 q (by omega) (by omega)
  · by_cases za : a = 0
    · rw [if_pos (by omega),if_neg (by omega)]; omega
    · rw [if_neg (by omega),if_neg (by omega)]
      have e2 : ((p : Int) - 1 + 1).toNat = p:=by omega
      have:=h3 (a - 1) (by omega) p (by omega) (by omega)
      have e1 : ((a : Int) - 1).toNat = a - 1:=by omega
      rw [e1,e2,if_pos this]; omega
theorem GoodS.behind {f : Nat→Int} {n : Nat} {a c : Nat} {e : Int} (h : GoodS f n a ((a + c : Nat) : Int) e) : GoodS f n ((lowF f a c : Int) + 1) ((a + c : Nat) : Int) (lowF f a c):=by
  obtain ⟨h0,h1,h2,h3,h4,h5⟩:=h
  obtain ⟨l1,l2,l3,l4⟩:=lowF_is f a c
  generalize lowF f a c = p at l1 l2 l3 l4
  refine ⟨by omega,by omega,h2,fun k hk q q1 q2=>?_,fun k hk hkn q q1 q2=>h4 k hk hkn q (by omega) q2,?_⟩
  · have : k = p:=by omega
    subst this
    exact l4 q (by omega) (by omega)
  · rw [if_neg (by omega)]
    by_cases zb : a + c + 1 = n
    · rw [if_pos (by omega)]; omega
    · rw [if_neg (by omega)]
      have e1 : ((p : Int) + 1 - 1).toNat = p:=by omega
      have e2 : (((a + c : Nat) : Int) + 1).toNat = a + c + 1:=by omega
      have:=h4 (a + c + 1) (by omega) (by omega) p (by omega) (by omega)
      rw [e1,e2,if_neg (by omega)]; omega
theorem elder_lists {f : Nat→Int} {n p : Nat} (hp : p < n) : ElderIs f n p
    (match ((List.range p).filter fun q=>decide (f q≤f p)).getLast?,((List.range (n - (p + 1))).filter fun j=>decide (f (p + 1 + j) < f p)).head? with
      | none,none=>-1
      | none,some j=>((p + 1 + j : Nat) : Int)
      | some q,none=>q
      | some q,some j=>if f q≤f (p + 1 + j) then ((p + 1 + j : Nat) : Int) else q):=by
  have hA : (((List.range p).filter fun q=>decide (f q≤f p)).getLast? = none∧NoPrev f p)∨∃ q,((List.range p).filter fun q=>decide (f q≤f p)).getLast? = some q∧IsPrev f p q:=by
    induction p with
    | zero=>exact .inl ⟨rfl,fun q hq=>by omega⟩
    | succ p _ =>
      generalize p + 1 = P
      have key : ∀ m,m≤P→(((List.range m).filter fun q=>decide (f q≤f P)).getLast? = none∧∀ q,q < m→f P < f q)∨∃ q,((List.range m).filter fun q=>decide (f q≤f P)).getLast? = some q∧q < m∧f q≤f P∧∀ r,q < r→r < m→f P < f r:=by
        intro m
        induction m with
        | zero=>intro _; exact .inl ⟨rfl,fun q hq=>by omega⟩
        | succ m ih =>
          intro hm
          rw [List.range_succ,List.filter_append]
          by_cases hle : f m≤f P
          · refine .inr ⟨m,?_,by omega,hle,fun r r1 r2=>by omega⟩
            simp [hle]
          · have e : List.filter (fun q=>decide (f q≤f P)) [m] = []:=by simp [hle]
            rw [e,List.append_nil]
            rcases ih (by omega) with ⟨i1,i2⟩ | ⟨q,i1,i2,i3,i4⟩
            · refine .inl ⟨i1,fun q hq=>?_⟩
              by_cases z : q = m
              · rw [z]; omega
              · exact i2 q (by omega)
            · refine .inr ⟨q,i1,by omega,i3,fun r r1 r2=>?_⟩
              by_cases z : r = m
              · rw [z]; omega
              · exact i4 r r1 (by omega)
      rcases key P (Nat.le_refl _) with ⟨i1,i2⟩ | ⟨q,i1,i2,i3,i4⟩
      · exact .inl ⟨i1,i2⟩
      · exact .inr ⟨q,i1,i2,i3,i4⟩
  have hB : (((List.range (n - (p + 1))).filter fun j=>decide (f (p + 1 + j) < f p)).head? = none∧NoNext f n p)∨∃ j,((List.range (n - (p + 1))).filter fun j=>decide (f (p + 1 + j) < f p)).head? = some j∧IsNext f n p (p + 1 + j):=by
    have key : ∀ m,(((List.range m).filter fun j=>decide (f (p + 1 + j) < f p)).head? = none∧∀ j,j < m→f p≤f (p + 1 + j))∨∃ j,((List.range m).filter fun j=>decide (f (p + 1 + j) < f p)).head? = some j∧j < m∧f (p + 1 + j) < f p∧∀ i,i < j→f p≤f (p + 1 + i):=by
      intro m
      induction m with
      | zero=>exact .inl ⟨rfl,fun q hq=>by omega⟩
      | succ m ih =>
        rw [List.range_succ,List.filter_append]
        rcases ih with ⟨i1,i2⟩ | ⟨j,i1,i2,i3,i4⟩
        · have e0 : List.filter (fun j=>decide (f (p + 1 + j) < f p)) (List.range m) = []:=List.head?_eq_none_iff.mp i1
          rw [e0,List.nil_append]
          by_cases hlt : f (p + 1 + m) < f p
          · refine .inr ⟨m,by simp [hlt],by omega,hlt,fun i hi=>i2 i hi⟩
          · refine .inl ⟨by simp [hlt],fun j hj=>?_⟩
            by_cases z : j = m
            · rw [z]; omega
            · exact i2 j (by omega)
        · refine .inr ⟨j,?_,by omega,i3,i4⟩
          rw [List.head?_append,i1]; rfl
    rcases key (n - (p + 1)) with ⟨i1,i2⟩ | ⟨j,i1,i2,i3,i4⟩
    · refine .inl ⟨i1,fun r r1 r2=>?_⟩
      have:=i2 (r - (p + 1)) (by omega)
      have e : p + 1 + (r - (p + 1)) = r:=by omega
      rw [e] at this; exact this
    · refine .inr ⟨j,i1,by omega,by omega,i3,fun s s1 s2=>?_⟩
      have:=i4 (s - (p + 1)) (by omega)
      have e : p + 1 + (s - (p + 1)) = s:=by omega
      rw [e] at this; exact this
  rcases hA with ⟨a1,a2⟩ | ⟨q,a1,a2⟩ <;> rcases hB with ⟨b1,b2⟩ | ⟨j,b1,b2⟩ <;> rw [a1,b1]
  · exact .inl ⟨a2,b2,rfl⟩
  · exact .inr (.inr (.inl ⟨_,a2,b2,rfl⟩))
  · exact .inr (.inl ⟨_,a2,b2,rfl⟩)
  · exact .inr (.inr (.inr ⟨_,_,a2,b2,rfl⟩))
def StackAt (H : Hp) (l : Addr) (st : List (Int × Int × Int)) : Prop:=∃ qs : List Addr,H l = some (.lst (qs.map V.ref))∧qs.length = st.length∧∀ (j : Nat) (q : Addr) (x : Int × Int × Int),qs[j]? = some q→st[j]? = some x→H q = some (.tup [.int x.1,.int x.2.1,.int x.2.2])
theorem StackAt.same {H H' : Hp} {l : Addr} {st : List (Int × Int × Int)} (S : StackAt H l st) (s : Same H H') : StackAt H' l st:=by
  obtain ⟨qs,h1,h2,h3⟩:=S
  exact ⟨qs,s _ _ h1,h2,fun j q x a b=>s _ _ (h3 j q x a b)⟩
theorem StackAt.other {H : Hp} {l e : Addr} {st : List (Int × Int × Int)} {zs : List V} {o : HO} (S : StackAt H l st) (hne : e≠l) (he : H e = some (.lst zs)) : StackAt (upd H e o) l st:=by
  obtain ⟨qs,h1,h2,h3⟩:=S
  refine ⟨qs,by rw [upd_ne hne.symm]; exact h1,h2,fun j q x a b=>?_⟩
  have h:=h3 j q x a b
  rw [upd_ne]
  · exact h
  · intro z; subst z; rw [he] at h; cases h
theorem StackAt.pop {H : Hp} {l : Addr} {st : List (Int × Int × Int)} {x : Int × Int × Int} (S : StackAt H l (st ++ [x])) : ∃ qs q,H l = some (.lst ((qs ++ [q]).map V.ref))∧qs.length = st.length∧H q = some (.tup [.int x.1,.int x.2.1,.int x.2.2])∧q≠l∧StackAt (upd H l (.lst (qs.map V.ref))) l st:=by
  obtain ⟨qs0,h1,h2,h3⟩:=S
  have hne : qs0≠[]:=fun z=>by rw [z] at h2; simp at h2
  obtain ⟨q,qs,rfl⟩ : ∃ q qs,qs0 = qs ++ [q]:=⟨qs0.getLast hne,qs0.dropLast,(List.dropLast_concat_getLast hne).symm⟩
  have hlen : qs.length = st.length:=by simpa using h2
  have hq : H q = some (.tup [.int x.1,.int x.2.1,.int x.2.2]):=by
    refine h3 st.length _ x ?_ (by simp)
    rw [List.getElem?_append_right (by omega),hlen]; simp
  have hql : q≠l:=fun z=>by rw [z,h1] at hq; cases hq
  refine ⟨qs,q,h1,hlen,hq,hql,qs,upd_same,hlen,fun j p y a b=>?_⟩
  have hj : j < st.length:=(List.getElem?_eq_some_iff.mp b).1
  have h:=h3 j p y (by rw [List.getElem?_append_left (by omega)]; exact a) (by rw [List.getElem?_append_left hj]; exact b)
  rw [upd_ne]
  · exact h
  · intro z; rw [z,h1] at h; cases h
theorem StackAt.push {H : Hp} {l q : Addr} {st : List (Int × Int × Int)} {x : Int × Int × Int} (S : StackAt H l st) (hq : H q = some (.tup [.int x.1,.int x.2.1,.int x.2.2])) : ∃ xs : List V,H l = some (.lst xs)∧xs.length = st.length∧StackAt (upd H l (.lst (xs ++ [V.ref q]))) l (st ++ [x]):=by
  obtain ⟨qs,h1,h2,h3⟩:=S
  have ql : q≠l:=fun z=>by rw [z,h1] at hq; cases hq
  refine ⟨_,h1,by simp [h2],qs ++ [q],by rw [upd_same]; simp,by simp [h2],fun j p y a b=>?_⟩
  by_cases hj : j < qs.length
  · rw [List.getElem?_append_left hj] at a
    rw [List.getElem?_append_left (by omega)] at b
    have h:=h3 j p y a b
    rw [upd_ne]
    · exact h
    · intro z; rw [z,h1] at h; cases h
  · have hjl:=(List.getElem?_eq_some_iff.mp a).1
    have e : j = qs.length:=by simp at hjl; omega
    subst e
    rw [List.getElem?_append_right (Nat.le_refl _)] at a
    rw [h2,List.getElem?_append_right (Nat.le_refl _)] at b
    simp at a b
    rw [← a,← b,upd_ne ql]; exact hq
theorem while_m {c : TT} {tb : TS} {D : Ends} {σ : St} {H : Hp} (Pv : Nat→St→Hp→Prop) (m0 : Nat) (h0 : Pv m0 σ H)
    (hs : ∀ m σ H,Pv m σ H→c σ H fun b H1=>if b = true then ∃ Nx : St→Hp→Prop,(∀ σ' H',Nx σ' H'→∃ m',m' < m∧Pv m' σ' H')∧tb { D with nx:=Nx,ct:=Nx,bk:=D.nx } σ H1 else D.nx σ H1) : WhileR c tb D σ H:=⟨Pv,⟨m0,h0⟩,hs⟩
end L2
set_option Elab.async false
set_option linter.all false
set_option maxRecDepth 100000
set_option maxHeartbeats 1000000
namespace L2
def Over (f : Nat→Int) (o p : Nat) : Prop:=(o < p∧∀ r,o < r→r≤p→f o≤f r)∨(p < o∧∀ r,p≤r→r < o→f o < f r)
theorem Over.irrefl {f : Nat→Int} {p : Nat} : ¬ Over f p p:=by rintro (⟨h,_⟩ | ⟨h,_⟩) <;> omega
theorem Over.ne {f : Nat→Int} {o p : Nat} (h : Over f o p) : o≠p:=fun z=>Over.irrefl (z ▸ h)
theorem Over.trans {f : Nat→Int} {o e p : Nat} (h : Over f o e) (k : Over f e p) : Over f o p:=by
  rcases h with ⟨h1,h2⟩ | ⟨h1,h2⟩ <;> rcases k with ⟨k1,k2⟩ | ⟨k1,k2⟩
  · refine .inl ⟨by omega,fun r r1 r2=>?_⟩
    by_cases z : r≤e
    · exact h2 r r1 z
    · have:=k2 r (by omega) r2; have:=h2 e h1 (Nat.le_refl _); omega
  · have he:=h2 e h1 (Nat.le_refl _)
    rcases Nat.lt_trichotomy o p with z | z | z
    · exact .inl ⟨z,fun r r1 r2=>h2 r r1 (by omega)⟩
    · have:=k2 p (Nat.le_refl _) k1; subst z; omega
    · exact .inr ⟨z,fun r r1 r2=>by have:=k2 r r1 (by omega); omega⟩
  · have he:=h2 e (Nat.le_refl _) h1
    rcases Nat.lt_trichotomy o p with z | z | z
    · exact .inl ⟨z,fun r r1 r2=>by have:=k2 r (by omega) r2; omega⟩
    · have:=k2 p k1 (Nat.le_refl _); subst z; omega
    · exact .inr ⟨z,fun r r1 r2=>h2 r (by omega) r2⟩
  · refine .inr ⟨by omega,fun r r1 r2=>?_⟩
    by_cases z : r < e
    · have:=k2 r r1 z; have:=h2 e (Nat.le_refl _) h1; omega
    · exact h2 r (by omega) r2
theorem elder_over {f : Nat→Int} {n p : Nat} {e : Int} (hp : p < n) (h : ElderIs f n p e) : e = -1∨∃ q : Nat,e = q∧q < n∧Over f q p:=by
  have pv : ∀ q,IsPrev f p q→Over f q p:=fun q h=>.inl ⟨h.1,fun r r1 r2=>by
    by_cases z : r = p
    · rw [z]; exact h.2.1
    · have:=h.2.2 r r1 (by omega); have:=h.2.1; omega⟩
  have nx : ∀ q,IsNext f n p q→Over f q p:=fun q h=>.inr ⟨h.1,fun r r1 r2=>by
    by_cases z : r = p
    · rw [z]; exact h.2.2.1
    · have:=h.2.2.2 r (by omega) r2; have:=h.2.2.1; omega⟩
  rcases h with ⟨_,_,h⟩ | ⟨q,h1,_,h⟩ | ⟨r,_,h1,h⟩ | ⟨q,r,h1,h2,h⟩
  · exact .inl h
  · exact .inr ⟨q,h,by have:=h1.1; omega,pv q h1⟩
  · exact .inr ⟨r,h,h1.2.1,nx r h1⟩
  · by_cases z : f q≤f r
    · rw [if_pos z] at h; exact .inr ⟨r,h,h2.2.1,nx r h2⟩
    · rw [if_neg z] at h; exact .inr ⟨q,h,by have:=h1.1; omega,pv q h1⟩
theorem over_step {f : Nat→Int} {n p o : Nat} {e : Int} (hp : p < n) (ho : o < n) (h : ElderIs f n p e) (hO : Over f o p) : ∃ q : Nat,e = q∧q < n∧(o = q∨Over f o q):=by
  rcases hO with ⟨o1,o2⟩ | ⟨o1,o2⟩
  · have op:=o2 p o1 (Nat.le_refl _)
    have pv : ∀ q,IsPrev f p q→o = q∨(o < q∧Over f o q∧f o≤f q):=fun q h=>by
      rcases Nat.lt_trichotomy o q with z | z | z
      · have:=h.1; exact .inr ⟨z,.inl ⟨z,fun r r1 r2=>o2 r r1 (by omega)⟩,o2 q z (by omega)⟩
      · exact .inl z
      · have:=h.2.2 o z o1; omega
    rcases h with ⟨h1,_,h⟩ | ⟨q,h1,_,h⟩ | ⟨r,h1,_,h⟩ | ⟨q,r,h1,h2,h⟩
    · have:=h1 o o1; omega
    · refine ⟨q,h,by have:=h1.1; omega,?_⟩
      rcases pv q h1 with z | z
      · exact .inl z
      · exact .inr z.2.1
    · have:=h1 o o1; omega
    · by_cases z : f q≤f r
      · rw [if_pos z] at h
        refine ⟨r,h,h2.2.1,.inr (.inl ⟨by have:=h2.1; omega,fun s s1 s2=>?_⟩)⟩
        by_cases sp : s≤p
        · exact o2 s s1 sp
        · by_cases sr : s = r
          · rw [sr]
            rcases pv q h1 with y | y
            · rw [y]; exact z
            · have:=y.2.2; omega
          · have:=h2.2.2.2 s (by omega) (by omega); omega
      · rw [if_neg z] at h
        refine ⟨q,h,by have:=h1.1; omega,?_⟩
        rcases pv q h1 with z | z
        · exact .inl z
        · exact .inr z.2.1
  · have op:=o2 p (Nat.le_refl _) o1
    have nx : ∀ r,IsNext f n p r→o = r∨(r < o∧Over f o r∧f o < f r):=fun r h=>by
      rcases Nat.lt_trichotomy o r with z | z | z
      · have:=h.2.2.2 o o1 z; omega
      · exact .inl z
      · have:=h.1; exact .inr ⟨z,.inr ⟨z,fun s s1 s2=>o2 s (by omega) s2⟩,o2 r (by omega) z⟩
    rcases h with ⟨_,h1,h⟩ | ⟨q,_,h1,h⟩ | ⟨r,_,h1,h⟩ | ⟨q,r,h1,h2,h⟩
    · have:=h1 o o1 ho; omega
    · have:=h1 o o1 ho; omega
    · refine ⟨r,h,h1.2.1,?_⟩
      rcases nx r h1 with z | z
      · exact .inl z
      · exact .inr z.2.1
    · by_cases z : f q≤f r
      · rw [if_pos z] at h
        refine ⟨r,h,h2.2.1,?_⟩
        rcases nx r h2 with z | z
        · exact .inl z
        · exact .inr z.2.1
      · rw [if_neg z] at h
        refine ⟨q,h,by have:=h1.1; omega,.inr (.inr ⟨by have:=h1.1; omega,fun s s1 s2=>?_⟩)⟩
        by_cases sp : p≤s
        · exact o2 s sp s2
        · by_cases sq : s = q
          · rw [sq]
            rcases nx r h2 with y | y
            · rw [y]; omega
            · have:=y.2.2; omega
          · have:=h1.2.2 s (by omega) (by omega); omega
theorem over_iff {f : Nat→Int} {n p o q : Nat} (hp : p < n) (ho : o < n) (h : ElderIs f n p (q : Int)) : Over f o p↔o = q∨Over f o q:=by
  refine ⟨fun k=>?_,fun k=>?_⟩
  · obtain ⟨q',e,_,z⟩:=over_step hp ho h k
    have : q' = q:=by omega
    rw [this] at z; exact z
  · rcases elder_over hp h with z | ⟨q',e,_,z⟩
    · omega
    · have : q' = q:=by omega
      rw [this] at z
      rcases k with k | k
      · rw [k]; exact z
      · exact k.trans z
theorem over_none {f : Nat→Int} {n p o : Nat} (hp : p < n) (ho : o < n) (h : ElderIs f n p (-1)) : ¬ Over f o p:=fun k=>by
  obtain ⟨q',e,_,z⟩:=over_step hp ho h k
  omega
theorem count_same {P Q : Nat→Bool} : ∀ n,(∀ o,o < n→P o = Q o)→(List.range n).countP P = (List.range n).countP Q
  | 0,_=>rfl
  | n + 1,h=>by
    rw [List.range_succ,List.countP_append,List.countP_append,count_same n (fun o ho=>h o (by omega))]
    simp [List.countP_cons,h n (by omega)]
theorem count_step {P Q : Nat→Bool} {e : Nat} : ∀ n,e < n→(∀ o,o < n→(P o = true↔o = e∨Q o = true))→Q e = false→(List.range n).countP P = (List.range n).countP Q + 1
  | 0,h,_,_=>by omega
  | n + 1,h,hi,hq=>by
    rw [List.range_succ,List.countP_append,List.countP_append]
    by_cases z : e = n
    · have e1 : (List.range n).countP P = (List.range n).countP Q:=count_same n fun o ho=>by
        have:=hi o (by omega)
        cases hP : P o <;> cases hQ : Q o <;> simp [hP,hQ] at this <;> first | rfl | omega
      have hPn : P n = true:=(hi n (by omega)).mpr (.inl z.symm)
      rw [z] at hq
      rw [e1]; simp [List.countP_cons,hPn,hq]
    · rw [count_step n (by omega) (fun o ho=>hi o (by omega)) hq]
      have:=hi n (by omega)
      have hn : P n = Q n:=by
        cases hP : P n <;> cases hQ : Q n <;> simp [hP,hQ] at this <;> first | rfl | omega
      simp [List.countP_cons,hn]; omega
theorem count_lt {P : Nat→Bool} {e n : Nat} (he : e < n) (h : P e = false) : (List.range n).countP P < n:=by
  have h1:=count_step (P:=fun o=>decide (o = e) || P o) (Q:=P) n he (fun o _=>by simp) h
  have h2:=List.countP_le_length (p:=fun o=>decide (o = e) || P o) (l:=List.range n)
  rw [h1,List.length_range] at h2
  omega
def wayF (T : List Int) : Nat→Int→List Nat
  | 0,_=>[]
  | k + 1,at_=>if 0≤at_∧at_ < T.length then at_.toNat :: wayF T k (nth T at_.toNat) else []
open Classical in
noncomputable def dep (f : Nat→Int) (n p : Nat) : Nat:=(List.range n).countP fun o=>decide (Over f o p)
theorem dep_lt {f : Nat→Int} {n p : Nat} (hp : p < n) : dep f n p < n:=by
  classical
  exact count_lt hp (by simpa using Over.irrefl)
theorem dep_elder {f : Nat→Int} {n p q : Nat} (hp : p < n) (h : ElderIs f n p (q : Int)) : dep f n p = dep f n q + 1:=by
  classical
  have hq : q < n:=by
    rcases elder_over hp h with z | ⟨q',e,z,_⟩ <;> omega
  exact count_step n hq (fun o ho=>by simpa using over_iff hp ho h) (by simpa using Over.irrefl)
theorem dep_top {f : Nat→Int} {n p : Nat} (hp : p < n) (h : ElderIs f n p (-1)) : dep f n p = 0:=by
  classical
  unfold dep
  rw [List.countP_eq_zero]
  intro o ho
  simpa using over_none hp (by simpa using ho) h
theorem way_tree {ns T : List Int} (hT : TreeIs ns T) : ∀ k p,p < ns.length→dep (nth ns) ns.length p≤k→(∀ o,o ∈ wayF T k (nth T p)↔o < ns.length∧Over (nth ns) o p)∧(wayF T k (nth T p)).length = dep (nth ns) ns.length p
  | k,p,hp,hk=>by
    have hE : ElderIs (nth ns) ns.length p (nth T p):=hT.2 p hp
    rcases elder_over hp hE with z | ⟨q,e,hq,hO⟩
    · have e0 : wayF T k (nth T p) = []:=by
        cases k with
        | zero=>rfl
        | succ k=>rw [wayF,if_neg (by omega)]
      rw [e0]
      rw [z] at hE
      exact ⟨fun o=>⟨fun h=>by simp at h,fun h=>absurd h.2 (over_none hp h.1 hE)⟩,by rw [dep_top hp hE]; rfl⟩
    · rw [e] at hE
      have hd:=dep_elder hp hE
      obtain ⟨k',rfl⟩ : ∃ k',k = k' + 1:=⟨k - 1,by omega⟩
      have ih:=way_tree hT k' q hq (by omega)
      have eT : ((q : Nat) : Int).toNat = q:=by omega
      rw [wayF,e,if_pos ⟨by omega,by rw [hT.1]; omega⟩,eT]
      refine ⟨fun o=>?_,by simp [ih.2,hd]⟩
      rw [List.mem_cons,ih.1 o]
      refine ⟨fun h=>?_,fun h=>?_⟩
      · rcases h with h | h
        · rw [h]; exact ⟨hq,hO⟩
        · exact ⟨h.1,h.2.trans hO⟩
      · rcases (over_iff hp h.1 hE).mp h.2 with z | z
        · exact .inl z
        · exact .inr ⟨h.1,z⟩
inductive StT (T : Nat→Int) : Int→Int→Int→Prop
  | nil {a b e : Int} : b < a→StT T a b e
  | node {a b e : Int} (h : Nat) : a≤h→(h : Int)≤b→T h = e→(∀ q : Nat,a≤q→(q : Int)≤b→T q = e→q = h)→StT T a ((h : Int) - 1) h→StT T ((h : Int) + 1) b h→StT T a b e
theorem GoodS.out {f : Nat→Int} {n : Nat} {a b e : Int} (h : GoodS f n a b e) : e < a∨b < e:=by
  obtain ⟨h0,h1,h2,h3,h4,h5⟩:=h
  rw [h5]
  split
  · split <;> omega
  · split
    · omega
    · split <;> omega
inductive StG (T g : Nat→Int) : Int→Int→Int→Int→Prop
  | nil {a b e m : Int} : b < a→StG T g a b e m
  | node {a b e m : Int} (h : Nat) : a≤h→(h : Int)≤b→T h = e→g h = m→StG T g a ((h : Int) - 1) h (m + 1)→StG T g ((h : Int) + 1) b h (m + 1)→StG T g a b e m
theorem StG.congr {T g g' : Nat→Int} {a b e m : Int} (S : StG T g a b e m) : (∀ q : Nat,a≤q→(q : Int)≤b→g q = g' q)→StG T g' a b e m:=by
  induction S with
  | nil z=>intro _; exact .nil z
  | node h h1 h2 h3 h4 _ _ ih1 ih2 =>
    intro k
    exact .node h h1 h2 h3 (by rw [← k h h1 h2]; exact h4) (ih1 fun q q1 q2=>k q q1 (by omega)) (ih2 fun q q1 q2=>k q (by omega) q2)
theorem StT.row {T : Nat→Int} {a b e : Int} (S : StT T a b e) : ∀ m,∃ g,StG T g a b e m:=by
  induction S with
  | nil z=>intro m; exact ⟨fun _=>0,.nil z⟩
  | node h h1 h2 h3 h4 _ _ ih1 ih2 =>
    intro m
    obtain ⟨g1,k1⟩:=ih1 (m + 1)
    obtain ⟨g2,k2⟩:=ih2 (m + 1)
    refine ⟨fun q=>if q < h then g1 q else if q = h then m else g2 q,.node h h1 h2 h3 ?_ (k1.congr fun q q1 q2=>?_) (k2.congr fun q q1 q2=>?_)⟩
    · show (if h < h then g1 h else if h = h then m else g2 h) = m
      rw [if_neg (by omega),if_pos rfl]
    · show g1 q = if q < h then g1 q else if q = h then m else g2 q
      rw [if_pos (by omega)]
    · show g2 q = if q < h then g1 q else if q = h then m else g2 q
      rw [if_neg (by omega),if_neg (by omega)]
theorem StG.ge {T g : Nat→Int} {a b e m : Int} (S : StG T g a b e m) : ∀ q : Nat,a≤q→(q : Int)≤b→m≤g q:=by
  induction S with
  | nil z=>intro q h1 h2; omega
  | node h h1 h2 h3 h4 _ _ ih1 ih2 =>
    intro q q1 q2
    rcases Nat.lt_trichotomy q h with y | y | y
    · have:=ih1 q q1 (by omega); omega
    · rw [y]; omega
    · have:=ih2 q (by omega) q2; omega
theorem StG.elder {T g : Nat→Int} {n : Nat} {a b e m : Int} (S : StG T g a b e m) : 0≤a→a≤b + 1→b < n→(∀ k : Nat,a = ((k + 1 : Nat) : Int)→g k < m)→(∀ k : Nat,b + 1 = (k : Int)→k < n→g k < m) →
    e = (if a = 0 then (if b + 1 = n then -1 else b + 1) else if b + 1 = n then a - 1 else if g (a - 1).toNat≤g (b + 1).toNat then b + 1 else a - 1)→∀ p : Nat,a≤p→(p : Int)≤b→ElderIs g n p (T p):=by
  induction S with
  | nil z=>intro _ _ _ _ _ _ p h1 h2; omega
  | @node a b e m h h1 h2 h3 h4 s1 s2 ih1 ih2 =>
    intro c0 c1 c2 c3 c4 c5 p p1 p2
    obtain ⟨a0,rfl⟩ : ∃ a0 : Nat,a = a0:=⟨a.toNat,by omega⟩
    obtain ⟨c,rfl⟩ : ∃ c : Nat,b = ((a0 + c : Nat) : Int):=⟨(b - a0).toNat,by omega⟩
    have hge:=(StG.node h h1 h2 h3 h4 s1 s2).ge
    have g1:=s1.ge
    have g2:=s2.ge
    have hG : GoodS g n a0 ((a0 + c : Nat) : Int) e:=⟨c0,c1,c2,fun k hk q q1 q2=>by have:=c3 k hk; have:=hge q q1 q2; omega,fun k hk hkn q q1 q2=>by have:=c4 k hk hkn; have:=hge q q1 q2; omega,c5⟩
    have hlow : lowF g a0 c = h:=by
      have : IsLow g a0 (a0 + c) h:=⟨by omega,by omega,fun r r1 r2=>by have:=g1 r (by omega) (by omega); omega,fun r r1 r2=>by have:=g2 r (by omega) (by omega); omega⟩
      exact (lowF_is g a0 c).unique this
    rcases Nat.lt_trichotomy p h with y | y | y
    · refine ih1 (by omega) (by omega) (by omega) (fun k hk=>by have:=c3 k hk; omega) (fun k hk hkn=>?_) ?_ p p1 (by omega)
      · have : k = h:=by omega
        rw [this]; omega
      · by_cases z : (a0 : Int) = 0
        · rw [if_pos z,if_neg (by omega)]; omega
        · rw [if_neg z,if_neg (by omega),if_pos ?_]
          · omega
          · have e1 : (((h : Int) - 1 + 1)).toNat = h:=by omega
            have:=c3 ((a0 : Int) - 1).toNat (by omega)
            rw [e1]; omega
    · rw [y,h3,← hlow]; exact hG.elder
    · refine ih2 (by omega) (by omega) (by omega) (fun k hk=>?_) (fun k hk hkn=>by have:=c4 k hk hkn; omega) ?_ p (by omega) p2
      · have : k = h:=by omega
        rw [this]; omega
      · rw [if_neg (by omega)]
        by_cases z : ((a0 + c : Nat) : Int) + 1 = n
        · rw [if_pos z]; omega
        · rw [if_neg z,if_neg ?_]
          · omega
          · have e1 : (((h : Int) + 1 - 1)).toNat = h:=by omega
            have:=c4 (((a0 + c : Nat) : Int) + 1).toNat (by omega) (by omega)
            rw [e1]; omega
end L2
set_option Elab.async false
set_option linter.all false
set_option maxRecDepth 100000
set_option maxHeartbeats 1000000
namespace L2
open PySem PySem.Spec PyProof.Rows PySem.W
def setE (es : List Int) (A B : List Nat) (i : Nat) : List Int:=match A.getLast? with
  | some q=>(match B.head? with | some b=>es.set b i | none=>es).set i (q : Int)
  | none=>match B.head? with | some b=>es.set b i | none=>es
def natsV (l : List Nat) : List V:=l.map fun q=>V.int (q : Nat)
theorem getD_set (l : List Int) (a p : Nat) (v : Int) (h : p < l.length) : (l.set a v).getD p 0 = if a = p then v else l.getD p 0:=by
  rw [List.getD_eq_getElem?_getD,List.getD_eq_getElem?_getD]
  by_cases e : a = p
  · subst e; rw [if_pos rfl,List.getElem?_set_self h]; rfl
  · rw [if_neg e,List.getElem?_set_ne e]
theorem setE_len (es : List Int) (A B : List Nat) (i : Nat) : (setE es A B i).length = es.length:=by
  unfold setE
  cases A.getLast? <;> cases B.head? <;> simp
theorem setE_at (es : List Int) (A B : List Nat) (i p : Nat) (hp : p < es.length) (hb : ∀ b,B.head? = some b→b≠i) : (setE es A B i).getD p 0 = if p = i then (match A.getLast? with | some q=>(q : Int) | none=>es.getD i 0) else if B.head? = some p then (i : Int) else es.getD p 0:=by
  unfold setE
  cases hA : A.getLast? with
  | none =>
    cases hB : B.head? with
    | none =>
      by_cases e : p = i
      · rw [if_pos e,e]
      · rw [if_neg e,if_neg (by simp)]
    | some b =>
      show (es.set b i).getD p 0 = _
      rw [getD_set _ _ _ _ hp]
      by_cases e : p = i
      · rw [if_pos e,if_neg (by rw [e]; exact hb b hB),e]
      · rw [if_neg e]
        by_cases e2 : b = p
        · rw [if_pos e2,if_pos (by rw [e2])]
        · rw [if_neg e2,if_neg (by intro z; exact e2 (Option.some.inj z))]
  | some q =>
    cases hB : B.head? with
    | none =>
      show (es.set i q).getD p 0 = _
      rw [getD_set _ _ _ _ hp]
      by_cases e : p = i
      · rw [if_pos e,if_pos e.symm]
      · rw [if_neg e,if_neg (fun z=>e z.symm),if_neg (by simp)]
    | some b =>
      show ((es.set b i).set i q).getD p 0 = _
      rw [getD_set _ _ _ _ (by simpa using hp),getD_set _ _ _ _ hp]
      by_cases e : p = i
      · rw [if_pos e,if_pos e.symm]
      · rw [if_neg e,if_neg (fun z=>e z.symm)]
        by_cases e2 : b = p
        · rw [if_pos e2,if_pos (by rw [e2])]
        · rw [if_neg e2,if_neg (by intro z; exact e2 (Option.some.inj z))]
theorem pw_len : ∀ (l : List Nat) (i lo : Nat),l.Pairwise (· < ·)→(∀ q ∈ l,lo≤q∧q < i)→l.length + lo≤i∨l = []
  | [],_,_,_,_=>.inr rfl
  | q :: r,i,lo,h,hq=>by
    have h1:=hq q (by simp)
    have hr:=List.pairwise_cons.mp h
    rcases pw_len r i (q + 1) hr.2 (fun x hx=>⟨hr.1 x hx,(hq x (by simp [hx])).2⟩) with z | z
    · left; simp; omega
    · left; rw [z]; simp; omega
theorem natsV_len (l : List Nat) : (natsV l).length = l.length:=by simp [natsV]
theorem natsV_app (a b : List Nat) : natsV (a ++ b) = natsV a ++ natsV b:=by simp [natsV]
theorem natsV_at {l : List Nat} {j q : Nat} (h : l[j]? = some q) : atI (natsV l) (j : Int) = some (V.int (q : Nat)):=by
  have hj:=(List.getElem?_eq_some_iff.mp h).1
  have e:=(List.getElem?_eq_some_iff.mp h).2
  rw [atI_at rfl (by rw [natsV_len]; exact hj)]
  simp [natsV,e]
theorem ixN_nat {n j : Nat} (h : j < n) : ixN n (j : Int) = some j:=by
  unfold ixN
  rw [if_pos (by omega),if_pos (by omega)]; simp
end L2
set_option Elab.async false
set_option linter.all false
set_option maxRecDepth 100000
set_option maxHeartbeats 1000000
namespace L2
open PySem PySem.Spec PyProof.Rows PySem.W
section
variable {X : Cx}
def tRngV2 (ta : TA) : TE:=fun σ H Q=>ta σ H fun vs H1=>∃ i j : Int,vs = [.int i,.int j]∧-(2 ^ 62)≤i∧i < 2 ^ 62∧-(2 ^ 62)≤j∧j < 2 ^ 62∧∀ p,H1 p = none→Q (.ref p) (upd H1 p (.rng i j))
def rLstR2 : List V→Hp→VK→Prop:=fun xs H Q=>∃ p i j,xs = [.ref p]∧H p = some (.rng i j)∧-(2 ^ 62)≤i∧i < 2 ^ 62∧-(2 ^ 62)≤j∧j < 2 ^ 62∧j - i≤1000∧∀ l,H l = none→Q (.ref l) (upd H l (.lst ((List.range (j - i).toNat).map fun (k : Nat)=>V.int (i + (k : Int)))))
end
end L2
set_option Elab.async false
set_option linter.all false
set_option maxRecDepth 100000
set_option maxHeartbeats 1000000
namespace L2
open PySem PySem.Spec PyProof.Rows PySem.W
def wayI (T : List Int) (p : Nat) : List Int:=(wayF T T.length (nth T p)).map fun q=>((q : Nat) : Int)
def GoodT (T : List Int) : Prop:=T.length≤40∧∃ ns,TreeIs ns T
theorem wayF_len (T : List Int) : ∀ k a,(wayF T k a).length≤k
  | 0,_=>by simp [wayF]
  | k + 1,a=>by
    rw [wayF]
    split
    · have:=wayF_len T k (nth T a.toNat); simp; omega
    · simp
def wayAt (T : List Int) : Nat→Int→Int
  | 0,a=>a
  | j + 1,a=>if 0≤a∧a < T.length then wayAt T j (nth T a.toNat) else a
theorem wayF_snoc (T : List Int) : ∀ j a,0≤wayAt T j a→wayAt T j a < T.length→(wayF T j a).length = j→wayF T (j + 1) a = wayF T j a ++ [(wayAt T j a).toNat]∧wayAt T (j + 1) a = nth T (wayAt T j a).toNat
  | 0,a,h0,h1,_=>by
    have h0' : 0≤a:=h0
    have h1' : a < T.length:=h1
    constructor
    · simp [wayF,wayAt,h0',h1']
    · simp [wayAt,h0',h1']
  | j + 1,a,h0,h1,hl=>by
    rw [wayF] at hl
    by_cases z : 0≤a∧a < T.length
    · rw [if_pos z] at hl
      have e1 : wayAt T (j + 1) a = wayAt T j (nth T a.toNat):=by rw [wayAt,if_pos z]
      rw [e1] at h0 h1
      have ih:=wayF_snoc T j (nth T a.toNat) h0 h1 (by simpa using hl)
      constructor
      · rw [wayF,if_pos z,ih.1,wayF.eq_def T (j + 1) a]
        simp only [if_pos z,e1]; simp
      · rw [wayAt,if_pos z,ih.2,e1]
    · rw [if_neg z] at hl; simp at hl
theorem wayF_stop (T : List Int) : ∀ j k a,j≤k→(wayF T j a).length = j→¬ (0≤wayAt T j a∧wayAt T j a < T.length)→wayF T k a = wayF T j a
  | 0,k,a,_,_,h=>by
    have h' : ¬ (0≤a∧a < T.length):=h
    cases k with
    | zero=>rfl
    | succ k=>rw [show wayF T 0 a = [] from rfl,wayF,if_neg h']
  | j + 1,k,a,hk,hl,h=>by
    rw [wayF] at hl
    by_cases z : 0≤a∧a < T.length
    · rw [if_pos z] at hl
      rw [wayAt,if_pos z] at h
      obtain ⟨k',rfl⟩ : ∃ k',k = k' + 1:=⟨k - 1,by omega⟩
      rw [wayF,if_pos z,wayF_stop T j k' _ (by omega) (by simpa using hl) h,wayF,if_pos z]
    · rw [if_neg z] at hl; simp at hl
section
variable {X : Cx}
theorem op_inK {K : Frag} (hK : X.K = K) : OpR X (compareOp .In) (rIn K false):=hK ▸ op_in_seq
end
theorem flat_ints (xs : List Int) : (xs.map V.int).all flatV = true:=by
  induction xs with
  | nil=>rfl
  | cons x r ih=>rw [List.map_cons,List.all_cons,ih]; rfl
theorem in_ints (x : Int) (xs : List Int) : inV (.int x) (xs.map V.int) = decide (x ∈ xs):=by
  induction xs with
  | nil=>rfl
  | cons y r ih =>
    have : inV (.int x) ((y :: r).map V.int) = (decide (y = x) || inV (.int x) (r.map V.int)):=rfl
    rw [this,ih]
    by_cases z : y = x
    · simp [z]
    · have : ¬ x = y:=fun h=>z h.symm
      simp [z,this]
end L2
set_option Elab.async false
set_option linter.all false
set_option maxRecDepth 100000
set_option maxHeartbeats 1000000
namespace L2
open PySem PySem.Spec PyProof.Rows PySem.W
section
variable {prog : Program} {w : World} {A : Around} {E : Value→Shared→Prop} {s : Shared}
end
section
variable {X : Cx}
def gSubSl (to tl tu : TE) : TG:=fun v σ H Q=>to σ H fun x H1=>tl σ H1 fun y H2=>tu σ H2 fun z H3=>∃ (l b : Addr) (xs ys : List V) (a c : Int),x = .ref l∧v = .ref b∧y = .int a∧z = .int c∧H3 l = some (.lst xs)∧H3 b = some (.lst ys)∧l≠b∧0≤a∧a≤c∧a≤xs.length∧xs.length + ys.length≤sizeLine∧Q σ (upd H3 l (.lst (xs.take a.toNat ++ ys ++ xs.drop c.toNat)))
end
end L2
set_option Elab.async false
set_option linter.all false
set_option maxRecDepth 100000
set_option maxHeartbeats 1000000
namespace L2
open PySem PySem.Spec PyProof.Rows PySem.W
theorem seqR {a b : TS} {D : Ends} {σ : St} {H : Hp} (Mid : St→Hp→Prop) (h1 : ∀ R : St→Hp→Prop,(∀ σ' H',Mid σ' H'→R σ' H')→a { D with nx:=R } σ H) (h2 : ∀ σ' H',Mid σ' H'→b D σ' H') : tSeq a b D σ H:=h1 _ h2
theorem cut_to (xs : List V) (j : Nat) : cutV xs none (some (j : Int)) = xs.take j:=by
  have h : ¬ ((j : Int) < 0):=by omega
  unfold cutV HT.sIx
  simp only [if_neg h,List.drop_zero,Nat.sub_zero]
  rw [List.take_eq_take_iff]
  omega
theorem ty_bb {K : Frag} {H : Hp} {b : Bool} : tyIs K H (.bl b) (.type "bool") true:=.inl ⟨_,.bl b,by with_unfolding_all rfl⟩
theorem cut_fromN (xs : List V) (j : Nat) : cutV xs (some (j : Int)) none = xs.drop j:=by
  have h : ¬ ((j : Int) < 0):=by omega
  unfold cutV HT.sIx
  simp only [if_neg h,Int.toNat_natCast]
  by_cases z : j≤xs.length
  · rw [Nat.min_eq_left z]
    exact List.take_of_length_le (by rw [List.length_drop]; omega)
  · rw [Nat.min_eq_right (by omega),Nat.sub_self,List.take_zero,List.drop_eq_nil_of_le (show xs.length≤j by omega)]
end L2
set_option Elab.async false
set_option linter.all false
set_option maxRecDepth 100000
set_option maxHeartbeats 1000000
namespace L2
open PySem PySem.Spec PyProof.Rows
structure CellsOf (cl : List (Str × Addr)) (n0 : Nat) (cs : List (Str × Addr)) (h0 h : Heap) (done : List (Str × NameKind)) : Prop where
  old : ∀ b o,h0.get? b = some o→h.get? b = some o
  sz : n0≤h.objs.size
  mem : ∀ p ∈ cs,p ∈ cl∨(n0≤p.2∧p.2 < h.objs.size∧h.IsCell p.2 none)
  inj : ∀ p ∈ cs,∀ q ∈ cs,n0≤p.2→p.2 = q.2→p.1 = q.1
  own : ∀ y ∈ done,y.2 = .cell→∃ c,cs.lookup y.1 = some c∧n0≤c
  oth : ∀ x,(∀ y ∈ done,y.2 = .cell→y.1≠x)→cs.lookup x = cl.lookup x
theorem cells_run {M : Model} {A : Around} {E : Value→Shared→Prop} {cl : List (Str × Addr)} {n0 : Nat} {h0 : Heap} (hcl : ∀ p ∈ cl,p.2 < n0) : ∀ (names : List (Str × NameKind)) (cs : List (Str × Addr)) (done : List (Str × NameKind)) (s : Shared),CellsOf cl n0 cs h0 s.heap done →
    wpAny M A (forIn names cs fun (x : Str × NameKind) (r : List (Str × Addr))=>(match x with
      | (name,kind)=>if (kind == NameKind.cell) = true then do
          let a ← alloc { cls:=.type "cell",data:=.cell none }
          pure (ForInStep.yield ((name,a) :: r))
        else pure (ForInStep.yield r) : Sem (ForInStep (List (Str × Addr))))) (fun cs' s'=>∃ h',s' = { s with heap:=h' }∧CellsOf cl n0 cs' h0 h' (done ++ names)) E s
  | [],cs,done,s,I=>by
    rw [List.forIn_nil,List.append_nil]
    exact wpAny_pure ⟨s.heap,rfl,I⟩
  | (n,k) :: r,cs,done,s,I=>by
    rw [List.forIn_cons]
    by_cases hk : k = .cell
    · subst hk
      simp only [beq_self_eq_true,if_true]
      refine wpAny_bind (wpAny_bind (wpAny_alloc (wpAny_pure ?_)))
      have hget : (s.heap.push { cls:=.type "cell",data:=.cell none }).get? s.heap.objs.size = some { cls:=.type "cell",data:=.cell none }:=Heap.get?_push_size _ rfl
      have I' : CellsOf cl n0 ((n,s.heap.objs.size) :: cs) h0 (s.heap.push { cls:=.type "cell",data:=.cell none }) (done ++ [(n,.cell)]):=by
        refine ⟨fun b o e=>Heap.get?_push_of_some _ (I.old b o e),by rw [Heap.size_push]; exact Nat.le_succ_of_le I.sz,fun p hp=>?_,fun p hp q hq hn e=>?_,fun y hy hc=>?_,fun x hx=>?_⟩
        · rcases List.mem_cons.mp hp with z | z
          · subst z
            exact .inr ⟨I.sz,by rw [Heap.size_push]; exact Nat.lt_succ_self _,_,hget,rfl⟩
          · rcases I.mem p z with w | ⟨w1,w2,o,w3,w4⟩
            · exact .inl w
            · exact .inr ⟨w1,by rw [Heap.size_push]; exact Nat.lt_succ_of_lt w2,o,Heap.get?_push_of_some _ w3,w4⟩
        · have lt : ∀ p ∈ cs,p.2 < s.heap.objs.size:=fun p hp=>by
            rcases I.mem p hp with w | w
            · exact Nat.lt_of_lt_of_le (hcl p w) I.sz
            · exact w.2.1
          rcases List.mem_cons.mp hp with z | z <;> rcases List.mem_cons.mp hq with z' | z'
          · rw [z,z']
          · subst z; exact absurd (show s.heap.objs.size < s.heap.objs.size from (show s.heap.objs.size = q.2 from e) ▸ lt q z') (Nat.lt_irrefl _)
          · subst z'; exact absurd (show s.heap.objs.size < s.heap.objs.size from (show p.2 = s.heap.objs.size from e) ▸ lt p z) (Nat.lt_irrefl _)
          · exact I.inj p z q z' hn e
        · rcases List.mem_append.mp hy with z | z
          · obtain ⟨c,e1,e2⟩:=I.own y z hc
            by_cases hx : y.1 = n
            · exact ⟨s.heap.objs.size,by rw [hx]; simp,I.sz⟩
            · have hb : (y.1 == n) = false:=by simpa using hx
              exact ⟨c,by simp only [List.lookup_cons,hb]; exact e1,e2⟩
          · have : y = (n,.cell):=by simpa using z
            subst this
            exact ⟨s.heap.objs.size,by simp,I.sz⟩
        · have hxn : n≠x:=hx (n,.cell) (by simp) rfl
          have hb : (x == n) = false:=by simpa using hxn.symm
          simp only [List.lookup_cons,hb]
          exact I.oth x fun y hy=>hx y (List.mem_append_left _ hy)
      refine thn (cells_run hcl r _ _ { s with heap:=s.heap.push { cls:=.type "cell",data:=.cell none } } I') fun cs' s' ⟨h',e1,e2⟩=>⟨h',e1,?_⟩
      rw [List.append_assoc] at e2
      exact e2
    · have e1 : (k == NameKind.cell) = false:=by cases k <;> first | rfl | exact absurd rfl hk
      simp only [e1,Bool.false_eq_true,if_false]
      refine wpAny_bind (wpAny_pure ?_)
      have I' : CellsOf cl n0 cs h0 s.heap (done ++ [(n,k)]):=by
        refine ⟨I.old,I.sz,I.mem,I.inj,fun y hy hc=>?_,fun x hx=>I.oth x fun y hy=>hx y (List.mem_append_left _ hy)⟩
        rcases List.mem_append.mp hy with z | z
        · exact I.own y z hc
        · have : y = (n,k):=by simpa using z
          subst this
          exact absurd hc hk
      refine thn (cells_run hcl r _ _ s I') fun cs' s' ⟨h',e1,e2⟩=>⟨h',e1,?_⟩
      rw [List.append_assoc] at e2
      exact e2
theorem newEnv_own {M : Model} {A : Around} {E : Value→Shared→Prop} {s : Shared} {scope : Scope} {globals : Addr} {cl : List (Str × Addr)} {qual : Str} {around : Env} {Q : Env→Shared→Prop} (hcl : ∀ p ∈ cl,p.2 < s.heap.objs.size)
    (h : ∀ cs h',CellsOf cl (s.heap.objs.size + 1) cs (s.heap.push { cls:=.type "dict",data:=.dict #[] }) h' scope.names→Q { scope:=scope,locals:=s.heap.objs.size,globals:=globals,cells:=cs,qual:=qual,func:=none,code:=around.code,frame:=around.frame,builtins:=around.builtins } { s with heap:=h' }) :
    wpAny M A (newFunctionEnv scope globals cl [] qual none .none (some around)) Q E s:=by
  unfold newFunctionEnv
  refine wpAny_bind (wpAny_alloc ?_)
  refine wpAny_bind (thn (cells_run (cl:=cl) (n0:=s.heap.objs.size + 1) (h0:=s.heap.push { cls:=.type "dict",data:=.dict #[] }) (fun p hp=>Nat.lt_succ_of_lt (hcl p hp)) scope.names cl [] { s with heap:=s.heap.push { cls:=.type "dict",data:=.dict #[] } } ⟨fun b o e=>e,by rw [Heap.size_push]; exact Nat.le_refl _,fun p hp=>.inl hp,fun p hp q hq hn e=>absurd (hcl p hp) (Nat.not_lt_of_le (Nat.le_of_succ_le hn)),fun y hy=>(nomatch hy),fun x hx=>rfl⟩) fun cs s' ⟨h',e1,e2⟩=>?_)
  subst e1
  rw [List.nil_append] at e2
  exact wpAny_bind (wpAny_pure (wpAny_pure (h cs h' e2)))
def compOkN (around scope : Scope) : Bool :=
  scope.kind == .function && around.kind == .function && scope.names.all fun y=>match y.2 with
    | .local=>scope.names.lookup y.1 == some .local
    | .cell=>scope.names.lookup y.1 == some .cell
    | .free=>(scope.names.lookup y.1 == some .free) && (around.names.lookup y.1 == some .cell || around.names.lookup y.1 == some .free)
    | _=>true
theorem compOkN_kind {a s : Scope} (h : compOkN a s = true) : s.kind = .function:=by
  simp only [compOkN,Bool.and_eq_true,beq_iff_eq] at h; exact h.1.1
theorem compOkN_at {a s : Scope} (h : compOkN a s = true) {y : Str × NameKind} (hy : y ∈ s.names) : (match y.2 with
    | .local=>s.names.lookup y.1 == some .local
    | .cell=>s.names.lookup y.1 == some .cell
    | .free=>(s.names.lookup y.1 == some .free) && (a.names.lookup y.1 == some .cell || a.names.lookup y.1 == some .free)
    | _=>true) = true:=by
  simp only [compOkN,Bool.and_eq_true] at h
  exact List.all_eq_true.mp h.2 y hy
theorem compOkN_local {a s : Scope} (h : compOkN a s = true) : ∀ y ∈ s.names,y.2 = .local→s.names.lookup y.1 = some .local:=fun y hy e=>by
  have q:=compOkN_at h hy
  rw [e] at q
  exact beq_iff_eq.mp q
theorem compOkN_cell {a s : Scope} (h : compOkN a s = true) : ∀ y ∈ s.names,y.2 = .cell→s.names.lookup y.1 = some .cell:=fun y hy e=>by
  have q:=compOkN_at h hy
  rw [e] at q
  exact beq_iff_eq.mp q
theorem compOkN_free {a s : Scope} (h : compOkN a s = true) : ∀ y ∈ s.names,y.2 = .free→s.names.lookup y.1 = some .free∧(a.names.lookup y.1 = some .cell∨a.names.lookup y.1 = some .free):=fun y hy e=>by
  have q:=compOkN_at h hy
  rw [e] at q
  simp only [Bool.and_eq_true,Bool.or_eq_true,beq_iff_eq] at q
  exact q
def compCxN (X : Cx) (Nc : List Str) (scope : Scope) (cs : List (Str × Addr)) (C : Addr) (s2 : Shared) (H2 : Hp) (fp : List Addr) : Cx :=
  { compCx X Nc scope cs C s2 H2 fp with fn:=fun x=>scope.names.lookup x == some .cell }
theorem closure_ofN {env : Env} {scope : Scope} (h : ∀ y ∈ scope.names,y.2 = .free→∃ c,env.cells.lookup y.1 = some c) :
    ∃ cl,closureFor scope env = pure cl∧(∀ p ∈ cl,env.cells.lookup p.1 = some p.2)∧(∀ y ∈ scope.names,y.2 = .free→∃ c,cl.lookup y.1 = some c∧env.cells.lookup y.1 = some c):=by
  obtain ⟨cl,e,h1,h2,h3⟩:=closure_in (env:=env) scope.names [] h
  have up : ∀ p ∈ cl,env.cells.lookup p.1 = some p.2:=fun p q=>by
    rcases h1 _ q with z | z
    · cases z
    · exact z
  refine ⟨cl,?_,up,fun y hy hf=>?_⟩
  · unfold closureFor
    simp only [bind_pure_comp] at e ⊢
    rw [e]
    exact pure_bind _ _
  · obtain ⟨c,hc⟩:=h3 y hy hf
    cases q : cl.lookup y.1 with
    | none=>exact absurd (List.lookup_eq_none_iff.mp q _ hc) (by simp)
    | some c'=>exact ⟨c',rfl,up _ (PySem.mem_of_lookup q)⟩
section
variable {X : Cx}
theorem comp_startN {pins : List (Addr × Obj)} {σ : St} {H2 : Hp} {s2 : Shared} {Nc : List Str} {js : List (Option Nat)} {scope : Scope} {cs : List (Str × Addr)} {fp : List Addr} {h1 : Heap} {tk : Nat} {D C : Addr} {oD : Obj} {m : Str→Option Value}
    (I : Inv X pins σ H2 s2) (hok : compOkN X.env.scope scope = true) (htk : takesC X.N Nc scope js 0 = true) (up : ∀ x c,cs.lookup x = some c→X.env.cells.lookup x = some c∨(C < c∧h1.IsCell c none)) (hinj : ∀ x y c,cs.lookup x = some c→cs.lookup y = some c→x = y) (hown : ∀ y ∈ scope.names,y.2 = .cell→∃ c,cs.lookup y.1 = some c∧C < c) (hfr : ∀ y ∈ scope.names,y.2 = .free→∃ c,cs.lookup y.1 = some c∧X.env.cells.lookup y.1 = some c)
    (hfp : ∀ b ∈ fp,FpOk X pins H2 b) (hfl : ∀ b ∈ fp,b < s2.heap.objs.size) (hD : D = s2.heap.objs.size) (hC : C = s2.heap.objs.size + 1) (old : ∀ b o,s2.heap.get? b = some o→h1.get? b = some o) (hns : h1.Ns C m) (hoD : h1.get? D = some oD) (hdD : ∀ v,oD.data≠.cell v) :
    Inv (compCxN X Nc scope cs C s2 H2 fp) [(D,oD)] (iniC js σ) H2 { s2 with heap:=h1,toks:=tk }:=by
  have leC : s2.heap.objs.size≤C:=by rw [hC]; exact Nat.le_succ _
  have leD : s2.heap.objs.size≤D:=Nat.le_of_eq hD.symm
  have kf : ∀ x,((compEnvC scope cs C X.env).kindOf x = some .cell∨(compEnvC scope cs C X.env).kindOf x = some .free)→∃ c,cs.lookup x = some c:=fun x hx=>by
    have : ∃ k,(compEnvC scope cs C X.env).kindOf x = some k∧(k = .cell∨k = .free):=hx.elim (fun q=>⟨_,q,.inl rfl⟩) fun q=>⟨_,q,.inr rfl⟩
    obtain ⟨k,e,hk⟩:=this
    obtain ⟨k',h1,h2⟩:=lookup_relabel_inv (show (scope.names.map _).lookup x = some k from e)
    have hm:=lookup_mem h1
    have : k' = .free∨k' = .cell:=by
      rcases h2 with q | q
      · subst q
        exact hk.symm
      · exact .inl q.1
    rcases this with z | z
    · subst z
      obtain ⟨c,q,_⟩:=hfr _ hm rfl
      exact ⟨c,q⟩
    · subst z
      obtain ⟨c,q,_⟩:=hown _ hm rfl
      exact ⟨c,q⟩
  have nC : ∀ c x,X.env.cells.lookup x = some c→c < s2.heap.objs.size:=fun c x e=>by
    obtain ⟨v,q⟩:=I.cell x c e
    exact q.lt
  have noB : ∀ b,b ∈ fp→b ∉ frs X.stack:=fun b hb q=>by
    rcases List.mem_cons.mp (I.stkSub b q) with z | z
    · exact (hfp b hb).2.1 z
    · exact (hfp b hb).2.2.1 z
  have okX : (compCxN X Nc scope cs C s2 H2 fp).Ok:=by
    refine ⟨I.ok.mod,(show scope.kind = .function from compOkN_kind hok),I.ok.glob,I.ok.blt,?_,fun x y c e1 e2=>hinj x y c e1 e2,fun x hx=>?_,(fun x c e1 e2=>?_),I.ok.hd,I.ok.frames,.inl rfl,fun b hb=>⟨?_,fun x c e=>(up _ _ e).elim (fun z=>(hfp b hb).2.2.2.2.1 x c z) fun z=>Nat.ne_of_gt (Nat.lt_trans (Nat.lt_of_lt_of_le (hfl b hb) leC) z.1)⟩,I.bs,Nat.le_trans I.ok.bsz I.sz,fun b o e hb=>?_,fun b hb=>noB b hb,I.stack,I.stkFree⟩
    · show s2.heap.objs.size≤C; exact leC
    · exact kf x hx
    · have hm:=lookup_mem (beq_iff_eq.mp (show (scope.names.lookup x == some NameKind.cell) = true from e1))
      obtain ⟨c',q1,q2⟩:=hown _ hm rfl
      have : c = c':=Option.some.inj ((show cs.lookup x = some c from e2).symm.trans q1)
      rw [this]
      exact Nat.le_trans leC (Nat.le_of_lt q2)
    · exact Nat.ne_of_lt (Nat.lt_of_lt_of_le (hfl b hb) leC)
    · rcases (hfp b hb).2.2.2.1 with q | q
      · exact I.ok.noex b o e q
      · exact absurd (Nat.lt_of_lt_of_le (Heap.lt_size e) (Nat.le_trans I.ok.bsz q)) (Nat.lt_irrefl _)
  refine ⟨okX,rfl,I.bare,Un.kept old,⟨m,hns,fun i x v e1 e2 e3=>?_⟩,fun x c e=>?_,I.hok.fresh leC,fun x c e=>(up _ _ e).elim (fun z=>I.freeC x c z) fun z=>I.hok.fresh (Nat.le_trans leC (Nat.le_of_lt z.1)),fun p hp=>?_,I.hok.kept old,?_⟩
  · have e2' : (iniC js σ)[i]? = some (some v):=e2
    unfold iniC at e2'
    rw [List.getElem?_map] at e2'
    cases q : js[i]? with
    | none=>rw [q] at e2'; cases e2'
    | some j0 =>
      cases j0 with
      | none=>rw [q] at e2'; cases e2'
      | some j =>
        rw [q] at e2'
        simp only [Option.map_some,Option.some.injEq] at e2'
        have e4 : σ[j]? = some (some v):=by
          cases z : σ[j]? with
          | none=>rw [z] at e2'; cases e2'
          | some o=>rw [z] at e2'; simp only [Option.join_some] at e2'; rw [e2']
        obtain ⟨y,y1,y2,y3⟩:=takesC_at htk q
        rw [Nat.zero_add] at y1
        have : x = y:=Option.some.inj ((show Nc[i]? = some x from e1).symm.trans y1)
        subst this
        have hm:=lookup_mem y3
        obtain ⟨c,c1,c2⟩:=hfr _ hm rfl
        have hk:=(compOkN_free hok _ hm rfl).2
        obtain ⟨m0,hn0,hl0⟩:=I.loc
        obtain ⟨u,r,l⟩:=hl0 j x v y2 e4 (hk.elim (fun z=>.inr (.inl z)) fun z=>.inr (.inr z))
        refine ⟨u,r,.inr ⟨?_,c,c1,?_⟩⟩
        · rcases e3 with z | z | z
          · obtain ⟨k',w1,w2⟩:=lookup_relabel_inv (show (scope.names.map _).lookup x = some NameKind.local from z)
            rw [y3] at w1; cases w1
            rcases w2 with w | w
            · cases w
            · cases w.2
          · exact .inl z
          · exact .inr z
        · rcases l with ⟨lk,_⟩ | ⟨_,c',c3,c4⟩
          · rcases hk with z | z
            · rw [show X.env.kindOf x = some .cell from z] at lk; cases lk
            · rw [show X.env.kindOf x = some .free from z] at lk; cases lk
          · rw [c2] at c3; cases c3
            obtain ⟨oc,w1,w2⟩:=c4
            exact ⟨oc,old _ _ w1,w2⟩
  · rcases up _ _ e with z | z
    · obtain ⟨v,oc,w1,w2⟩:=I.cell x c z
      exact ⟨v,oc,old _ _ w1,w2⟩
    · exact ⟨_,z.2⟩
  · have : p = (D,oD):=by
      have hp' : p ∈ ([] ++ [(D,oD)] : List (Addr × Obj)):=hp
      simpa using hp'
    subst this
    refine ⟨hoD,I.hok.fresh leD,(by show D≠C; rw [hD,hC]; exact Nat.ne_of_lt (Nat.lt_succ_self _)),fun hb=>?_,hdD⟩
    have hb' : D ∈ frs X.stack:=hb
    obtain ⟨_,o,ho,_⟩:=I.stack.mem hb'
    exact absurd (Nat.lt_of_lt_of_le (Heap.lt_size ho) leD) (Nat.lt_irrefl _)
  · have:=takesC_len htk
    show (iniC js σ).length = Nc.length
    unfold iniC; rw [List.length_map]; omega
theorem comp_runN {pins : List (Addr × Obj)} {σ : St} {H : Hp} {s : Shared} {tg elt iter : Expr} {ifs : List Expr} {scope : Scope} {pos : Pos} {wi : TI} {g : TG} {tt : TT} {te : TE} {Nc : List Str} {js : List (Option Nat)} {use : Option (Value→Sem Unit)} {Q : VK} {QQ : Value→Shared→Prop}
    (hc : X.calm = true) (hok : compOkN X.env.scope scope = true) (htk : takesC X.N Nc scope js 0 = true) (hi : PI X tg iter wi)
    (hg : ∀ cl C s2 H2 fp,PG (compCxN X Nc scope cl C s2 H2 fp) tg g) (ht : ∀ cl C s2 H2 fp,PIfs (compCxN X Nc scope cl C s2 H2 fp) ifs tt) (he : ∀ cl C s2 H2 fp,PE (compCxN X Nc scope cl C s2 H2 fp) elt te)
    (hs : ∀ x,foldedSetIterable iter X.env x = pure x) {L : List Nat} (ho : OnlyG g L) (hL : (L.all fun k=>js[k]? == some none) = true) (I : Inv X pins σ H s) (h : tComp wi g tt te js σ H Q)
    (fin : ∀ (D C : Addr) (H' H2 : Hp) (s2 s' : Shared) (xs : List V) (m : Str→Option Value),Inv X pins σ H2 s2→H' C = none→C = D + 1→D = s2.heap.objs.size→s'.heap.Ns C m→(∀ h',Heap.SameBut C s'.heap h'→Inv X pins σ (upd H' D (.lst xs)) { s' with heap:=h' })→Q (.ref D) (upd H' D (.lst xs)) →
      compPost (model X.prog X.w) X.A X.xe use QQ (.ref D) C (.ok .next) s') :
    wpAny (model X.prog X.w) X.A (comprehension (.ListComp elt [⟨tg,iter,ifs,0⟩] scope pos) scope X.env (firstIterPos [⟨tg,iter,ifs,0⟩] pos) (newList []) false (eval iter X.env) use) QQ X.xe s:=by
  have hcells : ∀ y ∈ scope.names,y.2 = .free→∃ c,X.env.cells.lookup y.1 = some c:=fun y hy hf=>I.ok.has y.1 (compOkN_free hok y hy hf).2
  obtain ⟨cl,hcl,upM,hfr0⟩:=closure_ofN hcells
  have hk:=compOkN_kind hok
  refine wpAny_comprehension_free (use:=use) rfl hs hcl hk (compOkN_local hok) (thn (hi pins s σ H _ I h) fun v s1 h1=>thn h1 fun itv s2 h2=>?_)
  obtain ⟨it,fp,tn,J,H2,e,I2,T,st2,f2,W,⟨m0,w0⟩,turn⟩:=h2
  subst e
  have clt : ∀ p ∈ cl,p.2 < s2.heap.objs.size:=fun p hp=>by
    obtain ⟨v,q⟩:=I2.cell p.1 p.2 (upM p hp)
    exact q.lt
  refine wpAny_newObj_type (newEnv_own (fun p hp=>?_) fun cs h₁ CO=>?_)
  · show p.2 < (s2.heap.push _).objs.size
    rw [Heap.size_push]; exact Nat.lt_succ_of_lt (clt p hp)
  dsimp only at CO ⊢
  generalize hH2 : s2.heap.push { cls:=.type "list",dict:=none,data:=.seq ([] : List Value).toArray } = HH at CO ⊢
  have hC : HH.objs.size = s2.heap.objs.size + 1:=by rw [← hH2,Heap.size_push]
  have hcl' : ∀ p ∈ cl,p.2 < HH.objs.size:=fun p hp=>by rw [hC]; exact Nat.lt_succ_of_lt (clt p hp)
  have hns₁ : h₁.Ns HH.objs.size (fun _=>none):=⟨_,#[],_,CO.old _ _ (Heap.get?_push_size _ rfl),rfl,fun e he=>absurd he (by simp),fun n=>rfl⟩
  have up : ∀ x c,cs.lookup x = some c→X.env.cells.lookup x = some c∨(HH.objs.size < c∧h₁.IsCell c none):=fun x c e=>by
    rcases CO.mem _ (PySem.mem_of_lookup e) with z | z
    · exact .inl (upM _ z)
    · exact .inr ⟨z.1,z.2.2⟩
  have hinj : ∀ x y c,cs.lookup x = some c→cs.lookup y = some c→x = y:=fun x y c e1 e2=>by
    have m1:=PySem.mem_of_lookup e1
    have m2:=PySem.mem_of_lookup e2
    rcases CO.mem _ m1 with z | z
    · rcases CO.mem _ m2 with z' | z'
      · exact I2.ok.inj x y c (upM _ z) (upM _ z')
      · exact absurd (hcl' _ z) (Nat.not_lt_of_le (Nat.le_of_succ_le z'.1))
    · exact CO.inj _ m1 _ m2 z.1 rfl
  have hfr : ∀ y ∈ scope.names,y.2 = .free→∃ c,cs.lookup y.1 = some c∧X.env.cells.lookup y.1 = some c:=fun y hy hf=>by
    obtain ⟨c,q1,q2⟩:=hfr0 y hy hf
    refine ⟨c,?_,q2⟩
    rw [CO.oth y.1 fun y' hy' hc' z=>?_]
    · exact q1
    · have w1:=compOkN_cell hok y' hy' hc'
      have w2:=(compOkN_free hok y hy hf).1
      rw [z,w2] at w1; cases w1
  have hfl : ∀ b ∈ fp,b < s2.heap.objs.size:=fun b hb=>by
    obtain ⟨o,ho,_⟩:=T.obj 0 _ st2 b hb
    exact Heap.lt_size ho
  have hDC : s2.heap.objs.size≠HH.objs.size:=by rw [hC]; exact Nat.ne_of_lt (Nat.lt_succ_self _)
  have old : ∀ b o,s2.heap.get? b = some o→h₁.get? b = some o:=fun b o e=>CO.old b o (Heap.get?_push_of_some _ (hH2 ▸ Heap.get?_push_of_some _ e))
  have hacc : h₁.get? s2.heap.objs.size = some { cls:=.type "list",dict:=none,data:=.seq ([] : List Value).toArray }:=CO.old _ _ (Heap.get?_push_of_some _ (hH2 ▸ Heap.get?_push_size _ rfl))
  have I4:=comp_startN (Nc:=Nc) (js:=js) (tk:=s2.toks) I2 hok htk up hinj (fun y hy hc=>CO.own y hy hc) hfr f2 hfl rfl hC old hns₁ hacc (by intro v z; cases z)
  have st4 : tn 0 h₁:=T.keep _ _ _ st2 fun b _ o e=>old b o e
  generalize hXc : compCxN X Nc scope cs HH.objs.size s2 H2 fp = Xc at I4
  have hXA : Xc.A = X.A:=by rw [← hXc]; rfl
  have hXe : Xc.env = compEnvC scope cs HH.objs.size X.env:=by rw [← hXc]; rfl
  have hXp : Xc.prog = X.prog:=by rw [← hXc]; rfl
  have hXw : Xc.w = X.w:=by rw [← hXc]; rfl
  have hXx : Xc.xe = fun _ _=>False:=by rw [← hXc]; rfl
  have hXk : Xc.K = X.K:=by rw [← hXc]; rfl
  have hXcalm : Xc.calm = true:=by rw [← hXc]; exact hc
  have fpok : ∀ {pl : List (Addr × Obj)} {H' : Hp},(∀ p ∈ pl,s2.heap.objs.size≤p.1)→(∀ b ∈ fp,H' b = none)→∀ b ∈ fp,FpOk Xc pl H' b:=fun {pl H'} hpl hn b hb=>by
    have k1 : b≠HH.objs.size:=Nat.ne_of_lt (by rw [hC]; exact Nat.lt_succ_of_lt (hfl b hb))
    have k2 : b ∉ frs X.stack:=fun q=>by
      rcases List.mem_cons.mp (I2.stkSub b q) with z | z
      · exact (f2 b hb).2.1 z
      · exact (f2 b hb).2.2.1 z
    rw [← hXc]
    refine ⟨hn b hb,k1,k2,.inl hb,fun x c e=>(up _ _ e).elim (fun z=>(f2 b hb).2.2.2.2.1 x c z) fun z=>Nat.ne_of_gt (Nat.lt_trans (by rw [hC]; exact Nat.lt_succ_of_lt (hfl b hb)) z.1),fun p hp=>?_⟩
    have hp' : p ∈ pl:=by simpa [compCxN,compCx] using hp
    exact Nat.ne_of_gt (Nat.lt_of_lt_of_le (hfl b hb) (hpl p hp'))
  have gX : PG Xc tg g:=hXc ▸ hg cs HH.objs.size s2 H2 fp
  have tX : PIfs Xc ifs tt:=hXc ▸ ht cs HH.objs.size s2 H2 fp
  have eX : PE Xc elt te:=hXc ▸ he cs HH.objs.size s2 H2 fp
  have hs0 : Xc.s₀ = s2:=by rw [← hXc]; rfl
  have hh0 : Xc.H₀ = H2:=by rw [← hXc]; rfl
  have hfs : Xc.fs = frs X.stack:=by rw [← hXc]; rfl
  have hex : Xc.ex = fp:=by rw [← hXc]; rfl
  have loop : codeAny (model X.prog X.w) X.A (.compLoop (.ListComp elt [⟨tg,iter,ifs,0⟩] scope pos) 0 (.ref it) (.ref s2.heap.objs.size) (compEnvC scope cs HH.objs.size X.env)) (compPost (model X.prog X.w) X.A X.xe use QQ (.ref s2.heap.objs.size) HH.objs.size)
      { s2 with heap:=h₁,toks:=s2.toks }:=by
    refine codeAny_compLoop_all (fun n s'=>∃ i acc its nn H',Inv Xc [(s2.heap.objs.size,{ cls:=.type "list",dict:=none,data:=.seq (its : List Value).toArray nn })] (iniC js σ) H' s'∧Vals acc its∧acc.length≤sizeLine∧tn i s'.heap∧(∀ b ∈ fp,H' b = none)∧W i n acc H') ?_ m0
      ⟨0,[],[],0,H2,I4,.nil,Nat.zero_le _,st4,fun b hb=>(f2 b hb).1,w0⟩
    rintro n s3 ⟨i,acc,its,nn,H3,I3,va,hlen,st3,fr3,w3⟩
    have pg : ∀ p ∈ ([(s2.heap.objs.size,{ cls:=.type "list",dict:=none,data:=.seq its.toArray nn })] : List (Addr × Obj)),s2.heap.objs.size≤p.1:=fun p hp=>by
      simp only [List.mem_cons,List.not_mem_nil,or_false] at hp
      subst hp; exact Nat.le_refl _
    rcases turn i n acc H3 w3 with ⟨stop,hl,qn⟩ | ⟨go,hl,step⟩
    · have q:=T.done Xc hXp hXw hXk hXcalm i _ s3 (iniC js σ) H3 (fun _ _=>False) I3 (fpok pg fr3) st3 stop
      rw [hXA] at q
      refine thn q fun r s4 ⟨hr,I5⟩=>?_
      subst hr
      have hpin:=I5.pin _ (List.mem_append_right _ (.head _))
      obtain ⟨m5,hn5,_⟩:=I5.loc
      rw [hXe] at hn5
      refine fin _ _ H3 H2 s2 s4 acc m5 I2 (by have:=I5.free; rw [hXe] at this; exact this) hC rfl hn5 (fun h' hsb=>?_) (qn _ hpin.2.1)
      have same : ∀ b o,b≠HH.objs.size→s4.heap.get? b = some o→h'.get? b = some o:=fun b o hb e=>hsb.extBut b o hb e
      have un:=I5.base
      rw [hfs,hex,hh0,hs0] at un
      have lt : ∀ b o,s2.heap.get? b = some o→b < s2.heap.objs.size:=fun b o e=>Heap.lt_size e
      have neC : ∀ b o,s2.heap.get? b = some o→b≠HH.objs.size:=fun b o e=>Nat.ne_of_lt (by rw [hC]; exact Nat.lt_succ_of_lt (lt b o e))
      have neD : ∀ b o,s2.heap.get? b = some o→b≠s2.heap.objs.size:=fun b o e=>Nat.ne_of_lt (lt b o e)
      have trkC : ∀ b o,H3 b = some o→b≠HH.objs.size:=fun b o e z=>by
        have:=I5.free; rw [hXe] at this; rw [z,show H3 HH.objs.size = none from this] at e; cases e
      refine I2.call' (s':={ s4 with heap:=h' }) (ch:=fp) (I5.os.trans (by rw [hs0])) ⟨fun b o e n hb hx=>same _ _ (neC b o e) (un.keep b o e n hb hx),fun b o e n hb hx=>?_,fun b o e n hx=>by rw [upd_ne (neD b o e)]; exact un.free b o e n hx,fun b o e hx=>?_,fun b xs e=>?_,fun b o u e=>?_,fun b ps e=>?_⟩ (fun a o e=>?_) I5.bare fun b hb=>⟨(f2 b hb).2.2.2.1,(f2 b hb).2.1,(f2 b hb).2.2.2.2.1,(f2 b hb).2.2.2.2.2⟩
      · obtain ⟨sl,z⟩:=un.slot b o e n hb hx
        exact ⟨sl,same _ _ (neC b o e) z⟩
      · obtain ⟨o',z⟩:=un.there b o e hx
        exact ⟨o',same _ _ (neC b o e) z⟩
      · rw [upd_ne (Nat.ne_of_lt (I2.hok.lt e))]; exact un.tups b xs e
      · rw [upd_ne (Nat.ne_of_lt (I2.hok.lt e))]; exact un.frzs b o u e
      · obtain ⟨more,z⟩:=un.tbls b ps e
        exact ⟨more,by rw [upd_ne (Nat.ne_of_lt (I2.hok.lt e))]; exact z⟩
      · by_cases ha : a = s2.heap.objs.size
        · subst ha
          rw [upd_same] at e; cases e
          exact ⟨hl,its,nn,va,same _ _ hDC hpin.1⟩
        · rw [upd_ne ha] at e
          have q:=I5.hok a o e
          rw [hXp,hXw] at q
          refine q.stay (fun b u hb z=>same b u ?_ z) (fun b z=>by rw [upd_ne]; exact z; intro y; subst y; rw [hpin.2.1] at z; cases z) (fun b xs z=>by rw [upd_ne]; exact z; intro y; subst y; rw [hpin.2.1] at z; cases z) fun b o u z=>by rw [upd_ne]; exact z; intro y; subst y; rw [hpin.2.1] at z; cases z
          rcases hb with hb | hb
          · subst hb; exact trkC _ _ e
          · exact trkC _ _ hb
    · have q:=T.item Xc hXp hXw hXk hXcalm i _ s3 (iniC js σ) H3 (fun _ _=>False) I3 (fpok pg fr3) st3 go
      rw [hXA] at q
      refine thn q fun r s4 ⟨u,hr,h4⟩=>?_
      subst hr
      refine thn h4 fun _ s5 ⟨x,H5,I5,r5,y5,st5,fr5⟩=>?_
      have I5':=I5.pinned (fpok pg fr5) (T.obj _ _ st5)
      have again : ∀ {σ7 : St} {H7 : Hp} {s7 : Shared} {acc7 : List V} {its7 : List Value} {n7 : Nat} {m : Nat},Inv Xc ([(s2.heap.objs.size,{ cls:=.type "list",dict:=none,data:=.seq its7.toArray n7 })] ++ pinsAt fp s5.heap) σ7 H7 s7→Vals acc7 its7→acc7.length≤sizeLine→W (i + 1) m acc7 H7→σ7.length = (iniC js σ).length→(∀ (k : Nat) v,(iniC js σ)[k]? = some (some v)→σ7[k]? = some (some v)) →
          ∃ i acc its nn H',Inv Xc [(s2.heap.objs.size,{ cls:=.type "list",dict:=none,data:=.seq (its : List Value).toArray nn })] (iniC js σ) H' s7∧Vals acc its∧acc.length≤sizeLine∧tn i s7.heap∧(∀ b ∈ fp,H' b = none)∧W i m acc H':=fun {σ7 H7 s7 acc7 its7 n7 m} I7 v7 l7 w7 hl7 hw7=>by
        refine ⟨i + 1,acc7,its7,n7,H7,(I7.weak hl7.symm hw7).unpinned,v7,l7,T.keep _ _ _ st5 fun b hb o e=>(I7.pin (b,o) (List.mem_append_right _ (List.mem_append_right _ (mem_pinsAt hb e)))).1,fun b hb=>?_,w7⟩
        obtain ⟨o,e,d⟩:=T.obj _ _ st5 b hb
        exact (I7.pin (b,o) (List.mem_append_right _ (List.mem_append_right _ (mem_pinsAt hb e)))).2.1
      have keep : ∀ {σ6 : St},KeepOn L (iniC js σ) σ6→σ6.length = (iniC js σ).length∧∀ (k : Nat) v,(iniC js σ)[k]? = some (some v)→σ6[k]? = some (some v):=fun {σ6} hk=>⟨hk.1,fun k v e=>by
        rw [hk.2 k]
        · exact e
        · intro z
          have q:=List.all_eq_true.mp hL k z
          simp only [beq_iff_eq] at q
          unfold iniC at e
          rw [List.getElem?_map,q] at e
          cases e⟩
      have q6:=gX _ s5 (iniC js σ) H5 x u _ I5' r5 (ho _ _ _ _ _ (fun σ' H' kk z=>And.intro kk z) (step x H5 y5))
      rw [hXe,hXA,hXp,hXw,hXx] at q6
      refine thn q6 fun _ s6 ⟨σ6,H6,I6,k6,q6⟩=>?_
      obtain ⟨kl,kv⟩:=keep k6
      have q7:=tX _ s6 σ6 H6 _ I6 q6
      rw [hXe,hXA,hXp,hXw,hXx] at q7
      refine thn q7 fun b s7 ⟨H7,I7,q7⟩=>?_
      cases b with
      | false =>
        obtain ⟨m',hm,w7⟩:=q7
        exact ⟨m',hm,again I7 va hlen w7 kl kv⟩
      | true =>
        have q8:=eX _ s7 σ6 H7 _ I7 q7
        rw [hXe,hXA,hXp,hXw,hXx] at q8
        refine thn q8 fun y s8 ⟨v8,H8,I8,r8,m',hm,w8⟩=>?_
        have pinD:=I8.pin _ (List.mem_append_right _ (List.mem_append_left _ (.head _)))
        have hnf : ∀ p ∈ pinsAt fp s5.heap,p.1≠s2.heap.objs.size:=fun p hp=>by
          obtain ⟨z,_⟩:=of_pinsAt hp
          exact Nat.ne_of_lt (hfl _ z)
        have va':=va.length
        refine call_meets F.slot_list_append ⟨_,pinD.1,rfl⟩ F.entry_list_append (F.args_list_append_2 _ _) (PySem.list_append s2.heap.objs.size its.toArray nn y (by rw [List.size_toArray]; omega)) ⟨pinD.1,?_⟩
        have e9:=PySem.IsL.update pinD.1 (fun a=>a.push y)
        have e9' : its.toArray.push y = (its ++ [y]).toArray:=by simp
        dsimp only at e9
        rw [e9'] at e9
        have I8' : Inv Xc (pinsAt fp s5.heap) σ6 H8 s8:=I8.pins_of fun p hp=>I8.pin p (List.mem_append_right _ (List.mem_append_right _ hp))
        have hXpn : Xc.pn = []:=by rw [← hXc]; rfl
        have hXs : s2.heap.objs.size ∉ frs X.stack:=by rw [← hfs]; exact pinD.2.2.2.1
        have I9:=I8'.turned (t':=s8.toks) (it:=s2.heap.objs.size) (h':=s8.heap.update s2.heap.objs.size (Obj.mapSeq fun a=>a.push y)) (fun b o hb e=>(Heap.get?_update_other s8.heap _ (Ne.symm hb)).trans e) pinD.2.1 pinD.2.2.1
          (.inr (by rw [hs0]; exact Nat.le_refl _)) (fun x c e=>by
            rw [hXe] at e
            intro z
            rcases up _ _ e with y | y
            · obtain ⟨v,q⟩:=I2.cell x c y
              exact absurd q.lt (by rw [z]; exact Nat.lt_irrefl _)
            · have:=y.1
              rw [z,hC] at this
              exact absurd this (Nat.not_lt_of_le (Nat.le_succ _))) (fun p hp=>by rw [hXpn,List.nil_append] at hp; exact hnf p hp)
        have I10:=I9.pins_of (pins':=[(s2.heap.objs.size,{ cls:=.type "list",dict:=none,data:=.seq (its ++ [y]).toArray _ })] ++ pinsAt fp s5.heap) fun p hp=>by
          rcases List.mem_append.mp hp with z | z
          · simp only [List.mem_cons,List.not_mem_nil,or_false] at z
            subst z
            exact ⟨e9,pinD.2.1,pinD.2.2.1,pinD.2.2.2.1,by intro v z; cases z⟩
          · exact I9.pin p (List.mem_append_right _ z)
        exact ⟨m',hm,again I10 (va.append (.cons r8 .nil)) (by rw [List.length_append,List.length_singleton]; omega) w8 kl kv⟩
  exact codeAny_compStart_list loop (T.self _ 0 _ _ _ st4 loop)
theorem pe_compN {tg elt iter : Expr} {ifs : List Expr} {scope : Scope} {pos : Pos} {wi : TI} {g : TG} {tt : TT} {te : TE} (Nc : List Str) (js : List (Option Nat)) {L : List Nat}
    (hc : X.calm = true) (hok : compOkN X.env.scope scope = true) (htk : takesC X.N Nc scope js 0 = true) (hi : PI X tg iter wi)
    (hg : ∀ cl C s2 H2 fp,PG (compCxN X Nc scope cl C s2 H2 fp) tg g) (ht : ∀ cl C s2 H2 fp,PIfs (compCxN X Nc scope cl C s2 H2 fp) ifs tt) (he : ∀ cl C s2 H2 fp,PE (compCxN X Nc scope cl C s2 H2 fp) elt te)
    (ho : OnlyG g L) (hL : (L.all fun k=>js[k]? == some none) = true:=by rfl) (hs : ∀ x,foldedSetIterable iter X.env x = pure x:=by intro _; rfl) : PE X (.ListComp elt [⟨tg,iter,ifs,0⟩] scope pos) (tComp wi g tt te js):=by
  intro pins s σ H Q I h
  rw [eval_ListComp]
  exact comp_runN (use:=none) hc hok htk hi hg ht he hs ho hL I h fun D C H' H2 s2 s' xs m I2 hHC e1 e2 hn hI q=>⟨m,hn,fun h' hsb=>⟨.ref D,_,hI h' hsb,rfl,q⟩⟩
theorem ps_setCN {i : Nat} {x : Str} {pos' spos : Pos} {tg elt iter : Expr} {ifs : List Expr} {scope : Scope} {pos : Pos} {wi : TI} {g : TG} {tt : TT} {te : TE} (Nc : List Str) (js : List (Option Nat)) {L : List Nat}
    (hN : X.N.Nodup) (hxi : X.N[i]? = some x) (hx : Loc X.env.scope x)
    (hc : X.calm = true) (hok : compOkN X.env.scope scope = true) (htk : takesC X.N Nc scope js 0 = true) (hi : PI X tg iter wi)
    (hg : ∀ cl C s2 H2 fp,PG (compCxN X Nc scope cl C s2 H2 fp) tg g) (ht : ∀ cl C s2 H2 fp,PIfs (compCxN X Nc scope cl C s2 H2 fp) ifs tt) (he : ∀ cl C s2 H2 fp,PE (compCxN X Nc scope cl C s2 H2 fp) elt te)
    (ho : OnlyG g L) (hL : (L.all fun k=>js[k]? == some none) = true:=by rfl) (hs : ∀ x,foldedSetIterable iter X.env x = pure x:=by intro _; rfl)
    (hsw : swapsWith (.ListComp elt [⟨tg,iter,ifs,0⟩] scope pos) (some (.Name x pos')) spos.line X.env = pure true:=by rfl)
    (hf : X.fn x = true∨X.env.scope.names.lookup x = some .local:=by first | exact .inl rfl | exact .inr rfl | assumption) :
    PS X (.Assign [.Name x pos'] (.ListComp elt [⟨tg,iter,ifs,0⟩] scope pos) spos) (tAsg (tComp wi g tt te js) (gName i)):=by
  intro pins s σ H D I h
  rw [exec_Assign_Name_used _ _ _ _ hsw]
  refine wpAny_bind (wpAny_standAt (wpAny_bind ?_))
  show wpAny _ _ (comprehension _ _ _ _ _ _ _ _ >>= _) _ _ _
  refine wpAny_bind (thn (Q:=fun _ s'=>∃ σ' H',Inv X pins σ' H' s'∧D.nx σ' H') (comp_runN (Q:=fun v H1=>gName i v σ H1 D.nx) (use:=some (assign (.Name x pos') X.env)) hc hok htk hi hg ht he hs ho hL I h ?_) fun _ s' ⟨σ',H',I',q⟩=>wpAny_pure (wpAny_pure ⟨σ',H',I',q⟩))
  intro D' C H' H2 s2 s' xs m I2 hHC e1 e2 hn hI q
  obtain ⟨oC,es,ep,hoC,hdC,hrest⟩:=id hn
  have leC : s2.heap.objs.size≤C:=by rw [e1,e2]; exact Nat.le_succ _
  have ltC : s2.heap.objs.size < C:=by rw [e1,e2]; exact Nat.lt_succ_self _
  have neDC : C≠D':=by rw [e2]; exact Nat.ne_of_gt ltC
  have fresh : s2.heap.get? C = none:=by
    cases e : s2.heap.get? C with
    | none=>rfl
    | some o=>exact absurd (Nat.lt_of_lt_of_le (Heap.lt_size e) leC) (Nat.lt_irrefl _)
  have neL : C≠X.env.locals:=Nat.ne_of_gt (Nat.lt_of_lt_of_le I2.lt leC)
  have nfs : C ∉ X.fs:=I2.nofs leC
  have ncl : ∀ x c,X.env.cells.lookup x = some c→c≠C:=fun x c e z=>by
    obtain ⟨v,q⟩:=I2.cell x c e
    exact absurd (Nat.lt_of_lt_of_le q.lt leC) (by rw [z]; exact Nat.lt_irrefl _)
  have npn : ∀ p ∈ X.pn ++ pins,p.1≠C:=fun p hp z=>by
    have:=(I2.pin p hp).1
    rw [z,fresh] at this; cases this
  have hH : (upd H' D' (HO.lst xs)) C = none:=by rw [upd_ne neDC]; exact hHC
  have I0:=hI s'.heap sameBut_refl
  have I1 : Inv X (pins ++ [(C,oC)]) σ (upd H' D' (.lst xs)) s':=I0.pins_of fun p hp=>by
    rcases List.mem_append.mp hp with z | z
    · exact I0.pin p (List.mem_append_right _ z)
    · simp only [List.mem_cons,List.not_mem_nil,or_false] at z
      subst z
      exact ⟨hoC,hH,neL,nfs,fun v z=>by rw [hdC] at z; cases z⟩
  show wpAny _ _ _ _ _ _
  refine thn (pg_name (X:=X) (i:=i) hN hxi hx hf (pins ++ [(C,oC)]) s' σ _ (.ref D') (.ref D') _ I1 rfl q) fun _ s3 ⟨σ3,H3,I3,q3⟩=>?_
  have pC:=I3.pin (C,oC) (List.mem_append_right _ (List.mem_append_right _ (.head _)))
  refine ⟨m,⟨oC,es,ep,pC.1,hdC,hrest⟩,fun h' hsb=>⟨σ3,H3,?_,q3⟩⟩
  exact I3.unpinned.turned (t':=s3.toks) (it:=C) (fun b o hb e=>hsb.extBut b o hb e) pC.2.1 neL (.inr (Nat.le_trans I2.sz leC)) ncl npn
end
end L2
set_option Elab.async false
set_option linter.all false
set_option maxRecDepth 100000
set_option maxHeartbeats 1000000
namespace L2
open PySem PySem.Spec PyProof.Rows PySem.W
def CF (n : Nat) (P : Nat→Bool) (vals : Nat→V) (H1 : Hp) (i m : Nat) (acc : List V) (H : Hp) : Prop:=m = n - i∧i≤n∧acc = ((List.range i).filter P).map vals∧Same H1 H
theorem CF.take {n : Nat} {P : Nat→Bool} {vals : Nat→V} {H1 H : Hp} {i : Nat} {v : V} (hi : i < n) (hP : P i = true) (hv : v = vals i) (s : Same H1 H) : ∃ m',m' < n - i∧CF n P vals H1 (i + 1) m' (((List.range i).filter P).map vals ++ [v]) H :=
  ⟨n - (i + 1),by omega,rfl,hi,by rw [List.range_succ,List.filter_append,List.map_append,hv]; simp [hP],s⟩
theorem CF.skip {n : Nat} {P : Nat→Bool} {vals : Nat→V} {H1 H : Hp} {i : Nat} (hi : i < n) (hP : P i = false) (s : Same H1 H) : ∃ m',m' < n - i∧CF n P vals H1 (i + 1) m' (((List.range i).filter P).map vals) H :=
  ⟨n - (i + 1),by omega,rfl,hi,by rw [List.range_succ,List.filter_append,List.map_append]; simp [hP],s⟩
theorem comp_filt {J : It} {n : Nat} {H1 : Hp} {g : TG} {tt : TT} {te : TE} {σ0 : St} {Q : VK} (P : Nat→Bool) (vals : Nat→V) (hn : n < sizeLine) (hgo : ∀ i H,Same H1 H→i < n→J.go i H) (hstop : ∀ H,Same H1 H→J.stop n H)
    (hb : ∀ i x H H',i < n→Same H1 H→J.yld i H x H'→g x σ0 H' fun σ2 H2=>tt σ2 H2 fun b H3=>if b = true then te σ2 H3 fun v H4=>∃ m',m' < n - i∧CF n P vals H1 (i + 1) m' (((List.range i).filter P).map vals ++ [v]) H4 else ∃ m',m' < n - i∧CF n P vals H1 (i + 1) m' (((List.range i).filter P).map vals) H3)
    (hk : ∀ l H',Same H1 H'→H' l = none→Q (.ref l) (upd H' l (.lst (((List.range n).filter P).map vals)))) :
    CompR J g tt te σ0 Q H1:=by
  refine ⟨CF n P vals H1,⟨n,rfl,Nat.zero_le _,rfl,Same.refl _⟩,?_⟩
  rintro i m acc H ⟨rfl,hi,rfl,s⟩
  have hlen : (((List.range i).filter P).map vals).length≤n:=by
    rw [List.length_map]
    have:=List.length_filter_le P (List.range i)
    rw [List.length_range] at this
    omega
  by_cases h : i < n
  · exact .inr ⟨hgo i H s h,by omega,fun x H' y=>hb i x H H' h s y⟩
  · have : i = n:=by omega
    subst this
    exact .inl ⟨hstop H s,by omega,fun p hp=>hk p H s hp⟩
def CRv (rs : Nat→List Int) (H1 : Hp) (i : Nat) (acc : List V) (H : Hp) : Prop:=Same H1 H∧∃ as : List Addr,acc = as.map V.ref∧as.length = i∧∀ (k : Nat) (a : Addr),as[k]? = some a→H a = some (.lst ((rs k).map V.int))
theorem CRv.take {rs : Nat→List Int} {H1 H H' : Hp} {i : Nat} {acc : List V} {a : Addr} (h : CRv rs H1 i acc H) (s : Same H H') (ha : H' a = some (.lst ((rs i).map V.int))) : CRv rs H1 (i + 1) (acc ++ [.ref a]) H':=by
  obtain ⟨s1,as,rfl,hl,h1⟩:=h
  refine ⟨s1.trans s,as ++ [a],by simp,by simp [hl],fun k b hk=>?_⟩
  by_cases z : k < as.length
  · rw [List.getElem?_append_left z] at hk
    exact s _ _ (h1 k b hk)
  · have hk2:=(List.getElem?_eq_some_iff.mp hk).1
    rw [List.length_append] at hk2
    have : k = as.length:=by simp at hk2; omega
    subst this
    rw [List.getElem?_append_right (Nat.le_refl _)] at hk
    simp at hk
    rw [← hk,hl]; exact ha
theorem IsLow.over {f : Nat→Int} {a b lo p : Nat} (h : IsLow f a b lo) (h1 : a≤p) (h2 : p≤b) (hne : p≠lo) : Over f lo p:=by
  obtain ⟨l1,l2,l3,l4⟩:=h
  rcases Nat.lt_or_gt_of_ne hne with z | z
  · exact .inr ⟨z,fun r r1 r2=>l3 r (by omega) r2⟩
  · exact .inl ⟨z,fun r r1 r2=>l4 r r1 (by omega)⟩
theorem IsLow.top {f : Nat→Int} {a b lo o : Nat} (h : IsLow f a b lo) (h1 : a≤o) (h2 : o≤b) : ¬ Over f o lo:=by
  obtain ⟨l1,l2,l3,l4⟩:=h
  rintro (⟨z,k⟩ | ⟨z,k⟩)
  · have:=k lo z (Nat.le_refl _); have:=l3 o h1 z; omega
  · have:=k lo (Nat.le_refl _) z; have:=l4 o z h2; omega
theorem tree_row {ns T : List Int} {g : Nat→Int} (hT : TreeIs ns T) (hg : ∀ q p,q < ns.length→p < ns.length→Over (nth ns) q p→(q < p→g q≤g p)∧(p < q→g q < g p)) : ∀ p,p < ns.length→ElderIs g ns.length p (T.getD p 0):=by
  intro p hp
  have pv : ∀ q,IsPrev (nth ns) p q→IsPrev g p q:=fun q h=>by
    refine ⟨h.1,(hg q p (by have:=h.1; omega) hp (.inl ⟨h.1,fun r r1 r2=>?_⟩)).1 h.1,fun r r1 r2=>(hg p r hp (by omega) (.inr ⟨r2,fun s s1 s2=>h.2.2 s (by omega) s2⟩)).2 r2⟩
    by_cases z : r = p
    · rw [z]; exact h.2.1
    · have:=h.2.2 r r1 (by omega); have:=h.2.1; omega
  have nx : ∀ r,IsNext (nth ns) ns.length p r→IsNext g ns.length p r:=fun q h=>by
    refine ⟨h.1,h.2.1,(hg q p h.2.1 hp (.inr ⟨h.1,fun r r1 r2=>?_⟩)).2 h.1,fun s s1 s2=>(hg p s hp (by have:=h.2.1; omega) (.inl ⟨s1,fun r r1 r2=>h.2.2.2 r r1 (by omega)⟩)).1 s1⟩
    by_cases z : r = p
    · rw [z]; exact h.2.2.1
    · have:=h.2.2.2 r (by omega) r2; have:=h.2.2.1; omega
  have np : NoPrev (nth ns) p→NoPrev g p:=fun h q hq=>(hg p q hp (by omega) (.inr ⟨hq,fun r r1 r2=>h r r2⟩)).2 hq
  have nn : NoNext (nth ns) ns.length p→NoNext g ns.length p:=fun h r r1 r2=>(hg p r hp r2 (.inl ⟨r1,fun s s1 s2=>h s s1 (by omega)⟩)).1 r1
  have hE : ElderIs (nth ns) ns.length p (T.getD p 0):=hT.2 p hp
  rcases hE with ⟨h1,h2,h⟩ | ⟨q,h1,h2,h⟩ | ⟨r,h1,h2,h⟩ | ⟨q,r,h1,h2,h⟩
  · exact .inl ⟨np h1,nn h2,h⟩
  · exact .inr (.inl ⟨q,pv q h1,nn h2,h⟩)
  · exact .inr (.inr (.inl ⟨r,np h1,nx r h2,h⟩))
  · refine .inr (.inr (.inr ⟨q,r,pv q h1,nx r h2,?_⟩))
    rw [h]
    have hq : q < ns.length:=by have:=h1.1; omega
    have hqr : q < r:=by have:=h1.1; have:=h2.1; omega
    by_cases z : nth ns q≤nth ns r
    · have:=(hg q r hq h2.2.1 (.inl ⟨hqr,fun s s1 s2=>by
        by_cases y : s = r
        · rw [y]; exact z
        · by_cases y2 : s = p
          · rw [y2]; exact h1.2.1
          · have:=h1.2.1
            by_cases y3 : s < p
            · have:=h1.2.2 s s1 y3; omega
            · have:=h2.2.2.2 s (by omega) (by omega); omega⟩)).1 hqr
      rw [if_pos z,if_pos (by omega)]
    · have:=(hg r q h2.2.1 hq (.inr ⟨hqr,fun s s1 s2=>by
        have:=h1.2.1; have:=h2.2.2.1
        by_cases y : s = q
        · rw [y]; omega
        · by_cases y2 : s = p
          · rw [y2]; omega
          · by_cases y3 : s < p
            · have:=h1.2.2 s (by omega) y3; omega
            · have:=h2.2.2.2 s (by omega) (by omega); omega⟩)).2 hqr
      rw [if_neg z,if_neg (by omega)]
end L2
set_option Elab.async false
set_option linter.all false
set_option maxRecDepth 100000
set_option maxHeartbeats 1000000
namespace HT
open PySem PyProof.Rows
section
open PySem.SeqAt
open PySem.AutoSeq1 (wpAny_loadPart')
open PySem.MeetsSeq PySem.MeetsSeq2 PySem.MeetsSeq3
variable {prog : Program} {w : World} {A : Around} {E : Value→Shared→Prop} {s : Shared}
end
end HT
namespace L2
open PySem PySem.Spec PyProof.Rows PySem.W
section
variable {X : Cx}
def rSlQ (K : Frag) : V→Option Int→Option Int→Hp→VK→Prop:=fun x lo hi H Q=>∃ a xs,x = .ref a∧((SqL K H a xs∧∀ p,H p = none→Q (.ref p) (upd H p (.lst (cutV xs lo hi)))) ∨
  (SqT K H a xs∧(HT.sIx xs.length 0 lo = 0∧HT.sIx xs.length xs.length hi = xs.length→Q (.ref a) H)∧(¬ (HT.sIx xs.length 0 lo = 0∧HT.sIx xs.length xs.length hi = xs.length)→∀ p,H p = none→Q (.ref p) (upd H p (.tup (cutV xs lo hi))))))
end
section
variable {X : Cx} {tg l : Expr} {tl : TE}
end
end L2
set_option Elab.async false
set_option linter.all false
set_option maxRecDepth 100000
set_option maxHeartbeats 1000000
namespace L2
open PySem PySem.Spec PyProof.Rows PySem.W
theorem wayF_ext (T : List Int) : ∀ k a,(wayF T k a).length < k→wayF T (k + 1) a = wayF T k a
  | 0,_,h=>by omega
  | k + 1,a,h=>by
    rw [wayF] at h ⊢
    by_cases z : 0≤a∧a < T.length
    · rw [if_pos z] at h ⊢
      rw [wayF_ext T k _ (by simpa using h),wayF,if_pos z]
    · rw [if_neg z] at h ⊢
      rw [wayF,if_neg z]
def way (T : List Int) (p : Nat) : List Nat:=wayF T T.length (nth T p)
theorem way_top {T : List Int} {p : Nat} (h : nth T p = -1) : way T p = []:=by
  unfold way
  rw [h]
  cases T.length with
  | zero=>rfl
  | succ k=>rw [wayF,if_neg (by omega)]
theorem way_cons {ns T : List Int} (hT : TreeIs ns T) {p q : Nat} (hp : p < ns.length) (h : nth T p = q) : way T p = q :: way T q:=by
  have hE : ElderIs (nth ns) ns.length p (q : Int):=h ▸ hT.2 p hp
  have hq : q < ns.length:=by
    rcases elder_over hp hE with z | ⟨q',e,z,_⟩ <;> omega
  have hd:=dep_elder hp hE
  have hl:=dep_lt (f:=nth ns) hp
  unfold way
  rw [h,hT.1]
  obtain ⟨k,hk⟩ : ∃ k,ns.length = k + 1:=⟨ns.length - 1,by omega⟩
  rw [hk,wayF,if_pos ⟨by omega,by rw [hT.1]; omega⟩,show ((q : Nat) : Int).toNat = q by omega]
  rw [wayF_ext T k (nth T q)]
  rw [(way_tree hT k q hq (by omega)).2]
  omega
theorem wayI_way (T : List Int) (p : Nat) : wayI T p = (way T p).map fun q=>((q : Nat) : Int):=rfl
theorem elder_cases {ns T : List Int} (hT : TreeIs ns T) {p : Nat} (hp : p < ns.length) : nth T p = -1∨∃ q : Nat,nth T p = q∧q < ns.length∧Over (nth ns) q p∧dep (nth ns) ns.length p = dep (nth ns) ns.length q + 1:=by
  rcases elder_over hp (hT.2 p hp) with z | ⟨q,e,hq,hO⟩
  · exact .inl z
  · have e' : nth T p = (q : Int):=e
    have hE : ElderIs (nth ns) ns.length p (q : Int):=e' ▸ hT.2 p hp
    exact .inr ⟨q,e,hq,hO,dep_elder hp hE⟩
def flatN (T : List Int) (p : Nat) : Nat:=((way T p).filter fun o=>decide (p < o)).length
def flatI (T : List Int) : List Int:=(List.range T.length).map fun p=>(flatN T p : Int)
end L2
set_option Elab.async false
set_option linter.all false
set_option maxRecDepth 100000
set_option maxHeartbeats 1000000
namespace L2
open PySem PySem.Spec PyProof.Rows PySem.W
section
variable {X : Cx} {pins : List (Addr × Obj)} {σ : St} {H : Hp} {s : Shared} {h' : Heap}
theorem Inv.turnedN {t' : Nat} {fp : List Addr} {T : Addr} {o : HO} (I : Inv X pins σ H s) (k : ∀ b u,b ∉ fp→s.heap.get? b = some u→h'.get? b = some u) (hf : ∀ b ∈ fp,FpOk X pins H b) (hT : s.heap.objs.size≤T) (new : ObjOk X.prog X.w (upd H T o) h' T o) :
    Inv X pins σ (upd H T o) { s with heap:=h',toks:=t' }:=by
  have nit : ∀ b u,H b = some u→b ∉ fp:=fun b u e z=>by rw [(hf b z).1] at e; cases e
  have hfr : H T = none:=I.hok.fresh hT
  have neT : ∀ b u,s.heap.get? b = some u→b≠T:=fun b u e z=>absurd (Heap.lt_size e) (by rw [z]; exact Nat.not_lt_of_le hT)
  have neH : ∀ b u,H b = some u→b≠T:=fun b u e z=>by rw [z,hfr] at e; cases e
  refine I.step (g':=s.gens) (d':=s.drawn) (ch:=fp) (fun b hb=>?_) (fun b o _ _ hc e _=>k b o hc e) (fun b o _ _ hc e _=>⟨o.slots,k b o hc e⟩) (fun b u _ e n=>by rw [upd_ne (neT b u e)]; exact n)
    (fun b o hc e=>⟨o,k b o hc e⟩) (fun b xs e=>by rw [upd_ne (neH b _ e)]; exact e) (fun b o u e=>by rw [upd_ne (neH b _ e)]; exact e) (fun b ps e=>⟨#[],by rw [upd_ne (neH b _ e),e]; simp⟩) (fun m hm=>?_) (fun b u e=>?_) I.bare
  · obtain ⟨_,f1,_,f3,f4,f5⟩:=hf b hb
    exact ⟨f3,f1,f4,f5⟩
  · obtain ⟨o,es,ep,ho,r⟩:=hm
    exact ⟨o,es,ep,k _ o (fun z=>(hf _ z).2.1 rfl) ho,r⟩
  · by_cases z : b = T
    · subst z
      rw [upd_same] at e; cases e
      exact new
    · rw [upd_ne z] at e
      refine (I.hok b u e).stay (fun c v hc q=>k c v ?_ q) (fun c q=>?_) (fun c xs q=>?_) fun c o u q=>?_
      · rcases hc with y | y
        · rw [y]; exact nit b u e
        · exact nit c _ y
      · rw [upd_ne (neH _ _ q)]; exact q
      · rw [upd_ne (neH _ _ q)]; exact q
      · rw [upd_ne (neH _ _ q)]; exact q
def Ite (K : Frag) (a : Addr) : It :=
  ⟨fun i H=>∃ xs x,SqL K H a xs∧xs[i]? = some x,
   fun i H v H'=>∃ p x,H p = none∧v = .ref p∧H' = upd H p (.tup [.int (i : Int),x])∧∀ xs,SqL K H a xs→xs[i]? = some x,
   fun i H=>∃ xs,SqL K H a xs∧xs.length = i⟩
def iEnum (K : Frag) (ta : TA) : TI:=fun σ H R=>ta σ H fun vs H1=>∃ a xs,vs = [.ref a]∧SqL K H1 a xs∧R (Ite K a) H1
theorem boot_enum' : bootBuiltins "enumerate" = some (.type "enumerate"):=by decide +kernel
end
end L2
set_option Elab.async false
set_option linter.all false
set_option maxRecDepth 100000
set_option maxHeartbeats 1000000
namespace L2
open PySem PySem.Spec PyProof.Rows PySem.W
section
variable {X : Cx}
def tMaxD (K : Frag) (ta td : TA) : TE:=fun σ H Q=>ta σ H fun vs H1=>td σ H1 fun zs H2=>∃ (p : Addr) (ns : List Int) (d : Int),vs = [.ref p]∧zs = [.int d]∧SqL K H2 p (ns.map V.int)∧(ns = []→Q (.int d) H2)∧(ns≠[]→∀ m,m ∈ ns→(∀ a ∈ ns,a≤m)→Q (.int m) H2)
end
section
variable {X : Cx}
def tMinD (K : Frag) (ta td : TA) : TE:=fun σ H Q=>ta σ H fun vs H1=>td σ H1 fun zs H2=>∃ (p : Addr) (ns : List Int) (d : Int),vs = [.ref p]∧zs = [.int d]∧SqL K H2 p (ns.map V.int)∧(ns = []→Q (.int d) H2)∧(ns≠[]→∀ m,m ∈ ns→(∀ a ∈ ns,m≤a)→Q (.int m) H2)
end
end L2
set_option Elab.async false
set_option linter.all false
set_option maxRecDepth 100000
set_option maxHeartbeats 1000000
namespace L2
open PySem PySem.Spec PyProof.Rows PySem.W
section
variable {X : Cx}
def rIndexF (K : Frag) : V→List V→Hp→VK→Prop:=fun x vs H Q=>∃ (l : Addr) (xs : List V) (y : V) (j : Nat),x = .ref l∧vs = [y]∧SqL K H l xs∧xs.length≤100000∧xs.all flatV = true∧flatV y = true∧(∃ z,xs[j]? = some z∧eqV z y = true)∧(∀ (i : Nat) (z : V),i < j→xs[i]? = some z→eqV z y = false)∧Q (.int (j : Nat)) H
end
end L2
set_option Elab.async false
set_option linter.all false
set_option maxRecDepth 100000
set_option maxHeartbeats 1000000
namespace L2
open PySem PySem.Spec PyProof.Rows PySem.W
def LowsEq (f g : Nat→Int) (n : Nat) : Prop:=∀ a c,a + c < n→lowF f a c = lowF g a c
theorem LowsEq.symm {f g : Nat→Int} {n : Nat} (h : LowsEq f g n) : LowsEq g f n:=fun a c k=>(h a c k).symm
theorem LowsEq.over {f g : Nat→Int} {n o p : Nat} (h : LowsEq f g n) (ho : o < n) (hp : p < n) (k : Over f o p) : Over g o p:=by
  rcases k with ⟨z,k⟩ | ⟨z,k⟩
  · have i1 : IsLow f o (o + (p - o)) o:=⟨Nat.le_refl _,by omega,fun q q1 q2=>by omega,fun q q1 q2=>k q q1 (by omega)⟩
    have e:=h o (p - o) (by omega)
    rw [(lowF_is f o (p - o)).unique i1] at e
    have i2:=lowF_is g o (p - o)
    rw [← e] at i2
    exact .inl ⟨z,fun r r1 r2=>i2.2.2.2 r r1 (by omega)⟩
  · have i1 : IsLow f p (p + (o - p)) o:=⟨by omega,by omega,fun q q1 q2=>k q q1 q2,fun q q1 q2=>by omega⟩
    have e:=h p (o - p) (by omega)
    rw [(lowF_is f p (o - p)).unique i1] at e
    have i2:=lowF_is g p (o - p)
    rw [← e] at i2
    exact .inr ⟨z,fun r r1 r2=>i2.2.2.1 r r1 (by omega)⟩
theorem LowsEq.tree {ns ms T : List Int} (hT : TreeIs ns T) (hl : ms.length = ns.length) (h : LowsEq (nth ns) (nth ms) ns.length) : TreeIs ms T:=by
  refine ⟨by rw [hl]; exact hT.1,fun p hp=>?_⟩
  rw [hl] at hp ⊢
  refine tree_row hT (fun q p hq hp hO=>?_) p hp
  rcases h.over hq hp hO with ⟨z,k⟩ | ⟨z,k⟩
  · exact ⟨fun _=>k p z (Nat.le_refl _),fun y=>by omega⟩
  · exact ⟨fun y=>by omega,fun _=>k p (Nat.le_refl _) z⟩
theorem LowsEq.mono {f g : Nat→Int} {n m : Nat} (h : LowsEq f g n) (k : m≤n) : LowsEq f g m:=fun a c z=>h a c (by omega)
def PartAt (f g : Nat→Int) (x y size a m : Nat) : Prop:=a + m < size∧(lowF f (x + a) m : Int) - (x + a : Nat)≠(lowF g (y + a) m : Int) - (y + a : Nat)∧(∀ m',m' < m→∀ a',a' + m' < size→(lowF f (x + a') m' : Int) - (x + a' : Nat) = (lowF g (y + a') m' : Int) - (y + a' : Nat)) ∧
  ∀ a',a' < a→(lowF f (x + a') m : Int) - (x + a' : Nat) = (lowF g (y + a') m : Int) - (y + a' : Nat)
theorem first_not {P : Nat→Prop} : ∀ n,¬ (∀ j,j < n→P j)→∃ j,j < n∧¬ P j∧∀ i,i < j→P i
  | 0,h=>absurd (fun j hj=>by omega) h
  | n + 1,h=>by
    by_cases z : ∀ j,j < n→P j
    · exact ⟨n,by omega,fun y=>h fun j hj=>by
        by_cases e : j = n
        · rw [e]; exact y
        · exact z j (by omega),z⟩
    · obtain ⟨j,h1,h2,h3⟩:=first_not n z
      exact ⟨j,by omega,h2,h3⟩
theorem ifR {c : TT} {t u : TS} {D : Ends} {σ : St} {H : Hp} (T U : Hp→Prop) (ht : ∀ H1,T H1→t D σ H1) (hu : ∀ H1,U H1→u D σ H1) (hc : ∀ B : Bool→Hp→Prop,(∀ H1,T H1→B true H1)→(∀ H1,U H1→B false H1)→c σ H B) : tIfS c t u D σ H :=
  hc _ (fun H1 h=>by rw [if_pos rfl]; exact ht H1 h) (fun H1 h=>by rw [if_neg (by simp)]; exact hu H1 h)
end L2
set_option Elab.async false
set_option linter.all false
set_option maxRecDepth 100000
set_option maxHeartbeats 1000000
namespace L2
open PySem PySem.Spec PyProof.Rows PySem.W
section
variable {X : Cx}
def rSorted (K : Frag) : List V→Hp→VK→Prop:=fun xs H Q=>∃ (p : Addr) (ns : List Int),xs = [.ref p]∧SqL K H p (ns.map V.int)∧ns.length < 64∧∀ (ns' : List Int) (l : Addr),ns'.Perm ns→ns'.Pairwise (·≤·)→H l = none→Q (.ref l) (upd H l (.lst (ns'.map V.int)))
def rOr (r1 r2 : R2) : R2:=fun x y H Q=>r1 x y H Q∨r2 x y H Q
theorem bt_sorted : bootBuiltins "sorted" = some (.builtin "sorted"):=by decide +kernel
end
theorem partAt_zero {f g : Nat→Int} {n a m : Nat} (h1 : a + m < n) (h2 : lowF f a m≠lowF g a m) (h3 : ∀ m',m' < m→∀ a',a' + m' < n→lowF f a' m' = lowF g a' m') (h4 : ∀ a',a' < a→lowF f a' m = lowF g a' m) : PartAt f g 0 0 n a m:=by
  refine ⟨h1,?_,fun m' hm' a' ha'=>?_,fun a' ha'=>?_⟩
  · rw [Nat.zero_add]; omega
  · rw [Nat.zero_add,h3 m' hm' a' ha']
  · rw [Nat.zero_add,h4 a' ha']
theorem PartAt.low {f g : Nat→Int} {n a m : Nat} (h : PartAt f g 0 0 n a m) : a + m < n∧lowF f a m≠lowF g a m∧(∀ m',m' < m→∀ a',a' + m' < n→lowF f a' m' = lowF g a' m')∧∀ a',a' < a→lowF f a' m = lowF g a' m:=by
  obtain ⟨h1,h2,h3,h4⟩:=h
  refine ⟨h1,fun e=>h2 (by rw [Nat.zero_add,e]),fun m' hm' a' ha'=>?_,fun a' ha'=>?_⟩
  · have:=h3 m' hm' a' ha'; rw [Nat.zero_add] at this; omega
  · have:=h4 a' ha'; rw [Nat.zero_add] at this; omega
theorem PartAt.symm {f g : Nat→Int} {n a m : Nat} (h : PartAt f g 0 0 n a m) : PartAt g f 0 0 n a m:=by
  obtain ⟨h1,h2,h3,h4⟩:=h.low
  exact partAt_zero h1 h2.symm (fun m' hm' a' ha'=>(h3 m' hm' a' ha').symm) (fun a' ha'=>(h4 a' ha').symm)
theorem PartAt.unique {f g : Nat→Int} {n a m a' m' : Nat} (h : PartAt f g 0 0 n a m) (k : PartAt f g 0 0 n a' m') : a = a'∧m = m':=by
  obtain ⟨h1,h2,h3,h4⟩:=h.low
  obtain ⟨k1,k2,k3,k4⟩:=k.low
  have hm : m = m':=by
    rcases Nat.lt_trichotomy m m' with z | z | z
    · exact absurd (k3 m z a h1) h2
    · exact z
    · exact absurd (h3 m' z a' k1) k2
  subst hm
  refine ⟨?_,rfl⟩
  rcases Nat.lt_trichotomy a a' with z | z | z
  · exact absurd (k4 a z) h2
  · exact z
  · exact absurd (h4 a' z) k2
end L2
set_option Elab.async false
set_option linter.all false
set_option maxRecDepth 100000
set_option maxHeartbeats 1000000
namespace L2
open PySem PySem.Spec PyProof.Rows PySem.W
section
variable {prog : Program} {w : World} {A : Around} {E Q : Value→Shared→Prop} {s : Shared} {it t : Addr} {i : Nat} {items : Array Value}
theorem nextOf_tuple_item {x : Value} (hi : s.heap.IsTupleIter it t i) (ht : s.heap.IsTuple t items) (hx : items[i]? = some x) (h : ∀ h',h'.IsTupleIter it t (i + 1)→Heap.SameBut it s.heap h'→Q x { s with heap:=h' }) : wpAny (model prog w) A (Builtin.SmallTypes.nextOf (.ref it)) Q E s:=by
  obtain ⟨o,ho,hc,hd⟩:=id hi
  obtain ⟨ot,hot,hct,n,hdt⟩:=id ht
  have hT : s.TypeIs (.ref it) "tuple_iterator":=⟨o,ho,hc⟩
  unfold Builtin.SmallTypes.nextOf
  refine wpAny_bind (wpAny_callSpecial?_slot hT F.slot_tuple_iterator_next (wpAny_call_entry F.slot_tuple_iterator_next hT F.entry_tuple_iterator_next ?_ (F.args_tuple_iterator_next_1 _)))
  show wpAny _ _ (_ >>= _) _ _ _
  refine wpAny_bind (wpAny_of_eq (show slotArgs "__next__" 0 { pos:=[.ref it] } = pure (.ref it,[]) from rfl) ?_)
  refine wpAny_bind (wpAny_field ho hd (x:=.ref t) rfl ?_)
  rw [if_neg (by simp)]
  refine wpAny_bind (wpAny_field ho hd (x:=.int (i : Int) 0) rfl ?_)
  refine wpAny_bind (wpAny_seqItems hot hdt ?_)
  dsimp only
  rw [Int.toNat_natCast,hx]
  refine wpAny_bind (wpAny_setField ho hd (by show 1 < 2; decide) (wpAny_pure ⟨x,rfl,?_⟩))
  refine wpAny_pure (h _ ?_ ⟨by simp,fun b hb=>Heap.get?_update_other _ _ (Ne.symm hb)⟩)
  obtain ⟨cls,dict,data,slots⟩:=o
  simp only at hc hd
  subst hc hd
  exact ⟨_,Heap.get?_update_self _ ho rfl,rfl,rfl⟩
theorem nextOf_tuple_end (hA : A.handled = none) (hi : s.heap.IsTupleIter it t i) (ht : s.heap.IsTuple t items) (hx : items[i]? = none) (h : ∀ h' e,Heap.ExtBut it s.heap h'→(∃ o,h'.get? e = some o∧o.cls = .type "StopIteration")→E (.ref e) { s with heap:=h' }) : wpAny (model prog w) A (Builtin.SmallTypes.nextOf (.ref it)) Q E s:=by
  obtain ⟨o,ho,hc,hd⟩:=id hi
  obtain ⟨ot,hot,hct,n,hdt⟩:=id ht
  have hT : s.TypeIs (.ref it) "tuple_iterator":=⟨o,ho,hc⟩
  unfold Builtin.SmallTypes.nextOf
  refine wpAny_bind (wpAny_callSpecial?_slot hT F.slot_tuple_iterator_next (wpAny_call_entry F.slot_tuple_iterator_next hT F.entry_tuple_iterator_next ?_ (F.args_tuple_iterator_next_1 _)))
  show wpAny _ _ (_ >>= _) _ _ _
  refine wpAny_bind (wpAny_of_eq (show slotArgs "__next__" 0 { pos:=[.ref it] } = pure (.ref it,[]) from rfl) ?_)
  refine wpAny_bind (wpAny_field ho hd (x:=.ref t) rfl ?_)
  rw [if_neg (by simp)]
  refine wpAny_bind (wpAny_field ho hd (x:=.int (i : Int) 0) rfl ?_)
  refine wpAny_bind (wpAny_seqItems hot hdt ?_)
  dsimp only
  rw [Int.toNat_natCast,hx]
  refine wpAny_bind (wpAny_rule (wpAny_bind (wpAny_setField ho hd (by show 0 < 2; decide) ?_)))
  unfold Builtin.SmallTypes.stopIteration
  refine wpAny_bind ?_
  unfold newExc
  refine wpAny_bind (wpAny_newTuple ?_ (Nat.zero_le _))
  refine wpAny_bind (wpAny_of_eq (show firstArgMember (.type "StopIteration") [] = pure .none by first | rfl | (unfold firstArgMember; rfl)) ?_)
  refine wpAny_newObj_type (wpAny_raiseNew_none hA (h _ _ (fun b o' hb e=>?_) ⟨_,Heap.get?_push_size _ rfl,rfl⟩))
  exact Heap.get?_push_of_some _ (Heap.get?_push_of_some _ ((Heap.get?_update_other _ _ (Ne.symm hb)).trans e))
theorem draws_tuple (hA : A.handled = none) (it t : Addr) (hne : t≠it) (items : Array Value) : Draws prog w A it [it,t] items.size (fun i v=>items[i]? = some v) (fun i h=>h.IsTupleIter it t i∧h.IsTuple t items) where
  live:=fun i h st=>by obtain ⟨⟨o,ho,_⟩,_⟩:=st; exact ⟨o,ho⟩
  frame:=fun i h h' st k=>by
    obtain ⟨⟨o,ho,r⟩,⟨ot,hot,rt⟩⟩:=st
    exact ⟨⟨o,k it (by simp) o ho,r⟩,⟨ot,k t (by simp) ot hot,rt⟩⟩
  item:=fun i s Q E hi st h=>by
    obtain ⟨ot,hot,rt⟩:=st.2
    refine nextOf_tuple_item st.1 st.2 (Array.getElem?_eq_getElem hi) fun h' hit hs=>h _ h' s.toks (Array.getElem?_eq_getElem hi) ⟨hit,⟨ot,(hs.2 t hne).trans hot,rt⟩⟩ hs
  done:=fun s Q E st h=>nextOf_tuple_end hA st.1 st.2 (Array.getElem?_eq_none (Nat.le_refl _)) h
end
section
variable {X : Cx} {pins : List (Addr × Obj)} {σ : St} {H : Hp} {s : Shared} {h' : Heap}
def IteT (K : Frag) (a : Addr) : It :=
  ⟨fun i H=>∃ xs x,SqT K H a xs∧xs[i]? = some x,
   fun i H v H'=>∃ p x,H p = none∧v = .ref p∧H' = upd H p (.tup [.int (i : Int),x])∧∀ xs,SqT K H a xs→xs[i]? = some x,
   fun i H=>∃ xs,SqT K H a xs∧xs.length = i⟩
theorem turn_enumT {P : Program} {w : World} {K : Frag} {elts : List Expr} {x1} {pos : Pos} {a e it : Addr} (h1 : e≠it) (h2 : a≠e) (h3 : a≠it) :
    Turn P w K (.Tuple elts x1 pos) (IteT K a) [e,it] e (fun i h=>(∃ old,IsEnum h e it (i : Int) old)∧h.IsTupleIter it a i) where
  mem:=by simp
  obj:=fun i h st c hc=>by
    obtain ⟨⟨old,q1⟩,⟨o4,q4,_,d4⟩⟩:=st
    simp at hc
    rcases hc with rfl | rfl
    · exact ⟨_,q1,fun v z=>by cases z⟩
    · exact ⟨_,q4,fun v z=>by rw [d4] at z; cases z⟩
  keep:=fun i h h' st k=>by
    obtain ⟨⟨old,q1⟩,⟨o,ho,r⟩⟩:=st
    exact ⟨⟨old,k e (by simp) _ q1⟩,⟨o,k it (by simp) o ho,r⟩⟩
  item:=by
    intro X hP hw hK hc i pins s σ H E I hf st hg
    subst hP hw hK
    obtain ⟨xs,x,qa,hx⟩:=hg
    obtain ⟨is1,r1,p1,hz1⟩:=I.tuple qa
    obtain ⟨u,hu,ru⟩:=r1.get hx
    have W:=WalksT.enumerateD (prog:=X.prog) (w:=X.w) (A:=X.A) (draws_tuple (A:=X.A.in1) (I.ok.hd hc) it a h3 is1.toArray) e h1 (by simp; exact ⟨h1,h2.symm⟩) (by simp)
    have hi : i < is1.toArray.size:=by
      have:=(List.getElem?_eq_some_iff.mp hu).1
      simpa using this
    refine W.item i s _ E hi ⟨st.1,st.2,p1⟩ fun T vals h' tk Pt hT hTup Mid keep=>⟨_,rfl,W.go elts x1 pos i T _ _ E Mid fun h2' St2 keep2=>?_⟩
    obtain ⟨t,y,hy,rfl⟩:=Pt
    have hyu : y = u:=by
      have : is1[i]? = some y:=by simpa using hy
      rw [hu] at this; exact (Option.some.inj this).symm
    subst hyu
    have nT:=W.apart i T h' Mid
    have hfr : H T = none:=I.hok.fresh hT
    have kk : ∀ b o,b ∉ [e,it]→s.heap.get? b = some o→h2'.get? b = some o:=fun b o hb q=>keep2 b o hb (keep b o hb q)
    have nTe : ∀ c ∈ [e,it],c≠T:=fun c hc z=>nT (z ▸ hc)
    refine ⟨.ref T,_,Inv.turnedN (s:=s) (t':=tk) (o:=.tup [.int (i : Int),x]) I kk hf hT ?_,rfl,⟨T,x,hfr,rfl,rfl,fun xs' q'=>?_⟩,⟨?_,St2.2.1⟩,fun c hc=>?_⟩
    · obtain ⟨oT,q1,q2,n,q3⟩:=hTup
      exact ⟨by show 2≤sizeLine; decide,[.int (i : Int) t,y],.cons ⟨t,rfl⟩ (.cons ru .nil),⟨oT,keep2 T oT nT q1,q2,n,q3⟩⟩
    · rw [I.tuple_inj q' qa]; exact hx
    · obtain ⟨old,q⟩:=St2.1
      exact ⟨old,by rw [show (((i + 1 : Nat)) : Int) = (i : Int) + 1 by omega] at *; exact q⟩
    · rw [upd_ne (nTe c hc)]; exact (hf c hc).1
  done:=by
    intro X hP hw hK hc i pins s σ H E I hf st hg
    subst hP hw hK
    obtain ⟨xs,qa,hx⟩:=hg
    obtain ⟨is1,r1,p1,_⟩:=I.tuple qa
    have W:=WalksT.enumerateD (prog:=X.prog) (w:=X.w) (A:=X.A) (draws_tuple (A:=X.A.in1) (I.ok.hd hc) it a h3 is1.toArray) e h1 (by simp; exact ⟨h1,h2.symm⟩) (by simp)
    have hi : i = is1.toArray.size:=by
      have:=r1.length
      simp; omega
    refine W.done s _ E ?_ fun h' tk keep=>⟨rfl,I.turnedL (t':=tk) (fp:=[e,it]) (fun c o hc q=>keep c o hc q) hf⟩
    rw [← hi]
    exact ⟨st.1,st.2,p1⟩
  self:=fun A i s Q E st h=>by
    obtain ⟨⟨old,q⟩,_⟩:=st
    exact wpAny_pyIter_enum q h
theorem called_any {M : Model} {A : Around} {E : Value→Shared→Prop} {s : Shared} (cls : Value) : wpAny M A (Builtin.SmallTypes.calledThroughType cls) (fun _ s'=>s' = s) E s:=by
  unfold Builtin.SmallTypes.calledThroughType
  exact wpAny_bind (wpAny_stack fun st _ _ _=>wpAny_pure rfl)
theorem meets_enumT {prog : Program} {w : World} (l : Addr) (items : Array Value) : MeetsIn prog w (Builtin.«enumerate.__new__» { pos:=[.type "enumerate",.ref l] }) fun A R s=>s.heap.IsTuple l items∧R (.ok (.ret (.ref (s.heap.objs.size + 1)))) { s with heap:=(s.heap.push { cls:=.type "tuple_iterator",data:=.fields #[.ref l,.int 0 0] }).push { cls:=.type "enumerate",data:=.fields #[.none,.bool false,.ref s.heap.objs.size,rawInt 0,.none,.none] } }:=by
  intro A R s ⟨h,hR⟩
  unfold Builtin.«enumerate.__new__»
  refine wpAny_bind (wpAny_of_eq (show Builtin.SmallTypes.newClass "enumerate" { pos:=[.type "enumerate",.ref l] } = pure (.type "enumerate",[.ref l]) from by first | rfl | (unfold Builtin.SmallTypes.newClass; rfl)) ?_)
  show wpAny _ _ (_ >>= _) _ _ _
  have hsz : (s.heap.push { cls:=.type "tuple_iterator",data:=.fields #[.ref l,.int 0 0] }).objs.size = s.heap.objs.size + 1:=Heap.size_push _ _
  refine wpAny_bind (thn (called_any (.type "enumerate")) fun b s' e=>?_)
  subst e
  cases b with
  | true =>
    show wpAny _ _ (_ >>= _) _ _ _
    refine wpAny_bind (wpAny_of_eq (show _ = pure (.ref l,none) from rfl) ?_)
    show wpAny _ _ (_ >>= _) _ _ _
    refine wpAny_bind (wpAny_pyIter_tuple h ?_)
    show wpAny _ _ (newObj (.type "enumerate") (.fields #[.none,.bool false,.ref s'.heap.objs.size,rawInt 0,.none,.none]) >>= _) _ _ _
    refine wpAny_bind (wpAny_newObj_type (wpAny_pure ?_))
    rw [hsz]; exact hR
  | false =>
    show wpAny _ _ (_ >>= _) _ _ _
    refine wpAny_bind (wpAny_of_eq (show _ = pure (.ref l,none) from rfl) ?_)
    show wpAny _ _ (_ >>= _) _ _ _
    refine wpAny_bind (wpAny_pyIter_tuple h ?_)
    show wpAny _ _ (newObj (.type "enumerate") (.fields #[.none,.bool false,.ref s'.heap.objs.size,rawInt 0,.none,.none]) >>= _) _ _ _
    refine wpAny_bind (wpAny_newObj_type (wpAny_pure ?_))
    rw [hsz]; exact hR
def iEnumT (K : Frag) (ta : TA) : TI:=fun σ H R=>ta σ H fun vs H1=>∃ a xs,vs = [.ref a]∧SqT K H1 a xs∧R (IteT K a) H1
theorem pi_enumT {K : Frag} {elts : List Expr} {x1} {tp : Pos} {e1 : Expr} {ta : TA} {p pos : Pos} (hK : X.K = K) (hg : Gl X "enumerate") (hm : X.mg "enumerate" = none) (ha : PA X [e1] ta) (hs : starEach [e1] X.env = [(false,eval e1 X.env)]:=by rfl) :
    PI X (.Tuple elts x1 tp) (.Call (.Name "enumerate" p) [e1] [] pos) (iEnumT K ta):=by
  subst hK
  intro pins s σ H R I h
  refine wpAny_Call_Name_kw (ld_blt I hg hm boot_enum' ?_)
  refine PyProof.Rows.callWith_type1 (thn (ha pos pins s σ H _ I h) fun us s1 ⟨vs,H1,I1,r1,a,xs,e1,qa,q⟩=>?_) hs rfl
  subst e1
  obtain ⟨u,rfl,ru⟩:=r1.one
  cases (show u = Value.ref a from ru)
  obtain ⟨is1,rr1,p1,_⟩:=I1.tuple qa
  have l1 : a < s1.heap.objs.size:=by obtain ⟨o,e,_⟩:=p1; exact Heap.lt_size e
  have sm : ∀ b,s1.heap.objs.size≤b→FpOk X pins H1 b:=fun b hb=>I1.fpOk hb (I1.hok.fresh hb)
  have n1 : s1.heap.objs.size + 1≠s1.heap.objs.size:=by show ¬ ((_ : Nat) = _); omega
  have n2 : a≠s1.heap.objs.size + 1:=Nat.ne_of_lt (Nat.lt_succ_of_lt l1)
  have n3 : a≠s1.heap.objs.size:=Nat.ne_of_lt l1
  have T:=turn_enumT (P:=X.prog) (w:=X.w) (K:=X.K) (elts:=elts) (x1:=x1) (pos:=tp) n1 n2 n3
  have hsz : (s1.heap.push { cls:=.type "tuple_iterator",data:=.fields #[.ref a,.int 0 0] }).objs.size = s1.heap.objs.size + 1:=Heap.size_push _ _
  have c1 : IsEnum ((s1.heap.push { cls:=.type "tuple_iterator",data:=.fields #[.ref a,.int 0 0] }).push { cls:=.type "enumerate",data:=.fields #[.none,.bool false,.ref s1.heap.objs.size,rawInt 0,.none,.none] }) (s1.heap.objs.size + 1) s1.heap.objs.size 0 .none:=by
    show Heap.get? _ _ = _
    rw [← hsz]; exact Heap.get?_push_size _ rfl
  have c2 : ((s1.heap.push { cls:=.type "tuple_iterator",data:=.fields #[.ref a,.int 0 0] }).push { cls:=.type "enumerate",data:=.fields #[.none,.bool false,.ref s1.heap.objs.size,rawInt 0,.none,.none] }).IsTupleIter s1.heap.objs.size a 0:=⟨_,Heap.get?_push_of_some _ (Heap.get?_push_size _ rfl),rfl,rfl⟩
  refine callType_newIn F.called_enumerate rfl (by first | rfl | decide) (F.newCall_enumerate_1 _) (fun obj=>by first | rfl | decide) F.entry_enumerate_new (meets_enumT a is1.toArray) ⟨p1,⟨_,c1,rfl⟩,?_⟩
  refine T.self _ 0 _ _ _ ⟨⟨_,c1⟩,c2⟩ ?_
  refine ⟨_,[s1.heap.objs.size + 1,s1.heap.objs.size],_,_,H1,rfl,I1.kept (t':=s1.toks) (fun b o e=>Heap.get?_push_of_some _ (Heap.get?_push_of_some _ e)),T,⟨⟨_,c1⟩,c2⟩,fun c hc=>?_,q⟩
  simp at hc
  rcases hc with rfl | rfl <;> exact sm _ (by omega)
end
end L2
set_option Elab.async false
set_option linter.all false
set_option maxRecDepth 100000
set_option maxHeartbeats 1000000
namespace L2
open PySem PySem.Spec PyProof.Rows PySem.W
open Classical in
noncomputable def fenA (f : Nat→Int) (p : Nat) : Int:=if h : ∃ q,IsPrev f p q then (Classical.choose h : Nat) else -1
theorem fenA_prev {f : Nat→Int} {p q : Nat} (h : IsPrev f p q) : fenA f p = q:=by
  have hx : ∃ q,IsPrev f p q:=⟨q,h⟩
  unfold fenA
  rw [dif_pos hx,(Classical.choose_spec hx).unique h]
theorem fenA_no {f : Nat→Int} {p : Nat} (h : NoPrev f p) : fenA f p = -1:=by
  unfold fenA
  rw [dif_neg fun ⟨q,hq⟩=>hq.no h]
theorem IsPrev.over {f : Nat→Int} {p q : Nat} (h : IsPrev f p q) : Over f q p:=.inl ⟨h.1,fun r r1 r2=>by
  by_cases z : r = p
  · rw [z]; exact h.2.1
  · have:=h.2.2 r r1 (by omega); have:=h.2.1; omega⟩
theorem IsNext.over {f : Nat→Int} {n p q : Nat} (h : IsNext f n p q) : Over f q p:=.inr ⟨h.1,fun r r1 r2=>by
  by_cases z : r = p
  · rw [z]; exact h.2.2.1
  · have:=h.2.2.2 r (by omega) r2; have:=h.2.2.1; omega⟩
noncomputable def distN (f : Nat→Int) (p : Nat) : Int:=if 0≤fenA f p then (p : Int) - fenA f p else 0
def PairsAt (H : Hp) (l : Addr) (n : Nat) (ps : Nat→Int × Int) : Prop:=∃ qs : List Addr,H l = some (.lst (qs.map V.ref))∧qs.length = n∧∀ (j : Nat) (q : Addr),qs[j]? = some q→H q = some (.tup [.int (ps j).1,.int (ps j).2])
theorem PairsAt.same {H H' : Hp} {l : Addr} {n : Nat} {ps : Nat→Int × Int} (h : PairsAt H l n ps) (s : Same H H') : PairsAt H' l n ps:=by
  obtain ⟨qs,h1,h2,h3⟩:=h
  exact ⟨qs,s _ _ h1,h2,fun j q hq=>s _ _ (h3 j q hq)⟩
theorem PairsAt.push {H : Hp} {l q : Addr} {n : Nat} {ps : Nat→Int × Int} (h : PairsAt H l n ps) (hq : H q = some (.tup [.int (ps n).1,.int (ps n).2])) : ∃ xs : List V,H l = some (.lst xs)∧xs.length = n∧PairsAt (upd H l (.lst (xs ++ [.ref q]))) l (n + 1) ps:=by
  obtain ⟨qs,h1,h2,h3⟩:=h
  have hne : ∀ a o,H a = some (.tup o)→a≠l:=fun a o ha z=>by rw [z,h1] at ha; cases ha
  refine ⟨_,h1,by simp [h2],qs ++ [q],by rw [upd_same]; simp,by simp [h2],fun j a ha=>?_⟩
  by_cases z : j < qs.length
  · rw [List.getElem?_append_left z] at ha
    have:=h3 j a ha
    rw [upd_ne (hne _ _ this)]; exact this
  · have hj:=(List.getElem?_eq_some_iff.mp ha).1
    rw [List.length_append] at hj
    have : j = n:=by simp at hj; omega
    subst this
    rw [List.getElem?_append_right (by omega),h2] at ha
    simp at ha
    rw [← ha,upd_ne (hne _ _ hq)]; exact hq
theorem Spine.mono {f : Nat→Int} {i : Nat} {S : List Nat} (h : Spine f i S) : S.Pairwise (fun a b=>f a≤f b):=by
  refine List.Pairwise.imp_of_mem ?_ h.1
  intro a b ha hb hab
  exact ((h.2 a).mp ha).2 b hab ((h.2 b).mp hb).1
end L2
set_option Elab.async false
set_option linter.all false
set_option maxRecDepth 100000
set_option maxHeartbeats 1000000
namespace L2
open PySem PySem.Spec PyProof.Rows PySem.W
theorem for_it {J : It} {n : Nat} {g : TG} {tb : TS} {D : Ends} {σ : St} {H : Hp} (Pv : Nat→St→Hp→Prop) (h0 : Pv 0 σ H) (hgo : ∀ i σ H,i < n→Pv i σ H→J.go i H) (hstop : ∀ σ H,Pv n σ H→J.stop n H)
    (hs : ∀ i x σ H H',i < n→Pv i σ H→J.yld i H x H'→g x σ H' fun σ2 H2=>tb { D with nx:=Pv (i + 1),ct:=Pv (i + 1),bk:=D.nx } σ2 H2) (hd : ∀ σ H,Pv n σ H→D.nx σ H) : LoopR J g tb D σ H:=by
  refine ⟨fun i m σ H=>m = n - i∧i≤n∧Pv i σ H,⟨n,by simp,Nat.zero_le _,h0⟩,?_⟩
  rintro i m σ H ⟨rfl,hi,p⟩
  by_cases hlt : i < n
  · exact .inr ⟨hgo i σ H hlt p,Pv (i + 1),fun σ' H' p'=>⟨n - (i + 1),by omega,rfl,hlt,p'⟩,fun x H' y=>hs i x σ H H' hlt p y⟩
  · have : i = n:=by omega
    subst this
    exact .inl ⟨hstop σ H p,hd σ H p⟩
end L2
set_option Elab.async false
set_option linter.all false
set_option maxRecDepth 100000
set_option maxHeartbeats 1000000
namespace L2
open PySem PySem.Spec PyProof.Rows PySem.W
section
variable {X : Cx}
def tMaxDT (K : Frag) (ta td : TA) : TE:=fun σ H Q=>ta σ H fun vs H1=>td σ H1 fun zs H2=>∃ (p : Addr) (ns : List Int) (d : Int),vs = [.ref p]∧zs = [.int d]∧SqT K H2 p (ns.map V.int)∧(ns = []→Q (.int d) H2)∧(ns≠[]→∀ m,m ∈ ns→(∀ a ∈ ns,a≤m)→Q (.int m) H2)
end
def rInD (K : Frag) : R2:=fun x y H Q=>∃ (q p : Addr) (as : List Addr) (e : Addr→Bool),x = .ref q∧y = .ref p∧SqL K H p (as.map V.ref)∧(∀ a ∈ as,EqD K H 3 (.ref a) x (e a))∧Q (.bl (as.any e)) H
section
variable {X : Cx}
end
end L2
set_option Elab.async false
set_option linter.all false
set_option maxRecDepth 100000
set_option maxHeartbeats 1000000
namespace L2
open PySem PySem.Spec PyProof.Rows PySem.W
end L2
set_option Elab.async false
set_option linter.all false
set_option maxRecDepth 100000
set_option maxHeartbeats 1000000
namespace PySem
open Sem (wp)
section
variable {prog : Program} {w : World} {A : Around} {E : Value→Shared→Prop} {s : Shared}
end
end PySem
namespace L2
open PySem PySem.Spec PyProof.Rows PySem.W
section
variable {X : Cx}
def rTupR2 : List V→Hp→VK→Prop:=fun xs H Q=>∃ p i j,xs = [.ref p]∧H p = some (.rng i j)∧-(2 ^ 62)≤i∧i < 2 ^ 62∧-(2 ^ 62)≤j∧j < 2 ^ 62∧j - i≤1000∧∀ l,H l = none→Q (.ref l) (upd H l (.tup ((List.range (j - i).toNat).map fun (k : Nat)=>V.int (i + (k : Int)))))
end
end L2
set_option Elab.async false
set_option linter.all false
set_option maxRecDepth 100000
set_option maxHeartbeats 1000000
namespace L2
open PySem PySem.Spec PyProof.Rows PySem.W
def QIt (h : Heap) (i l : Addr) (k : Nat) (xs : Array Value) : Prop:=(h.IsListIter i l k∧h.IsList l xs)∨(h.IsTupleIter i l k∧h.IsTuple l xs)
theorem QIt.ext {h h' : Heap} {i l b : Addr} {k : Nat} {xs : Array Value} (x : QIt h i l k xs) (hs : Heap.ExtBut b h h') (n1 : i≠b) (n2 : l≠b) : QIt h' i l k xs:=by
  rcases x with ⟨p,q⟩ | ⟨p,q⟩
  · exact .inl ⟨p.extBut hs n1,q.extBut hs n2⟩
  · obtain ⟨o,ho,r⟩:=q
    exact .inr ⟨p.extBut hs n1,⟨o,hs _ _ n2 ho,r⟩⟩
theorem QIt.at {h h' : Heap} {i l : Addr} {k : Nat} {xs : Array Value} (x : QIt h i l k xs) (e1 : ∀ o,h.get? i = some o→h'.get? i = some o) (e2 : ∀ o,h.get? l = some o→h'.get? l = some o) : QIt h' i l k xs:=by
  rcases x with ⟨p,⟨o,ho,r⟩⟩ | ⟨⟨o1,p1,r1⟩,⟨o,ho,r⟩⟩
  · exact .inl ⟨p.at e1,⟨o,e2 o ho,r⟩⟩
  · exact .inr ⟨⟨o1,e1 _ p1,r1⟩,⟨o,e2 o ho,r⟩⟩
theorem QIt.obj {h : Heap} {i l : Addr} {k : Nat} {xs : Array Value} (x : QIt h i l k xs) : (∃ o,h.get? i = some o∧∀ v m,o.data≠.seq v m)∧∃ o,h.get? l = some o:=by
  rcases x with ⟨⟨o,p,p1,p2⟩,⟨u,q,_⟩⟩ | ⟨⟨o,p,p1,p2⟩,⟨u,q,_⟩⟩
  · exact ⟨⟨o,p,fun v m z=>by rw [p2] at z; cases z⟩,⟨u,q⟩⟩
  · exact ⟨⟨o,p,fun v m z=>by rw [p2] at z; cases z⟩,⟨u,q⟩⟩
section
variable {prog : Program} {w : World} {A : Around} {E Q : Value→Shared→Prop} {s : Shared} {it l : Addr} {k : Nat} {xs : Array Value}
end
section
variable {prog : Program} {w : World} {A : Around} {E : Value→Shared→Prop} {s : Shared} {z TI TO i1 i2 l1 l2 : Addr} {k1 k2 : Nat} {xs ys : Array Value} {a b : Value}
def SqH (h : Heap) (l : Addr) (xs : Array Value) : Prop:=h.IsList l xs∨h.IsTuple l xs
theorem SqH.push {h : Heap} {l : Addr} {xs : Array Value} (q : SqH h l xs) (o : Obj) : SqH (h.push o) l xs:=by
  rcases q with q | ⟨u,hu,r⟩
  · exact .inl (q.push o)
  · exact .inr ⟨u,Heap.get?_push_of_some _ hu,r⟩
theorem SqH.obj {h : Heap} {l : Addr} {xs : Array Value} (q : SqH h l xs) : ∃ o,h.get? l = some o:=by
  rcases q with ⟨o,ho,_⟩ | ⟨o,ho,_⟩ <;> exact ⟨o,ho⟩
def itName (h : Heap) (l : Addr) : String:=match h.get? l with
  | some o=>if o.cls = .type "tuple" then "tuple_iterator" else "list_iterator"
  | none=>"list_iterator"
abbrev zq1 (h : Heap) (l1 : Addr) : Heap:=h.push { cls:=.type (itName h l1),data:=.fields #[.ref l1,.int 0 0] }
abbrev zq2 (h : Heap) (l1 l2 : Addr) : Heap:=(zq1 h l1).push { cls:=.type (itName (zq1 h l1) l2),data:=.fields #[.ref l2,.int 0 0] }
abbrev zq3 (h : Heap) (l1 l2 : Addr) : Heap:=(zq2 h l1 l2).push { cls:=.type "tuple",data:=.seq #[.ref h.objs.size,.ref (zq1 h l1).objs.size] }
end
section
variable {X : Cx} {pins : List (Addr × Obj)} {σ : St} {H : Hp} {s : Shared}
def SqB (K : Frag) (t : Bool) (H : Hp) (a : Addr) (xs : List V) : Prop:=match t with
  | true=>SqT K H a xs
  | false=>SqL K H a xs
def ItB (t : Bool) (h : Heap) (i a : Addr) (k : Nat) : Prop:=match t with
  | true=>h.IsTupleIter i a k
  | false=>h.IsListIter i a k
theorem SqB.of {K : Frag} {H : Hp} {a : Addr} {xs : List V} (h : SqL K H a xs∨SqT K H a xs) : ∃ t,SqB K t H a xs:=by
  rcases h with h | h
  · exact ⟨false,h⟩
  · exact ⟨true,h⟩
theorem ItB.keep {t : Bool} {h h' : Heap} {i a : Addr} {k : Nat} (q : ItB t h i a k) (e : ∀ o,h.get? i = some o→h'.get? i = some o) : ItB t h' i a k:=by
  cases t
  · obtain ⟨o,ho,r⟩:=q; exact ⟨o,e o ho,r⟩
  · obtain ⟨o,ho,r⟩:=q; exact ⟨o,e o ho,r⟩
theorem ItB.obj {t : Bool} {h : Heap} {i a : Addr} {k : Nat} (q : ItB t h i a k) : ∃ o,h.get? i = some o∧∃ v,o.data = .fields v:=by
  cases t
  · obtain ⟨o,ho,_,d⟩:=q; exact ⟨o,ho,_,d⟩
  · obtain ⟨o,ho,_,d⟩:=q; exact ⟨o,ho,_,d⟩
def Itzq (K : Frag) (t u : Bool) (a b : Addr) : It :=
  ⟨fun i H=>∃ xs ys x y,SqB K t H a xs∧SqB K u H b ys∧xs[i]? = some x∧ys[i]? = some y,
   fun i H v H'=>∃ p x y,H p = none∧v = .ref p∧H' = upd H p (.tup [x,y])∧(∀ xs,SqB K t H a xs→xs[i]? = some x)∧∀ ys,SqB K u H b ys→ys[i]? = some y,
   fun i H=>∃ xs ys,SqB K t H a xs∧SqB K u H b ys∧(xs.length≤i∨ys.length≤i)⟩
def iZipQ (K : Frag) (ta : TA) : TI:=fun σ H R=>ta σ H fun vs H1=>∃ a b t u xs ys,vs = [.ref a,.ref b]∧SqB K t H1 a xs∧SqB K u H1 b ys∧R (Itzq K t u a b) H1
end
end L2
set_option Elab.async false
set_option linter.all false
set_option maxRecDepth 100000
set_option maxHeartbeats 1000000
namespace L2
open PySem PySem.Spec PyProof.Rows PySem.W
theorem cut_m1 (xs : List V) : cutV xs (some (-1)) none = xs.drop (xs.length - 1):=by
  unfold cutV HT.sIx
  cases xs with
  | nil=>simp
  | cons x r =>
    simp
    have e : (-1 + ((r.length : Int) + 1)).toNat = r.length:=by omega
    rw [e]
    exact List.take_of_length_le (by simp)
end L2
namespace L2
open PySem PySem.Spec PyProof.Rows PySem.W
theorem seqIx {a n : Nat} (h : a < n) : seqIndex? (a : Int) n = some a:=by
  unfold seqIndex?
  simp
  omega
end L2
set_option Elab.async false
set_option linter.all false
set_option maxRecDepth 100000
set_option maxHeartbeats 1000000
namespace L2
open PySem PySem.Spec PyProof.Rows PySem.W
theorem map_range_nth {F : Nat→Int} {n k : Nat} (h : k < n) : nth ((List.range n).map F) k = F k:=by simp [nth,List.getD_eq_getElem?_getD,h]
end L2
namespace L2
open PySem PySem.Spec PyProof.Rows PySem.W
end L2
set_option Elab.async false
set_option linter.all false
set_option maxRecDepth 100000
set_option maxHeartbeats 1000000
namespace L2
open PySem PySem.Spec PyProof.Rows PySem.W
def endsIn (T : List Int) : Nat→Int→Prop
  | 0,a=>a = -1
  | k + 1,a=>a = -1∨(0≤a∧a < T.length∧endsIn T k (nth T a.toNat))
theorem endsIn_top (T : List Int) (k : Nat) : endsIn T k (-1):=by cases k <;> simp [endsIn]
theorem endsIn_mono (T : List Int) : ∀ k a,endsIn T k a→endsIn T (k + 1) a
  | 0,a,h=>.inl h
  | k + 1,a,h=>by
    rcases h with h | ⟨h1,h2,h3⟩
    · exact .inl h
    · exact .inr ⟨h1,h2,endsIn_mono T k _ h3⟩
theorem endsIn_le (T : List Int) {k m : Nat} (h : k≤m) {a : Int} (e : endsIn T k a) : endsIn T m a:=by
  induction h with
  | refl=>exact e
  | step _ ih=>exact endsIn_mono T _ _ ih
theorem endsIn_tree {ns T : List Int} (hT : TreeIs ns T) : ∀ d p,p < ns.length→dep (nth ns) ns.length p≤d→endsIn T (d + 1) (p : Int)
  | d,p,hp,hd=>by
    have e:=hT.1
    refine .inr ⟨by omega,by omega,?_⟩
    have ep : ((p : Int)).toNat = p:=by omega
    rw [ep]
    rcases elder_cases hT hp with z | ⟨q,z,hq,_,hz⟩
    · rw [z]; exact endsIn_top T d
    · rw [z]
      cases d with
      | zero=>omega
      | succ d=>exact endsIn_tree hT d q hq (by omega)
theorem endsIn_all {ns T : List Int} (hT : TreeIs ns T) {p : Nat} (hp : p < T.length) : endsIn T T.length (nth T p):=by
  have e:=hT.1
  have h:=endsIn_tree hT (dep (nth ns) ns.length p) p (by omega) (Nat.le_refl _)
  rcases h with h | ⟨_,_,h⟩
  · omega
  · have ep : ((p : Int)).toNat = p:=by omega
    rw [ep] at h
    have:=dep_lt (f:=nth ns) (n:=ns.length) (p:=p) (by omega)
    exact endsIn_le T (by omega) h
end L2
namespace L2
open PySem PySem.Spec PyProof.Rows PySem.W
theorem eqd_nil {K : Frag} {Hx : Hp} {l q : Addr} {L : List Nat} (h1 : Hx l = some (.lst (natsV L))) (h2 : Hx q = some (.lst [])) : EqD K Hx 3 (V.ref l) (V.ref q) (decide (L = [])):=by
  have hh:=eqp_lst (n:=2) (K:=K) (H:=Hx) eqp_int (V.ref l) (V.ref q) (L.map fun (q : Nat)=>(q : Int)) [] (isL_ints (SqL.of (by rw [h1]; simp [natsV,Function.comp_def]))) (isL_ints (ns:=[]) (SqL.of h2))
  have e : decide (L.map (fun (q : Nat)=>(q : Int)) = []) = decide (L = []):=by cases L <;> simp
  rw [e] at hh; exact hh
end L2
namespace L2
open PySem PySem.Spec PyProof.Rows PySem.W
def CDivL (i j : Int) : Prop:=0 < j∧j < 18446744073709551616
theorem op_fdivL {X : Cx} : OpR X (binaryOp .FloorDiv) (rI CDivL fun i j=>.int (i / j)):=opI fun i j _ _ _ _ _ hc q=>by
  have h1 : (0 : Int) < j:=hc.1
  have h2 : j < 18446744073709551616:=hc.2
  refine floordiv_int (by omega) (by rw [Int.fdiv_eq_ediv_of_nonneg i (by omega)]; exact q) (.inl (PyProof.noPylong_of_log2 ?_))
  have h3 : j.natAbs < 2 ^ 64:=by omega
  have : j.natAbs.log2 < 64:=(Nat.log2_lt (by omega)).mpr h3
  omega
end L2
namespace L2
theorem snoc_cases {α : Type} (xs : List α) : xs = []∨∃ ys y,xs = ys ++ [y]:=by
  rcases List.eq_nil_or_concat xs with h | ⟨ys,y,h⟩
  · exact .inl h
  · exact .inr ⟨ys,y,by rw [h,List.concat_eq_append]⟩
end L2
namespace L2
open PySem PySem.Spec PyProof.Rows PySem.W
end L2
set_option Elab.async false
set_option linter.all false
set_option maxRecDepth 100000
set_option maxHeartbeats 1000000
namespace L2
open PySem PySem.Spec PyProof.Rows PySem.W
def sw (d : Int) (k : Nat) : Int:=if d≤k then d else 0
theorem sw_sw {d : Int} {a b : Nat} (h : a≤b) : sw (sw d b) a = sw d a:=by
  unfold sw
  by_cases h1 : d≤b
  · rw [if_pos h1]
  · rw [if_neg h1,if_pos (by omega : (0 : Int)≤a),if_neg (by omega)]
theorem distN_cases (f : Nat→Int) (p : Nat) : (NoPrev f p∧distN f p = 0)∨∃ q,IsPrev f p q∧distN f p = (p : Int) - q:=by
  rcases prev_or f p with h | ⟨q,h⟩
  · exact .inl ⟨h,by unfold distN; rw [fenA_no h,if_neg (by omega)]⟩
  · exact .inr ⟨q,h,by unfold distN; rw [fenA_prev h,if_pos (by omega)]⟩
theorem distN_bounds (f : Nat→Int) (p : Nat) : 0≤distN f p∧distN f p≤p:=by
  rcases distN_cases f p with ⟨_,e⟩ | ⟨q,h,e⟩
  · omega
  · have:=h.1; omega
theorem sw_self (f : Nat→Int) (p : Nat) : sw (distN f p) p = distN f p:=if_pos (distN_bounds f p).2
def KinD (f g : Nat→Int) (m : Nat) : Prop:=∀ i,i < m→distN f i = distN g i
def Mt (f g : Nat→Int) (m p : Nat) : Prop:=∀ i,i < m→distN f i = sw (distN g (p - m + i)) i
theorem Mt.succ {f g : Nat→Int} {m p : Nat} (h : m≤p) : Mt f g (m + 1) (p + 1)↔Mt f g m p∧distN f m = sw (distN g p) m:=by
  constructor
  · intro H
    refine ⟨fun i hi=>?_,?_⟩
    · have:=H i (by omega); rw [show p + 1 - (m + 1) + i = p - m + i by omega] at this; exact this
    · have:=H m (by omega); rw [show p + 1 - (m + 1) + m = p by omega] at this; exact this
  · rintro ⟨H,h2⟩ i hi
    rw [show p + 1 - (m + 1) + i = p - m + i by omega]
    by_cases e : i = m
    · rw [e,show p - m + m = p by omega]; exact h2
    · exact H i (by omega)
theorem Mt.part {f g : Nat→Int} {m c p : Nat} (hm : m≤c) (hc : c≤p) (h : Mt f g c p) : Mt f g m p↔Mt f f m c:=by
  have key : ∀ j,j < m→sw (distN f (c - m + j)) j = sw (distN g (p - m + j)) j:=fun j hj=>by
    have:=h (c - m + j) (by omega)
    rw [this,show p - c + (c - m + j) = p - m + j by omega,sw_sw (by omega)]
  constructor
  · intro H j hj; rw [key j hj]; exact H j hj
  · intro H j hj; rw [← key j hj]; exact H j hj
theorem Mt.zero (f g : Nat→Int) (p : Nat) : Mt f g 0 p:=fun i hi=>absurd hi (by omega)
theorem Mt.self (f : Nat→Int) (m : Nat) : Mt f f m m:=fun i hi=>by rw [Nat.sub_self,Nat.zero_add,sw_self]
def IsBorder (f : Nat→Int) (k m : Nat) : Prop:=m < k∧Mt f f m k∧∀ j,m < j→j < k→¬ Mt f f j k
theorem IsBorder.unique {f : Nat→Int} {k m j : Nat} (h : IsBorder f k m) (h' : IsBorder f k j) : m = j:=by
  rcases Nat.lt_trichotomy m j with z | z | z
  · exact absurd h'.2.1 (h.2.2 j z h'.1)
  · exact z
  · exact absurd h.2.1 (h'.2.2 m z h.1)
def Goes (f : Nat→Int) (n s : Nat) (d : Int) (m : Nat) : Prop:=m≤s∧Mt f f m s∧m < n∧distN f m = sw d m∧∀ j,m < j→j≤s→Mt f f j s→¬ (j < n∧distN f j = sw d j)
def Walk (f : Nat→Int) (n s : Nat) (d : Int) (c : Nat) : Prop:=c≤s∧Mt f f c s∧∀ j,c < j→j≤s→Mt f f j s→¬ (j < n∧distN f j = sw d j)
theorem Walk.start (f : Nat→Int) (n s : Nat) (d : Int) : Walk f n s d s:=⟨Nat.le_refl _,Mt.self f s,fun j h1 h2=>absurd h1 (by omega)⟩
theorem Walk.step {f : Nat→Int} {n s : Nat} {d : Int} {c b : Nat} (h : Walk f n s d c) (no : ¬ (c < n∧distN f c = sw d c)) (hb : IsBorder f c b) : Walk f n s d b:=by
  obtain ⟨h1,h2,h3⟩:=h
  obtain ⟨b1,b2,b3⟩:=hb
  refine ⟨by omega,(Mt.part (by omega) h1 h2).mpr b2,fun j j1 j2 j3=>?_⟩
  rcases Nat.lt_trichotomy j c with z | z | z
  · exact absurd ((Mt.part (by omega) h1 h2).mp j3) (b3 j j1 z)
  · rw [z]; exact no
  · exact h3 j z j2 j3
theorem Walk.goes {f : Nat→Int} {n s : Nat} {d : Int} {c : Nat} (h : Walk f n s d c) (ok : c < n∧distN f c = sw d c) : Goes f n s d c:=⟨h.1,h.2.1,ok.1,ok.2,h.2.2⟩
end L2
namespace L2
open PySem PySem.Spec PyProof.Rows PySem.W
end L2
set_option Elab.async false
set_option linter.all false
set_option maxRecDepth 100000
set_option maxHeartbeats 1000000
namespace L2
open PySem PySem.Spec PyProof.Rows PySem.W
end L2
namespace L2
end L2
set_option Elab.async false
set_option linter.all false
set_option maxRecDepth 100000
set_option maxHeartbeats 1000000
namespace L2
open PySem PySem.Spec PyProof.Rows PySem.W
structure FunD (K : PySem.W.Frag) (x qual : Str) (st : Stmt) (f : Addr) (fd : FuncData) (dV : Value) : Prop where
  ex : ∃ (oc : Value) (od : Option Addr) (kV doc pm : Value) (an : Option Addr) (cdv ct : Value) (osl : Array (Option Value)),
    fd = PySem.W.fnOf x qual (defArgs st) (defBody st) (defScope st) dV kV doc pm an cdv ct∧K.lookup f = some ⟨oc,od,.func fd,osl⟩∧PySem.W.codeIn K cdv qual = true
  kp : PySem.W.keepIn K (.ref f) = true
section
variable {P : Program} {w : World} {K : PySem.W.Frag} {mg : Str→Option Value} {base : Heap}
theorem FunD.okX {x qual : Str} {st : Stmt} {f : Addr} {fd : FuncData} {dV : Value} {N ps : List Str} {k : Nat} {sp : Sp} (F : FunD K x qual st f fd dV) (S : FnScope N ps (defScope st)) (len : ∀ vs H Q E,sp vs H Q E→vs.length = ps.length)
    (hbody : ∀ (cdv : Value) (A : Around) (outer : List Env) (s : Shared) (H : Hp) (vs : List V) (Q : VK) (E : XK),Room k (A.deeper (envOfC qual (defScope st) s.heap.objs.size f cdv))→sp vs H Q E →
      ∃ t,PSs (cxOf (CXE P w) P w K mg base N qual (defScope st) f cdv A outer s H E) (defBody st) t∧t { nx:=fun _ H'=>Q .non H',rt:=Q } (start N vs) H) : FnOk P w K mg base (CXE P w) (k + 1) f fd ps sp:=by
  obtain ⟨oc,od,kV,doc,pm,an,cdv,ct,osl,rfl,lk,hcd⟩:=F.ex
  exact fn_of lk hcd S len fun A outer s H vs Q E hr hsp=>hbody cdv A outer s H vs Q E hr hsp
theorem FunD.binds {x qual : Str} {st : Stmt} {f : Addr} {fd : FuncData} {D : Addr} {ps : List Str} {ds : List Value} {oc : Value} {od : Option Addr} {items : Array Value} {ep : Nat} {sl : Array (Option Value)} (F : FunD K x qual st f fd (.ref D))
    (lk : K.lookup D = some ⟨oc,od,.seq items ep,sl⟩)
    (h : ∀ (kV doc pm : Value) (an : Option Addr) (cdv ct : Value) (us : List Value),(us ++ ds).length = ps.length→∃ k,bindArgs (PySem.W.fnOf x qual (defArgs st) (defBody st) (defScope st) (.ref D) kV doc pm an cdv ct) ⟨us,[]⟩ = seqItems? (.ref D) >>= k∧k (some items) = pure (ps.zip (us ++ ds))) : Binds K fd ps ds:=by
  obtain ⟨oc,od,kV,doc,pm,an,cdv,ct,osl,rfl,lf,hcd⟩:=F.ex
  intro s us KX hl
  obtain ⟨k,h1,h2⟩:=h kV doc pm an cdv ct us hl
  exact BindsTo.of_defaults rfl (KX _ _ lk) rfl h1 h2
theorem fun_mkD {x qual : Str} {st : Stmt} {f : Addr} {oc : Value} {od an : Option Addr} {osl : Array (Option Value)} {dV kV doc pm cdv ct : Value} (l : K.lookup f = some ⟨oc,od,.func (PySem.W.fnOf x qual (defArgs st) (defBody st) (defScope st) dV kV doc pm an cdv ct),osl⟩)
    (c : PySem.W.codeIn K cdv qual = true) (k : PySem.W.keepIn K (.ref f) = true) : FunD K x qual st f (PySem.W.fnOf x qual (defArgs st) (defBody st) (defScope st) dV kV doc pm an cdv ct) dV:=⟨⟨oc,od,kV,doc,pm,an,cdv,ct,osl,rfl,l,c⟩,k⟩
end
def CalleeD (P : Program) (w : World) (K : Frag) (mg : Str→Option Value) (base : Heap) (x : Str) (k : Nat) (ps : List Str) (dvs : List V) (sp : Sp) : Prop :=
  ∃ f fd ds,mg x = some (.ref f)∧keepIn K (.ref f) = true∧Binds K fd ps ds∧Vals dvs ds∧FnOk P w K mg base (CXE P w) k f fd ps sp
theorem pe_callFD {X : Cx} {x : Str} {k : Nat} {ps : List Str} {dvs : List V} {sp : Sp} {E : XK} {e : Expr} {es : List Expr} {t : TA} {p pos : Pos} (C : CalleeD X.prog X.w X.K X.mg X.base x k ps dvs sp) (hr : Room k X.A) (hg : Gl X x) (hx : Passes (CXE X.prog X.w) X E)
    (ha : PA X (e :: es) t) (hdb : (x == ("__debug__" : Str)) = false:=by decide) (he : starEach (e :: es) X.env = (false,eval e X.env) :: starEach es X.env:=by rfl) (hpl : (backTo pos (starEach es X.env)).any (·.1) = false:=by rfl) :
    PE X (.Call (.Name x p) (e :: es) [] pos) (tCall sp dvs E t):=by
  obtain ⟨f,fd,ds,hm,hk,hb,hv,F⟩:=C
  exact pe_call F hr hg hm hk hb hv hx ha hdb he hpl
end L2
namespace L2
open PySem PySem.Spec PyProof.Rows PySem.W
open Classical in
noncomputable def startsTo (f g : Nat→Int) (n p : Nat) : List Nat:=(List.range (p + 1 - n)).filter fun s=>decide (Mt f g n (s + n))
end L2
set_option Elab.async false
set_option linter.all false
set_option maxRecDepth 100000
set_option maxHeartbeats 1000000
namespace L2
open PySem PySem.Spec PyProof.Rows PySem.W
def RA (Z H : Hp) (l : Addr) (as : List Addr) (C : Nat) : Prop:=H l = some (.lst (as.map V.ref))∧l ∉ as∧Z l = none∧∀ a ∈ as,Z a = none∧∃ ns : List Int,H a = some (.lst (ns.map V.int))∧ns.length≤C
theorem RA.exc {Z H H' : Hp} {l p : Addr} {as : List Addr} {C : Nat} (R : RA Z H l as C) (e : Exc p H H') (hp : Z p≠none) : RA Z H' l as C :=
  ⟨e _ _ (fun z=>hp (by rw [← z]; exact R.2.2.1)) R.1,R.2.1,R.2.2.1,fun a ha=>⟨(R.2.2.2 a ha).1,by
    obtain ⟨z,ns,h,hl⟩:=R.2.2.2 a ha
    exact ⟨ns,e _ _ (fun y=>hp (by rw [← y]; exact z)) h,hl⟩⟩⟩
theorem RA.same {Z H H' : Hp} {l : Addr} {as : List Addr} {C : Nat} (R : RA Z H l as C) (s : Same H H') : RA Z H' l as C :=
  ⟨s _ _ R.1,R.2.1,R.2.2.1,fun a ha=>⟨(R.2.2.2 a ha).1,by
    obtain ⟨z,ns,h,hl⟩:=R.2.2.2 a ha
    exact ⟨ns,s _ _ h,hl⟩⟩⟩
theorem RA.mono {Z H : Hp} {l : Addr} {as : List Addr} {C D : Nat} (R : RA Z H l as C) (h : C≤D) : RA Z H l as D :=
  ⟨R.1,R.2.1,R.2.2.1,fun a ha=>⟨(R.2.2.2 a ha).1,by
    obtain ⟨z,ns,e,hl⟩:=R.2.2.2 a ha
    exact ⟨ns,e,by omega⟩⟩⟩
theorem RA.outer {Z H : Hp} {l : Addr} {as bs : List Addr} {C : Nat} (R : RA Z H l as C) (h : ∀ b ∈ bs,b ∈ as) : RA Z (upd H l (.lst (bs.map V.ref))) l bs C :=
  ⟨upd_same,fun z=>R.2.1 (h _ z),R.2.2.1,fun a ha=>⟨(R.2.2.2 a (h a ha)).1,by
    obtain ⟨z,ns,e,hl⟩:=R.2.2.2 a (h a ha)
    exact ⟨ns,by rw [upd_ne (fun y=>R.2.1 (by rw [← y]; exact h a ha))]; exact e,hl⟩⟩⟩
theorem RA.more {Z H : Hp} {l q : Addr} {as bs : List Addr} {C : Nat} {ns : List Int} (R : RA Z H l as C) (h : ∀ b ∈ bs,b ∈ as∨b = q) (hq : H q = some (.lst (ns.map V.int))) (zq : Z q = none) (hl : ns.length≤C) (nq : q≠l) : RA Z (upd H l (.lst (bs.map V.ref))) l bs C :=
  ⟨upd_same,fun z=>(h _ z).elim R.2.1 (fun y=>nq y.symm),R.2.2.1,fun a ha=>by
    rcases h a ha with h1 | rfl
    · obtain ⟨z,ns,e,hl⟩:=R.2.2.2 a h1
      exact ⟨z,ns,by rw [upd_ne (fun y=>R.2.1 (by rw [← y]; exact h1))]; exact e,hl⟩
    · exact ⟨zq,ns,by rw [upd_ne nq]; exact hq,hl⟩⟩
theorem RA.fresh {Z H : Hp} {l q u : Addr} {as bs : List Addr} {C : Nat} {ns : List Int} (R : RA Z H l as C) (h : ∀ b ∈ bs,b ∈ as∨b = q) (hq : H q = some (.lst (ns.map V.int))) (zq : Z q = none) (hl : ns.length≤C) (hu : H u = none) (zu : Z u = none) : RA Z (upd H u (.lst (bs.map V.ref))) u bs C:=by
  have key : ∀ b ∈ bs,b≠u∧Z b = none∧∃ ns : List Int,H b = some (.lst (ns.map V.int))∧ns.length≤C:=fun b hb=>by
    rcases h b hb with h1 | rfl
    · obtain ⟨z,ns,e,hl⟩:=R.2.2.2 b h1
      exact ⟨ne_of_none e hu,z,ns,e,hl⟩
    · exact ⟨ne_of_none hq hu,zq,ns,hq,hl⟩
  exact ⟨upd_same,fun z=>(key u z).1 rfl,zu,fun a ha=>by
    obtain ⟨n,z,ns,e,hl⟩:=key a ha
    exact ⟨z,ns,by rw [upd_ne n]; exact e,hl⟩⟩
theorem RA.at {Z H : Hp} {l : Addr} {as : List Addr} {C i : Nat} (R : RA Z H l as C) (h : i < as.length) : ∃ (a : Addr) (ns : List Int),a ∈ as∧as[i]? = some a∧atI (as.map V.ref) (i : Int) = some (.ref a)∧H a = some (.lst (ns.map V.int))∧ns.length≤C∧Z a = none∧a≠l:=by
  obtain ⟨z,ns,e,hl⟩:=R.2.2.2 as[i] (List.getElem_mem _)
  refine ⟨as[i],ns,List.getElem_mem _,List.getElem?_eq_getElem h,?_,e,hl,z,fun y=>R.2.1 (by rw [← y]; exact List.getElem_mem _)⟩
  rw [atI_at rfl (by simpa using h)]; simp
theorem RA.from {Z H H' : Hp} {l p : Addr} {as : List Addr} {C : Nat} (R : RA H H' l as C) (e : Exc p Z H) (hp : H p≠none) : RA Z H' l as C :=
  ⟨R.1,R.2.1,e.free (fun z=>hp (by rw [← z]; exact R.2.2.1)) R.2.2.1,fun a ha=>⟨e.free (fun z=>hp (by rw [← z]; exact (R.2.2.2 a ha).1)) (R.2.2.2 a ha).1,(R.2.2.2 a ha).2⟩⟩
theorem RowsN.exc {Z H H' : Hp} {l p : Addr} {rs : List (List Int)} (R : RowsN Z H l rs) (e : Exc p H H') (hp : Z p≠none) : RowsN Z H' l rs:=by
  obtain ⟨as,h1,h2,h3,h4,h5,h6⟩:=R
  exact ⟨as,e _ _ (fun z=>hp (by rw [← z]; exact h5)) h1,h2,h3,fun i i1 i2=>e _ _ (fun z=>hp (by rw [← z]; exact h6 _ (List.getElem_mem _))) (h4 i i1 i2),h5,h6⟩
theorem PoolAt.updN {H : Hp} {p q : Addr} {o : HO} (P : PoolAt H p) (h : q≠p) : PoolAt (L2.upd H q o) p:=by
  obtain ⟨x,y,e,z⟩:=P
  exact ⟨x,y,by rw [upd_ne (fun w=>h w.symm)]; exact e,z⟩
theorem IsL.mono {K : Frag} {H H' : Hp} {α : Type} {P P' : V→α→Prop} {v : V} {as : List α} (h : IsL K H P v as) (s : Same H H') (hp : ∀ x y,P x y→P' x y) : IsL K H' P' v as:=by
  obtain ⟨a,xs,e,q,l,r⟩:=h
  exact ⟨a,xs,e,s.seq q,l,fun j x y h1 h2=>hp _ _ (r j x y h1 h2)⟩
theorem IsL2.same {K : Frag} {H H' : Hp} {v : V} {rs : List (List Int)} (h : IsL K H (IsL K H IsI) v rs) (s : Same H H') : IsL K H' (IsL K H' IsI) v rs:=IsL.mono h s fun x y q=>IsL.mono q s fun _ _ z=>z
end L2
set_option Elab.async false
set_option linter.all false
set_option maxRecDepth 100000
set_option maxHeartbeats 1000000
namespace L2
open PySem PySem.Spec PyProof.Rows PySem.W
section
variable {X : Cx}
end
structure KindsOf (K : Frag) (mg : Str→Option Value) (C : Addr) (b : Nat→Bool) : Prop where
  z : ExK K C
  k0 : kitOne K (.ref C) (.ref (clsAt mg "Unlike")) = some (b 0)
  k1 : kitOne K (.ref C) (.ref (clsAt mg "Empty")) = some (b 1)
  k2 : kitOne K (.ref C) (.ref (clsAt mg "TooMany")) = some (b 2)
  k3 : kitOne K (.ref C) (.ref (clsAt mg "NoTree")) = some (b 3)
  k4 : kitOne K (.ref C) (.ref (clsAt mg "NoTelling")) = some (b 4)
  k5 : kitOne K (.ref C) (.ref (clsAt mg "NoPlace")) = some (b 5)
  k6 : kitOne K (.ref C) (.ref (clsAt mg "NoNumber")) = some (b 6)
  k7 : kitOne K (.ref C) (.ref (clsAt mg "NoPast")) = some (b 7)
  k8 : kitOne K (.ref C) (.ref (clsAt mg "NoText")) = some (b 8)
  k9 : kitOne K (.ref C) (.ref (clsAt mg "NoLine")) = some (b 9)
  kd : kitOne K (.ref C) (.ref (clsAt mg "DipError")) = some true
  kv : kitOne K (.ref C) (.type "ValueError") = some true
end L2
set_option Elab.async false
set_option linter.all false
set_option maxRecDepth 100000
set_option maxHeartbeats 1000000
namespace L2
open PySem PySem.Spec PyProof.Rows PySem.W
def TupsAt (H : Hp) (l : Addr) (rs : List (List Int)) : Prop:=∃ as : List Addr,H l = some (.lst (as.map V.ref))∧as.length = rs.length∧∀ i (h1 : i < as.length) (h2 : i < rs.length),H as[i] = some (.tup (rs[i].map V.int))
theorem TupsAt.same {H H' : Hp} {l : Addr} {rs : List (List Int)} (R : TupsAt H l rs) (s : Same H H') : TupsAt H' l rs:=by
  obtain ⟨as,h1,h2,h3⟩:=R
  exact ⟨as,s _ _ h1,h2,fun i i1 i2=>s _ _ (h3 i i1 i2)⟩
theorem TupsAt.nil {H : Hp} {l : Addr} (h : H l = some (.lst [])) : TupsAt H l []:=⟨[],h,rfl,fun i i1=>absurd i1 (by simp)⟩
theorem TupsAt.push {H : Hp} {l t : Addr} {rs : List (List Int)} {r : List Int} {as : List Addr} (e : H l = some (.lst (as.map V.ref))) (hl : as.length = rs.length) (h : ∀ i (h1 : i < as.length) (h2 : i < rs.length),H as[i] = some (.tup (rs[i].map V.int))) (ht : H t = some (.tup (r.map V.int))) :
    TupsAt (upd H l (.lst (as.map V.ref ++ [V.ref t]))) l (rs ++ [r]):=by
  refine ⟨as ++ [t],by rw [upd_same]; simp,by simp [hl],fun i i1 i2=>?_⟩
  have ne : ∀ (a : Addr) (xs : List V),H a = some (.tup xs)→a≠l:=fun a xs h1 z=>by rw [z,e] at h1; cases h1
  by_cases z : i < as.length
  · have h3:=h i z (by omega)
    rw [List.getElem_append_left z,List.getElem_append_left (show i < rs.length by omega),upd_ne (ne _ _ h3)]
    exact h3
  · have e1 : i = as.length:=by simp at i1; omega
    subst e1
    rw [upd_ne (by simpa using ne _ _ ht)]
    simp [hl,ht]
end L2
set_option Elab.async false
set_option linter.all false
set_option maxRecDepth 100000
set_option maxHeartbeats 1000000
namespace L2
open PySem PySem.Spec PyProof.Rows PySem.W
def Once (k : Nat) (ss ls : List Int) : Prop:=ss = ((List.range k).map fun (j : Nat)=>(j : Int)).filter (fun j=>decide (j ∉ ls))∧ls = ((List.range k).map fun (j : Nat)=>(j : Int)).filter (fun j=>decide (j ∈ ls))
instance (k : Nat) (ss ls : List Int) : Decidable (Once k ss ls):=inferInstanceAs (Decidable (_∧_))
theorem TupsAt.walk {K : Frag} {H1 : Hp} {d : Addr} {rs : List (List Int)} (R : TupsAt H1 d rs) : (∀ i H,Same H1 H→i < rs.length→(Itl K d).go i H)∧(∀ H,Same H1 H→(Itl K d).stop rs.length H) ∧
    ∀ i x H H' (h : i < rs.length),Same H1 H→(Itl K d).yld i H x H'→H' = H∧∃ a,x = .ref a∧H a = some (.tup (rs[i].map V.int)):=by
  obtain ⟨as,e,hl,hh⟩:=R
  refine ⟨fun i H s hi=>⟨_,V.ref (as[i]'(by omega)),SqL.of (s _ _ e),by simp [show i < as.length by omega]⟩,fun H s=>⟨_,SqL.of (s _ _ e),by simp [hl]⟩,fun i x H H' hi s y=>?_⟩
  obtain ⟨e1,y⟩:=y
  have h1:=y _ (SqL.of (s _ _ e))
  rw [List.getElem?_map,List.getElem?_eq_getElem (show i < as.length by omega)] at h1
  cases h1
  exact ⟨e1,_,rfl,s _ _ (hh i (by omega) hi)⟩
theorem TupsAt.sq {K : Frag} {H : Hp} {l : Addr} {rs : List (List Int)} (R : TupsAt H l rs) : ∃ xs,SqL K H l xs:=by
  obtain ⟨as,e,_⟩:=R
  exact ⟨_,SqL.of e⟩
theorem eqd_empty {K : Frag} {H : Hp} {n : Nat} {a c : Addr} {xs : List V} (h1 : H a = some (.lst xs)) (h2 : H c = some (.lst [])) : EqD K H (n + 1) (.ref a) (.ref c) (decide (xs = [])):=by
  cases xs with
  | nil =>
    have:=EqD.lst (K:=K) (H:=H) (n:=n) (fun _=>true) (SqL.of h1) (SqL.of h2) rfl fun j x y e1 e2=>by simp at e1
    simpa using this
  | cons x xs =>
    have:=EqD.len (K:=K) (H:=H) (n:=n) (SqL.of h1) (SqL.of h2) (by simp)
    simpa using this
end L2
set_option Elab.async false
set_option linter.all false
set_option maxRecDepth 100000
set_option maxHeartbeats 1000000
namespace L2
open PySem PySem.Spec PyProof.Rows PySem.W
theorem KinD.trans {f g h : Nat→Int} {n : Nat} (a : KinD f g n) (b : KinD g h n) : KinD f h n:=fun i hi=>(a i hi).trans (b i hi)
section
variable {X : Cx}
end
end L2
set_option Elab.async false
set_option linter.all false
set_option maxRecDepth 100000
set_option maxHeartbeats 1000000
namespace L2
open PySem PySem.Spec PyProof.Rows PySem.W
section
variable {N : Nat} {k : Nat→Int} {cmp : Nat→Nat→(Bool→Shared→Prop)→Shared→Prop} {s : Shared} {p : Array Nat}
def kk (k : Nat→Int) (p : Array Nat) (i : Nat) : Int:=k (p.getD i 0)
def SoT (k : Nat→Int) (p : Array Nat) (m : Nat) : Prop:=∀ i j,i≤j→j < m→kk k p i≤kk k p j
def DeT (k : Nat→Int) (p : Array Nat) (m : Nat) : Prop:=∀ i j,i≤j→j < m→kk k p j≤kk k p i
def Bd (N : Nat) (p : Array Nat) : Prop:=p.Perm (List.range N).toArray
theorem Bd.size (h : Bd N p) : p.size = N:=by
  have:=(Array.perm_iff_toList_perm.mp h).length_eq
  simpa using this
theorem Bd.lt (h : Bd N p) (hN : 0 < N) (i : Nat) : p.getD i 0 < N:=by
  rw [Array.getD_eq_getD_getElem?]
  by_cases hi : i < p.size
  · rw [getElem?_pos p i hi]
    have:=(Array.Perm.mem_iff h (a:=p[i])).mp (Array.getElem_mem hi)
    simpa using this
  · rw [getElem?_neg p i hi]; exact hN
theorem SoT.next {m : Nat} (h : SoT k p m) (h1 : 1≤m) (h2 : kk k p (m - 1)≤kk k p m) : SoT k p (m + 1):=by
  intro i j hij hj
  by_cases e : j = m
  · subst e
    by_cases e2 : i = j
    · rw [e2]; exact Int.le_refl _
    · exact Int.le_trans (h i (j - 1) (by omega) (by omega)) h2
  · exact h i j hij (by omega)
theorem DeT.next {m : Nat} (h : DeT k p m) (h1 : 1≤m) (h2 : kk k p m≤kk k p (m - 1)) : DeT k p (m + 1):=by
  intro i j hij hj
  by_cases e : j = m
  · subst e
    by_cases e2 : i = j
    · rw [e2]; exact Int.le_refl _
    · exact Int.le_trans h2 (h i (j - 1) (by omega) (by omega))
  · exact h i j hij (by omega)
end
end L2
set_option Elab.async false
set_option linter.all false
set_option maxRecDepth 100000
set_option maxHeartbeats 1000000
namespace L2
open PySem PySem.Spec PyProof.Rows PySem.W
section
variable {prog : Program} {w : World} {E : Value→Shared→Prop} {s : Shared}
def Pr (h : Heap) (v : Value) (x y : Int) : Prop:=∃ a o n t u,v = .ref a∧h.get? a = some o∧o.cls = .type "tuple"∧o.data = .seq #[.int x t,.int y u] n
theorem Pr.keep {h h' : Heap} {v : Value} {x y : Int} (p : Pr h v x y) (k : ∀ b o,h.get? b = some o→h'.get? b = some o) : Pr h' v x y:=by
  obtain ⟨a,o,n,t,u,e,g,r⟩:=p
  exact ⟨a,o,n,t,u,e,k _ _ g,r⟩
end
section
variable {X : Cx}
def pairK (r : List Int) : Int:=r.getD 0 0 * 100000 + r.getD 1 0
def rSortT (K : Frag) : List V→Hp→VK→Prop:=fun xs H Q=>∃ (p : Addr) (rs : List (List Int)),xs = [.ref p]∧TupsAt H p rs∧(∀ r ∈ rs,∃ x y,r = [x,y]∧0≤y∧y < 100000)∧rs.length < 64∧∀ (rs' : List (List Int)) (l : Addr) (H' : Hp),rs'.Perm rs→rs'.Pairwise (fun r r'=>pairK r≤pairK r')→H l = none→Same H H'→TupsAt H' l rs'→Q (.ref l) H'
end
end L2
set_option Elab.async false
set_option linter.all false
set_option maxRecDepth 100000
set_option maxHeartbeats 1000000
namespace L2
open PySem PySem.Spec PyProof.Rows PySem.W
theorem spine_congr {f g : Nat→Int} {i : Nat} {S : List Nat} (h : ∀ q,q < i→f q = g q) (hs : Spine f i S) : Spine g i S:=by
  refine ⟨hs.1,fun q=>(hs.2 q).trans ⟨fun ⟨h1,h2⟩=>⟨h1,fun r r1 r2=>by rw [← h q h1,← h r r2]; exact h2 r r1 r2⟩,fun ⟨h1,h2⟩=>⟨h1,fun r r1 r2=>by rw [h q h1,h r r2]; exact h2 r r1 r2⟩⟩⟩
theorem elder_congr {f g : Nat→Int} {i p : Nat} {e : Int} (h : ∀ q,q < i→f q = g q) (hp : p < i) (he : ElderIs f i p e) : ElderIs g i p e:=by
  have c1 : NoPrev f p→NoPrev g p:=fun z q hq=>by rw [← h p hp,← h q (by omega)]; exact z q hq
  have c2 : NoNext f i p→NoNext g i p:=fun z r r1 r2=>by rw [← h p hp,← h r r2]; exact z r r1 r2
  have c3 : ∀ q,IsPrev f p q→IsPrev g p q:=fun q ⟨z1,z2,z3⟩=>⟨z1,by rw [← h p hp,← h q (by omega)]; exact z2,fun r r1 r2=>by rw [← h p hp,← h r (by omega)]; exact z3 r r1 r2⟩
  have c4 : ∀ r,IsNext f i p r→IsNext g i p r:=fun r ⟨z1,z2,z3,z4⟩=>⟨z1,z2,by rw [← h p hp,← h r z2]; exact z3,fun s s1 s2=>by rw [← h p hp,← h s (by omega)]; exact z4 s s1 s2⟩
  rcases he with ⟨a,b,c⟩ | ⟨q,a,b,c⟩ | ⟨r,a,b,c⟩ | ⟨q,r,a,b,c⟩
  · exact .inl ⟨c1 a,c2 b,c⟩
  · exact .inr (.inl ⟨q,c3 q a,c2 b,c⟩)
  · exact .inr (.inr (.inl ⟨r,c1 a,c4 r b,c⟩))
  · exact .inr (.inr (.inr ⟨q,r,c3 q a,c4 r b,by rw [← h q (Nat.lt_trans a.1 hp),← h r b.2.1]; exact c⟩))
def Hung (n i : Nat) (S : List Nat) (es : List Int) : Prop:=∃ f : Nat→Int,Spine f i S∧S.Pairwise (fun q r=>f q + 2 ^ (n - i)≤f r)∧∀ p,p < i→ElderIs f i p (es.getD p 0)
theorem Hung.lt {n i : Nat} {S : List Nat} {es : List Int} (h : Hung n i S es) : ∀ q ∈ S,q < i:=by
  obtain ⟨f,hS,_⟩:=h
  exact fun q hq=>((hS.2 q).mp hq).1
theorem Hung.len {n i : Nat} {S : List Nat} {es : List Int} (h : Hung n i S es) : S.length≤i:=by
  have hl:=h.lt
  obtain ⟨f,hS,_⟩:=h
  rcases pw_len S i 0 hS.1 (fun q hq=>⟨Nat.zero_le _,hl q hq⟩) with z | z
  · omega
  · rw [z]; simp
theorem Hung.step {n i : Nat} {A B : List Nat} {es : List Int} (h : Hung n i (A ++ B) es) (hi : i < n) (hl : es.length = n) (he : es.getD i 0 = -1) : Hung n (i + 1) (A ++ [i]) (setE es A B i):=by
  have hlt:=h.lt
  obtain ⟨f,hS,hg,hE⟩:=h
  have eD : (2 : Int) ^ (n - i) = 2 * 2 ^ (n - (i + 1)):=by
    rw [show n - i = n - (i + 1) + 1 by omega,Int.pow_succ,Int.mul_comm]
  have pD : (0 : Int) < 2 ^ (n - (i + 1)):=Int.pow_pos (by decide)
  rw [eD] at hg
  generalize hDD : (2 : Int) ^ (n - (i + 1)) = D at hg pD
  have hgA:=(List.pairwise_append.mp hg).1
  have hgB:=(List.pairwise_append.mp hg).2.1
  have hgX:=(List.pairwise_append.mp hg).2.2
  obtain ⟨v,vA,vB⟩ : ∃ v : Int,(∀ q ∈ A,f q + D≤v)∧∀ q ∈ B,v < f q:=by
    cases B with
    | cons b Br =>
      refine ⟨f b - D,fun q hq=>?_,fun q hq=>?_⟩
      · have:=hgX q hq b (by simp); omega
      · rcases List.mem_cons.mp hq with rfl | hq
        · omega
        · have:=(List.pairwise_cons.mp hgB).1 q hq; omega
    | nil =>
      rcases snoc_cases A with rfl | ⟨A',a,rfl⟩
      · exact ⟨0,(fun q hq=>by cases hq),fun q hq=>by cases hq⟩
      · refine ⟨f a + D,fun q hq=>?_,fun q hq=>by cases hq⟩
        rcases List.mem_append.mp hq with hq | hq
        · have:=(List.pairwise_append.mp hgA).2.2 q hq a (by simp); omega
        · rw [List.mem_singleton.mp hq]; omega
  have hag : ∀ q,q < i→f q = (if q = i then v else f q):=fun q hq=>by rw [if_neg (by omega)]
  have gi : (fun q=>if q = i then v else f q) i = v:=if_pos rfl
  have gq : ∀ q,q < i→(fun q=>if q = i then v else f q) q = f q:=fun q hq=>if_neg (by omega)
  generalize (fun q=>if q = i then v else f q) = g at gi gq
  have hag : ∀ q,q < i→f q = g q:=fun q hq=>(gq q hq).symm
  have lA : ∀ q ∈ A,q < i:=fun q hq=>hlt q (List.mem_append_left _ hq)
  have lB : ∀ q ∈ B,q < i:=fun q hq=>hlt q (List.mem_append_right _ hq)
  have SS:=spine_step (f:=g) (i:=i) (A:=A) (B:=B) (spine_congr hag hS) (fun q hq=>by rw [gi,gq q (lA q hq)]; have:=vA q hq; omega) (fun q hq=>by rw [gi,gq q (lB q hq)]; exact vB q hq)
  refine ⟨g,SS.1,?_,fun p hp=>?_⟩
  · rw [hDD]
    refine List.pairwise_append.mpr ⟨?_,List.pairwise_singleton _ _,fun q hq r hr=>?_⟩
    · refine hgA.imp_of_mem fun {q r} hq hr z=>?_
      rw [gq q (lA q hq),gq r (lA r hr)]; omega
    · rw [List.mem_singleton.mp hr,gi,gq q (lA q hq)]; exact vA q hq
  · have hbi : ∀ b,B.head? = some b→b≠i:=fun b hb=>by
      have:=lB b (List.mem_of_head? hb); omega
    rw [setE_at _ _ _ _ _ (by omega) hbi]
    by_cases z : p = i
    · subst z
      rw [if_pos rfl,he]; exact SS.2.1
    · rw [if_neg z]
      exact SS.2.2 p _ (by omega) (elder_congr hag (by omega) (hE p (by omega)))
theorem Hung.tree {n : Nat} {S : List Nat} {es : List Int} (h : Hung n n S es) (hl : es.length = n) : ∃ ns,TreeIs ns es:=by
  obtain ⟨f,_,_,hE⟩:=h
  refine ⟨(List.range n).map f,by simp [hl],fun p hp=>?_⟩
  have hp : p < n:=by simpa using hp
  have:=hE p hp
  rw [show ((List.range n).map f).length = n by simp]
  exact elder_congr (f:=f) (fun q hq=>(map_range_nth hq).symm) hp this
end L2
namespace L2
open PySem PySem.Spec PyProof.Rows PySem.W
section
variable {X : Cx}
end
end L2
namespace L2
open PySem PySem.Spec PyProof.Rows PySem.W
theorem TupsAt.keep {H H' : Hp} {l : Addr} {rs : List (List Int)} (R : TupsAt H l rs) (h1 : ∀ xs,H l = some (.lst xs)→H' l = some (.lst xs)) (h2 : ∀ a xs,H a = some (.tup xs)→H' a = some (.tup xs)) : TupsAt H' l rs:=by
  obtain ⟨as,e,hl,h⟩:=R
  exact ⟨as,h1 _ e,hl,fun i i1 i2=>h2 _ _ (h i i1 i2)⟩
theorem TupsAt.exc {H H' : Hp} {l p : Addr} {rs : List (List Int)} (R : TupsAt H l rs) (e : Exc p H H') (P : PoolAt H p) (n : l≠p) : TupsAt H' l rs:=by
  obtain ⟨x,y,hp,_⟩:=P
  exact R.keep (fun xs h=>e _ _ n h) fun a xs h=>e _ _ (fun z=>by rw [z,hp] at h; cases h) h
end L2
set_option Elab.async false
set_option linter.all false
set_option maxRecDepth 100000
set_option maxHeartbeats 1000000
namespace L2
open PySem PySem.Spec PyProof.Rows PySem.W
theorem way_split {ns T : List Int} (hT : TreeIs ns T) : ∀ k p o,p < ns.length→(way T p).length = k→o ∈ way T p→∃ X,way T p = X ++ o :: way T o:=by
  intro k
  induction k with
  | zero =>
    intro p o hp hk ho
    rw [List.length_eq_zero_iff.mp hk] at ho
    cases ho
  | succ k ih =>
    intro p o hp hk ho
    rcases elder_cases hT hp with z | ⟨q,e,hq,_,_⟩
    · rw [way_top z] at ho; cases ho
    · have hw:=way_cons hT hp e
      rw [hw] at ho hk ⊢
      rcases List.mem_cons.mp ho with rfl | ho
      · exact ⟨[],rfl⟩
      · obtain ⟨X,hX⟩:=ih q o hq (by simpa using hk) ho
        exact ⟨q :: X,by rw [hX]; rfl⟩
end L2
set_option Elab.async false
set_option linter.all false
set_option maxRecDepth 100000
set_option maxHeartbeats 1000000
namespace L2
open PySem PySem.Spec PyProof.Rows PySem.W
theorem next_or (f : Nat→Int) (n p : Nat) : NoNext f n p∨∃ r,IsNext f n p r:=by
  by_cases h : ∀ j,j < n - (p + 1)→f p≤f (p + 1 + j)
  · exact .inl fun r h1 h2=>by
      have:=h (r - (p + 1)) (by omega)
      rwa [show p + 1 + (r - (p + 1)) = r by omega] at this
  · obtain ⟨j,hj,h1,h2⟩:=first_not _ h
    refine .inr ⟨p + 1 + j,by omega,by omega,by omega,fun s s1 s2=>?_⟩
    have:=h2 (s - (p + 1)) (by omega)
    rwa [show p + 1 + (s - (p + 1)) = s by omega] at this
end L2
set_option Elab.async false
set_option linter.all false
set_option maxRecDepth 100000
set_option maxHeartbeats 1000000
namespace L2
open PySem PySem.Spec PyProof.Rows PySem.W
section
variable {X : Cx}
end
def rSlU (K : Frag) : V→Option Int→Option Int→Hp→VK→Prop:=fun x lo hi H Q=>∃ a xs,x = .ref a∧SqT K H a xs∧∀ p H',Same H H'→SqT K H' p (cutV xs lo hi)→Q (.ref p) H'
theorem TupsAt.at {K : Frag} {H : Hp} {l : Addr} {rs : List (List Int)} {p : Nat} (R : TupsAt H l rs) (h : p < rs.length) : ∃ xs a,SqL K H l xs∧atI xs (p : Int) = some (V.ref a)∧H a = some (.tup (rs[p].map V.int)):=by
  obtain ⟨as,e,hl,ht⟩:=R
  refine ⟨as.map V.ref,as[p]'(by omega),SqL.of e,?_,ht p (by omega) h⟩
  rw [atI_at rfl (by rw [List.length_map]; omega)]; simp
end L2
set_option Elab.async false
set_option linter.all false
set_option maxRecDepth 100000
set_option maxHeartbeats 1000000
namespace L2
open PySem PySem.Spec PyProof.Rows PySem.W
def NextAt (f : Nat→Int) (p k : Nat) : Prop:=p < k∧f k < f p∧∀ s,p < s→s < k→f p≤f s
open Classical in
noncomputable def dropAt (f : Nat→Int) (k : Nat) : Nat:=(List.range k).countP fun p=>decide (NextAt f p k)
theorem count_mem {B : List Nat} {n : Nat} (hB : B.Nodup) (hlt : ∀ q ∈ B,q < n) : (List.range n).countP (fun p=>decide (p ∈ B)) = B.length:=by
  rw [List.countP_eq_length_filter]
  refine List.Perm.length_eq ((List.perm_ext_iff_of_nodup (List.nodup_range.filter _) hB).mpr fun a=>?_)
  rw [List.mem_filter,List.mem_range,decide_eq_true_iff]
  exact ⟨fun h=>h.2,fun h=>⟨hlt a h,h⟩⟩
theorem spine_drop {f : Nat→Int} {i : Nat} {A B : List Nat} (hs : Spine f i (A ++ B)) (hA : ∀ q ∈ A,f q≤f i) (hB : ∀ q ∈ B,f i < f q) : dropAt f i = B.length:=by
  have hm : ∀ p,NextAt f p i↔p ∈ B:=fun p=>by
    constructor
    · rintro ⟨h1,h2,h3⟩
      rcases List.mem_append.mp ((hs.2 p).mpr ⟨h1,h3⟩) with z | z
      · have:=hA p z; omega
      · exact z
    · intro z
      obtain ⟨h1,h2⟩:=(hs.2 p).mp (List.mem_append_right _ z)
      exact ⟨h1,hB p z,h2⟩
  have nd : B.Nodup:=(List.pairwise_append.mp hs.1).2.1.imp fun h=>Nat.ne_of_lt h
  have hlt : ∀ q ∈ B,q < i:=fun q hq=>((hs.2 q).mp (List.mem_append_right _ hq)).1
  unfold dropAt
  rw [← count_mem nd hlt]
  refine List.countP_congr fun p _=>?_
  simp [hm p]
theorem dropAt_congr {f g : Nat→Int} {k : Nat} (h : ∀ q,q≤k→f q = g q) : dropAt f k = dropAt g k:=by
  unfold dropAt
  refine List.countP_congr fun p hp=>?_
  have hp:=List.mem_range.mp hp
  simp only [decide_eq_true_eq]
  constructor
  · rintro ⟨a,b,c⟩
    exact ⟨a,by rw [← h k (Nat.le_refl _),← h p (by omega)]; exact b,fun s s1 s2=>by rw [← h p (by omega),← h s (by omega)]; exact c s s1 s2⟩
  · rintro ⟨a,b,c⟩
    exact ⟨a,by rw [h k (Nat.le_refl _),h p (by omega)]; exact b,fun s s1 s2=>by rw [h p (by omega),h s (by omega)]; exact c s s1 s2⟩
def HungD (n i : Nat) (S : List Nat) (es : List Int) (ds : List Nat) : Prop:=∃ f : Nat→Int,Spine f i S∧S.Pairwise (fun q r=>f q + 2 ^ (n - i)≤f r)∧(∀ p,p < i→ElderIs f i p (es.getD p 0))∧∀ k,k < i→dropAt f k = ds.getD k 0
theorem HungD.lt {n i : Nat} {S ds : List Nat} {es : List Int} (h : HungD n i S es ds) : ∀ q ∈ S,q < i:=by
  obtain ⟨f,hS,_⟩:=h
  exact fun q hq=>((hS.2 q).mp hq).1
theorem HungD.step {n i : Nat} {A B ds : List Nat} {es : List Int} (h : HungD n i (A ++ B) es ds) (hi : i < n) (hl : es.length = n) (he : es.getD i 0 = -1) (hd : ds.getD i 0 = B.length) : HungD n (i + 1) (A ++ [i]) (setE es A B i) ds:=by
  have hlt:=h.lt
  obtain ⟨f,hS,hg,hE,hD⟩:=h
  have eD : (2 : Int) ^ (n - i) = 2 * 2 ^ (n - (i + 1)):=by
    rw [show n - i = n - (i + 1) + 1 by omega,Int.pow_succ,Int.mul_comm]
  have pD : (0 : Int) < 2 ^ (n - (i + 1)):=Int.pow_pos (by decide)
  rw [eD] at hg
  generalize hDD : (2 : Int) ^ (n - (i + 1)) = D at hg pD
  have hgA:=(List.pairwise_append.mp hg).1
  have hgB:=(List.pairwise_append.mp hg).2.1
  have hgX:=(List.pairwise_append.mp hg).2.2
  obtain ⟨v,vA,vB⟩ : ∃ v : Int,(∀ q ∈ A,f q + D≤v)∧∀ q ∈ B,v < f q:=by
    cases B with
    | cons b Br =>
      refine ⟨f b - D,fun q hq=>?_,fun q hq=>?_⟩
      · have:=hgX q hq b (by simp); omega
      · rcases List.mem_cons.mp hq with rfl | hq
        · omega
        · have:=(List.pairwise_cons.mp hgB).1 q hq; omega
    | nil =>
      rcases snoc_cases A with rfl | ⟨A',a,rfl⟩
      · exact ⟨0,(fun q hq=>by cases hq),fun q hq=>by cases hq⟩
      · refine ⟨f a + D,fun q hq=>?_,fun q hq=>by cases hq⟩
        rcases List.mem_append.mp hq with hq | hq
        · have:=(List.pairwise_append.mp hgA).2.2 q hq a (by simp); omega
        · rw [List.mem_singleton.mp hq]; omega
  have gi : (fun q=>if q = i then v else f q) i = v:=if_pos rfl
  have gq : ∀ q,q < i→(fun q=>if q = i then v else f q) q = f q:=fun q hq=>if_neg (by omega)
  generalize (fun q=>if q = i then v else f q) = g at gi gq
  have hag : ∀ q,q < i→f q = g q:=fun q hq=>(gq q hq).symm
  have lA : ∀ q ∈ A,q < i:=fun q hq=>hlt q (List.mem_append_left _ hq)
  have lB : ∀ q ∈ B,q < i:=fun q hq=>hlt q (List.mem_append_right _ hq)
  have sA : ∀ q ∈ A,g q≤g i:=fun q hq=>by rw [gi,gq q (lA q hq)]; have:=vA q hq; omega
  have sB : ∀ q ∈ B,g i < g q:=fun q hq=>by rw [gi,gq q (lB q hq)]; exact vB q hq
  have SS:=spine_step (f:=g) (i:=i) (A:=A) (B:=B) (spine_congr hag hS) sA sB
  refine ⟨g,SS.1,?_,fun p hp=>?_,fun k hk=>?_⟩
  · rw [hDD]
    refine List.pairwise_append.mpr ⟨?_,List.pairwise_singleton _ _,fun q hq r hr=>?_⟩
    · refine hgA.imp_of_mem fun {q r} hq hr z=>?_
      rw [gq q (lA q hq),gq r (lA r hr)]; omega
    · rw [List.mem_singleton.mp hr,gi,gq q (lA q hq)]; exact vA q hq
  · have hbi : ∀ b,B.head? = some b→b≠i:=fun b hb=>by
      have:=lB b (List.mem_of_head? hb); omega
    rw [setE_at _ _ _ _ _ (by omega) hbi]
    by_cases z : p = i
    · subst z
      rw [if_pos rfl,he]; exact SS.2.1
    · rw [if_neg z]
      exact SS.2.2 p _ (by omega) (elder_congr hag (by omega) (hE p (by omega)))
  · by_cases z : k = i
    · subst z
      rw [hd]; exact spine_drop (spine_congr hag hS) sA sB
    · rw [← dropAt_congr (f:=f) (g:=g) (k:=k) (fun q hq=>hag q (by omega))]
      exact hD k (by omega)
end L2
set_option Elab.async false
set_option linter.all false
set_option maxRecDepth 100000
set_option maxHeartbeats 1000000
namespace L2
open PySem PySem.Spec PyProof.Rows PySem.W
end L2
namespace L2
open PySem PySem.Spec PyProof.Rows PySem.W
section
variable {prog : Program} {w : World} {A : Around} {E : Value→Shared→Prop} {s : Shared}
end
def Itrv (lo : Int) (n : Nat) : It:=⟨fun i _=>i < n,fun i H x H'=>H' = H∧x = .int (lo + n - 1 - i),fun i _=>n≤i⟩
section
variable {X : Cx} {tg : Expr}
def iRevR (ta : TA) : TI:=fun σ H R=>ta σ H fun vs H1=>∃ (a : Addr) (lo hi : Int),vs = [.ref a]∧H1 a = some (.rng lo hi)∧-(2 ^ 62)≤lo∧lo < 2 ^ 62∧-(2 ^ 62)≤hi∧hi < 2 ^ 62∧R (Itrv lo (hi - lo).toNat) H1
end
end L2
namespace L2
end L2
set_option Elab.async false
set_option linter.all false
set_option maxRecDepth 100000
set_option maxHeartbeats 1000000
namespace L2
open PySem PySem.Spec PyProof.Rows PySem.W
section
variable {X : Cx}
def rMulS : R2:=fun x y H Q=>∃ (i : Str) (n : Int),x = .str i∧y = .int n∧-1000≤n∧n≤1000∧i.length≤1000∧Q (.str (Txt.mul i n)) H
def rJoin (K : Frag) : V→List V→Hp→VK→Prop:=fun x xs H Q=>∃ (sep : Str) (a : Addr) (ss : List Str),x = .str sep∧xs = [.ref a]∧SqL K H a (ss.map V.str)∧JoinOk sep ss = true∧Q (.str (Txt.join sep ss)) H
def Its (x : Str) : It:=⟨fun i _=>i < x.cps.size,fun i H v H'=>H' = H∧∃ c,x.cps[i]? = some c∧v = .str ⟨#[c]⟩,fun i _=>x.cps.size≤i⟩
def iStr (tl : TE) : TI:=fun σ H R=>tl σ H fun x H1=>∃ y : Str,x = .str y∧y.cps.all (· < 128) = true∧R (Its y) H1
end
end L2
namespace L2
open PySem PySem.Spec PyProof.Rows PySem.W
end L2
namespace L2
open PySem PySem.Spec PyProof.Rows PySem.W
def rSumT (K : Frag) : List V→Hp→VK→Prop:=fun xs H Q=>∃ (p : Addr) (ns : List Int),xs = [.ref p]∧SqT K H p (ns.map V.int)∧Q (.int ns.sum) H
end L2
set_option Elab.async false
set_option linter.all false
set_option maxRecDepth 100000
set_option maxHeartbeats 1000000
namespace L2
open PySem PySem.Spec PyProof.Rows PySem.W
section
variable {X : Cx}
end
end L2
set_option Elab.async false
set_option linter.all false
set_option maxRecDepth 100000
set_option maxHeartbeats 1000000
namespace L2
open PySem PySem.Spec PyProof.Rows PySem.W
section
variable {X : Cx}
def rCountS : V→List V→Hp→VK→Prop:=fun x xs H Q=>∃ a b : Str,x = .str a∧xs = [.str b]∧Q (.int (Txt.count a b)) H
def rRstrip : V→List V→Hp→VK→Prop:=fun x xs H Q=>∃ a b : Str,x = .str a∧xs = [.str b]∧a.length≤sizeLine∧Q (.str (Txt.rstripChars a b)) H
def rLenS : List V→Hp→VK→Prop:=fun xs H Q=>∃ a : Str,xs = [.str a]∧a.length≤sizeLine∧Q (.int (a.length : Nat)) H
end
end L2
set_option Elab.async false
set_option linter.all false
set_option maxRecDepth 100000
set_option maxHeartbeats 1000000
namespace L2
def Ok : Nat→List Nat→Prop
  | _,[]=>True
  | st,d :: ds=>d≤st∧Ok (st - d + 1) ds
end L2
namespace L2
end L2
namespace L2
end L2
namespace L2
open PySem PySem.Spec PyProof.Rows PySem.W
end L2
set_option Elab.async false
set_option linter.all false
set_option maxRecDepth 100000
set_option maxHeartbeats 1000000
namespace L2
open PySem PySem.Spec PyProof.Rows PySem.W
section
variable {X : Cx}
def rRepU : R2:=fun x y H Q=>∃ (a : Addr) (n : Int) (xs : List V),x = .ref a∧y = .int n∧H a = some (.tup xs)∧xs≠[]∧xs.length≤1000∧-1000≤n∧n < 1000∧∀ (p : Addr) H',Same H H'→H' p = some (.tup (List.replicate n.toNat xs).flatten)→Q (.ref p) H'
end
end L2
set_option Elab.async false
set_option linter.all false
set_option maxRecDepth 100000
set_option maxHeartbeats 1000000
namespace L2
end L2
set_option Elab.async false
set_option linter.all false
set_option maxRecDepth 100000
set_option maxHeartbeats 1000000
namespace L2
open PySem PySem.Spec PyProof.Rows PySem.W
end L2
set_option Elab.async false
set_option linter.all false
set_option maxRecDepth 100000
set_option maxHeartbeats 1000000
namespace L2
open PySem PySem.Spec PyProof.Rows PySem.W
section
variable {X : Cx}
def rRemP : V→List V→Hp→VK→Prop:=fun x xs H Q=>∃ a b : Str,x = .str a∧xs = [.str b]∧a.length≤sizeLine∧Q (.str (Txt.removeprefix a b)) H
def rIsAsc : V→List V→Hp→VK→Prop:=fun x xs H Q=>∃ a : Str,x = .str a∧xs = []∧Q (.bl (Txt.isascii a)) H
def rIsDig : V→List V→Hp→VK→Prop:=fun x xs H Q=>∃ a : Str,x = .str a∧xs = []∧Q (.bl (Txt.isdigit a)) H
def rStarts : V→List V→Hp→VK→Prop:=fun x xs H Q=>∃ a b : Str,x = .str a∧xs = [.str b]∧Q (.bl (Txt.startswith a b)) H
def rStrI : List V→Hp→VK→Prop:=fun xs H Q=>∃ i : Int,xs = [.int i]∧i.natAbs.log2 < 1920∧Q (.str (Str.ofString (toString i))) H
def rIntS : List V→Hp→VK→Prop:=fun xs H Q=>∃ (a : Str) (n : Int),xs = [.str a]∧PySem.intText? a = some n∧a.length≤640∧Q (.int n) H
def rSplit : V→List V→Hp→VK→Prop:=fun x xs H Q=>∃ a b : Str,x = .str a∧xs = [.str b]∧(b.length == 0) = false∧a.length≤100000∧∀ p,H p = none→Q (.ref p) (upd H p (.lst ((Txt.split a b).map V.str)))
end
end L2
namespace L2
open PySem PySem.Spec PyProof.Rows PySem.W
abbrev cds (x : Str) : List Nat:=x.cps.toList
def dg (m : Nat) : List Nat:=(Nat.toDigits 10 m).map Char.toNat
def numS (i : Int) : Str:=Str.ofString (toString i)
structure NumFacts (i : Int) : Prop where
  len : (numS i).length≤61
  fig : ∃ m,cds (Txt.removeprefix (numS i) (Str.ofString "-")) = dg m∧(m = 0→i = 0)∧m < 10 ^ 60
  val : PySem.intText? (numS i) = some i
end L2
set_option Elab.async false
set_option linter.all false
set_option maxRecDepth 100000
set_option maxHeartbeats 1000000
namespace L2
open PySem PySem.Spec PyProof.Rows PySem.W
section
variable {X : Cx} {a : Expr} {ta : TE} {pos : Pos}
def tFldC (C : Addr) (ta : TE) (f : Str) : TE:=fun σ H Q=>ta σ H fun x H1=>∃ (o dx : Addr) (fs : List (Str × V)) (v : V),x = .ref o∧H1 o = some (.ins C dx fs)∧fs.lookup f = some v∧Q v H1
def sFldC (C : Addr) (ta tv : TE) (f : Str) : TS:=fun D σ H=>tv σ H fun y H1=>ta σ H1 fun x H2=>∃ (o dx : Addr) (fs : List (Str × V)),x = .ref o∧H2 o = some (.ins C dx fs)∧fs.length < 1000∧D.nx σ (upd H2 o (.ins C dx (putF f y fs)))
end
end L2
set_option Elab.async false
set_option linter.all false
set_option maxRecDepth 100000
set_option maxHeartbeats 1000000
namespace L2
open PySem PySem.Spec PyProof.Rows
section
variable {κ : Type} [DecidableEq κ]
def valV (kvs : List (κ × V)) (k : κ) : Option V:=(kvs.find? fun kv=>decide (kv.1 = k)).map (·.2)
def putK (kvs : List (κ × V)) (k : κ) (v : V) : List (κ × V) :=
  if (kvs.any fun kv=>decide (kv.1 = k)) = true then kvs.map (fun kv=>if kv.1 = k then (kv.1,v) else kv) else kvs ++ [(k,v)]
def dropK (kvs : List (κ × V)) (k : κ) : List (κ × V):=kvs.filter fun kv=>decide (kv.1≠k)
theorem valV_pos {p : κ × V} {r : List (κ × V)} {k : κ} (e : p.1 = k) : valV (p :: r) k = some p.2:=by simp [valV,List.find?_cons,e]
theorem valV_neg {p : κ × V} {r : List (κ × V)} {k : κ} (e : ¬ p.1 = k) : valV (p :: r) k = valV r k:=by simp [valV,List.find?_cons,e]
theorem RelO.getD {o : Option V} {u : Option Value} {d : V} {d' : Value} (r : RelO o u) (rd : RelV d d') : RelV (o.getD d) (u.getD d'):=by
  cases o with
  | none=>cases u with
    | none=>exact rd
    | some _=>exact (show False from r).elim
  | some _=>cases u with
    | none=>exact (show False from r).elim
    | some _=>exact r
theorem KV.val {kvs : List (κ × V)} {vs : List (κ × Value)} (r : KV kvs vs) (k : κ) : RelO (valV kvs k) (valueAt vs k):=by
  unfold KV at r
  induction r with
  | nil=>exact True.intro
  | @cons p q ps qs h t ih =>
    obtain ⟨h1,h2⟩:=h
    by_cases e : p.1 = k
    · have e' : q.1 = k:=h1.symm.trans e
      have b : valueAt (q :: qs) k = some q.2:=by simp [valueAt,List.find?_cons,e']
      rw [valV_pos e,b]; exact h2
    · have e' : ¬ q.1 = k:=fun z=>e (h1.trans z)
      have b : valueAt (q :: qs) k = valueAt qs k:=by simp [valueAt,List.find?_cons,e']
      rw [valV_neg e,b]; exact ih
theorem KV.any {kvs : List (κ × V)} {vs : List (κ × Value)} (r : KV kvs vs) (k : κ) : (kvs.any fun kv=>decide (kv.1 = k)) = vs.any fun kv=>decide (kv.1 = k):=by
  unfold KV at r
  induction r with
  | nil=>rfl
  | cons h t ih=>rw [List.any_cons,List.any_cons,ih,h.1]
theorem KV.drop {kvs : List (κ × V)} {vs : List (κ × Value)} (r : KV kvs vs) (k : κ) : KV (dropK kvs k) (without vs k):=by
  unfold KV at r ⊢
  unfold dropK without
  induction r with
  | nil=>exact .nil
  | @cons p q ps qs h t ih =>
    obtain ⟨h1,h2⟩:=h
    rw [List.filter_cons,List.filter_cons]
    by_cases e : p.1 = k
    · have a : ¬ decide (p.1≠k) = true:=by simp [e]
      have b : ¬ decide (q.1≠k) = true:=by simp [h1.symm.trans e]
      rw [if_neg a,if_neg b]; exact ih
    · have e' : ¬ q.1 = k:=fun z=>e (h1.trans z)
      have a : decide (p.1≠k) = true:=by simp [e]
      have b : decide (q.1≠k) = true:=by simp [e']
      rw [if_pos a,if_pos b]; exact .cons ⟨h1,h2⟩ ih
theorem KV.keys {kvs : List (κ × V)} {vs : List (κ × Value)} (r : KV kvs vs) : kvs.map (·.1) = vs.map (·.1):=by
  unfold KV at r
  induction r with
  | nil=>rfl
  | cons h t ih=>rw [List.map_cons,List.map_cons,ih,h.1]
theorem KV.length {kvs : List (κ × V)} {vs : List (κ × Value)} (r : KV kvs vs) : kvs.length = vs.length:=Paired.length r
end
abbrev KT (H : Hp) : List (List Key × V)→List (List Key × Addr × Value)→Prop:=Paired fun p q=>p.1 = q.1∧H q.2.1 = some (.tup (p.1.map kV))∧RelV p.2 q.2.2
theorem KT.val {H : Hp} {kvs : List (List Key × V)} {xs : List (List Key × Addr × Value)} (r : KT H kvs xs) (k : List Key) : RelO (valV kvs k) ((atKey xs k).map (·.2)):=by
  induction r with
  | nil=>exact True.intro
  | @cons p q ps qs h t ih =>
    obtain ⟨h1,_,h2⟩:=h
    by_cases e : p.1 = k
    · have e' : q.1 = k:=h1.symm.trans e
      have b : atKey (q :: qs) k = some q.2:=by simp [atKey,List.find?_cons,e']
      rw [valV_pos e,b]; exact h2
    · have e' : ¬ q.1 = k:=fun z=>e (h1.trans z)
      have b : atKey (q :: qs) k = atKey qs k:=by simp [atKey,List.find?_cons,e']
      rw [valV_neg e,b]; exact ih
theorem KT.keeps {H H' : Hp} {kvs : List (List Key × V)} {xs : List (List Key × Addr × Value)} (r : KT H kvs xs) (ht : ∀ b ys,H b = some (.tup ys)→H' b = some (.tup ys)) : KT H' kvs xs :=
  Paired.mapP r fun _ _ z=>⟨z.1,ht _ _ z.2.1,z.2.2⟩
section
variable {P : Program} {w : World} {H : Hp} {h : Heap} {a : Addr}
end
def DGet (H : Hp) (a : Addr) (y : V) (r : Option V) : Prop :=
  (∃ kvs k,Rd H a (.dK kvs)∧y = kV k∧r = valV kvs k)∨∃ kvs k b,Rd H a (.dT kvs)∧y = .ref b∧H b = some (.tup (k.map kV))∧r = valV kvs k
def DPut (H : Hp) (a : Addr) (y v : V) (H' : Hp) : Prop :=
  (∃ kvs k,H a = some (.dK kvs)∧y = kV k∧kvs.length < sizeLine∧H' = upd H a (.dK (putK kvs k v))) ∨
  ∃ kvs k b,H a = some (.dT kvs)∧y = .ref b∧H b = some (.tup (k.map kV))∧kvs.length < sizeLine∧H' = upd H a (.dT (putK kvs k v))
theorem DGet.k {H : Hp} {a : Addr} {kvs : List (Key × V)} {k : Key} (e : H a = some (.dK kvs)) : DGet H a (kV k) (valV kvs k):=.inl ⟨kvs,k,.inl e,rfl,rfl⟩
theorem DGet.t {H : Hp} {a b : Addr} {kvs : List (List Key × V)} {k : List Key} (e : H a = some (.dT kvs)) (eb : H b = some (.tup (k.map kV))) : DGet H a (.ref b) (valV kvs k):=.inr ⟨kvs,k,b,.inl e,rfl,eb,rfl⟩
theorem DPut.k {H : Hp} {a : Addr} {kvs : List (Key × V)} {k : Key} {v : V} (e : H a = some (.dK kvs)) (hl : kvs.length < sizeLine) : DPut H a (kV k) v (upd H a (.dK (putK kvs k v))):=.inl ⟨kvs,k,e,rfl,hl,rfl⟩
theorem DPut.t {H : Hp} {a b : Addr} {kvs : List (List Key × V)} {k : List Key} {v : V} (e : H a = some (.dT kvs)) (eb : H b = some (.tup (k.map kV))) (hl : kvs.length < sizeLine) :
    DPut H a (.ref b) v (upd H a (.dT (putK kvs k v))):=.inr ⟨kvs,k,b,e,rfl,eb,hl,rfl⟩
section
variable {X : Cx} {pins : List (Addr × Obj)} {σ : St} {H : Hp} {s : Shared} {a : Addr} {y v : V} {u r : Value} {o : Option V} {A : Around} {E : Value→Shared→Prop}
end
section
variable {X : Cx} {pins : List (Addr × Obj)} {σ : St} {H : Hp} {s : Shared} {a : Addr} {kvs : List (Key × V)} {k : Key} {u : Value} {A : Around} {E : Value→Shared→Prop}
end
def tDGet (td ty : TE) : TE:=fun σ H Q=>td σ H fun x H1=>ty σ H1 fun y H2=>∃ a v,x = .ref a∧DGet H2 a y (some v)∧Q v H2
def tDIn (ty td : TE) : TE:=fun σ H Q=>ty σ H fun y H1=>td σ H1 fun x H2=>∃ a o,x = .ref a∧DGet H2 a y o∧Q (.bl o.isSome) H2
def tDNotIn (ty td : TE) : TE:=fun σ H Q=>ty σ H fun y H1=>td σ H1 fun x H2=>∃ a o,x = .ref a∧DGet H2 a y o∧Q (.bl (!o.isSome)) H2
def sDPut (td ty tv : TE) : TS:=fun D σ H=>tv σ H fun v H1=>td σ H1 fun x H2=>ty σ H2 fun y H3=>∃ a H4,x = .ref a∧DPut H3 a y v H4∧D.nx σ H4
section
variable {X : Cx} {o i e value : Expr} {pos pos' tpos : Pos} {td ty tv : TE}
end
def tDNewK : TE:=fun _ H Q=>∀ p,H p = none→Q (.ref p) (upd H p (.dK []))
def tDNewT : TE:=fun _ H Q=>∀ p,H p = none→Q (.ref p) (upd H p (.dT []))
section
variable {X : Cx} {pos : Pos}
end
structure M1 (X : Cx) (o : Expr) (m : Str) (apos : Pos) (e : Expr) (cpos : Pos) : Prop where
  base : attributeBase o m X.env (eval o X.env) = eval o X.env
  few : ((backTo cpos (starEach [e] X.env)).all (fun x=>!x.1) && (backToKw cpos (keywordEach [] X.env)).all (fun x=>x.1.isSome)
    && decide (([e] : List Expr).length + ([] : List Keyword).length + (if ([] : List Keyword).isEmpty then 0 else 1) < 30)) = true
  line : (apos.endLine == cpos.line) = true
  trees : backTo cpos (starEach [e] X.env) = [(false,eval e X.env)]
structure M2 (X : Cx) (o : Expr) (m : Str) (apos : Pos) (e f : Expr) (cpos : Pos) : Prop where
  base : attributeBase o m X.env (eval o X.env) = eval o X.env
  few : ((backTo cpos (starEach [e,f] X.env)).all (fun x=>!x.1) && (backToKw cpos (keywordEach [] X.env)).all (fun x=>x.1.isSome)
    && decide (([e,f] : List Expr).length + ([] : List Keyword).length + (if ([] : List Keyword).isEmpty then 0 else 1) < 30)) = true
  line : (apos.endLine == cpos.line) = true
  trees : backTo cpos (starEach [e,f] X.env) = [(false,eval e X.env),(false,eval f X.env)]
def IsD (H : Hp) (a : Addr) : Prop:=(∃ kvs,Rd H a (.dK kvs))∨∃ kvs,Rd H a (.dT kvs)
section
variable {X : Cx} {pins : List (Addr × Obj)} {σ : St} {H : Hp} {s : Shared} {a : Addr} {y d : V} {u r : Value} {o : Option V} {A : Around} {E : Value→Shared→Prop}
end
section
variable {X : Cx} {o e f : Expr} {apos cpos : Pos} {td ty tx : TE}
end
section
variable {κ : Type} [DecidableEq κ]
end
end L2
set_option Elab.async false
set_option linter.all false
set_option maxRecDepth 100000
set_option maxHeartbeats 1000000
namespace L2
open PySem PySem.Spec PyProof.Rows PySem.W PySem.Calls
section
variable {X : Cx}
def rSortD : List V→Hp→VK→Prop:=fun xs H Q=>∃ (d : Addr) (kvs : List (Key × V)) (ns : List Int),xs = [.ref d]∧H d = some (.dK kvs)∧kvs.map (·.1) = ns.map Sum.inl∧ns.length < 64 ∧
  ∀ (ns' : List Int) (l : Addr),ns'.Perm ns→ns'.Pairwise (·≤·)→H l = none→Q (.ref l) (upd H l (.lst (ns'.map V.int)))
end
end L2
set_option Elab.async false
set_option linter.all false
set_option maxRecDepth 100000
set_option maxHeartbeats 1000000
namespace L2
open PySem PySem.Spec PyProof.Rows PySem.W
section
variable {X : Cx}
def rCatU : R2:=fun x y H Q=>∃ (a b : Addr) (xs ys : List V),x = .ref a∧y = .ref b∧H a = some (.tup xs)∧H b = some (.tup ys)∧xs.length + ys.length≤sizeLine∧∀ (p : Addr) H',Same H H'→H' p = some (.tup (xs ++ ys))→Q (.ref p) H'
def rSlV : V→Option Int→Option Int→Hp→VK→Prop:=fun x lo hi H Q=>∃ a xs,x = .ref a∧H a = some (.tup xs)∧∀ p H',Same H H'→H' p = some (.tup (cutV xs lo hi))→Q (.ref p) H'
def rCatK (K : Frag) : R2:=fun x y H Q=>∃ (a b : Addr) (xs ys : List V),x = .ref a∧y = .ref b∧SqL K H a xs∧SqL K H b ys∧xs.length + ys.length≤sizeLine∧∀ p,H p = none→Q (.ref p) (upd H p (.lst (xs ++ ys)))
theorem op_catK {K : Frag} (hK : X.K = K) : OpR X (binaryOp .Add) (rCatK K):=by
  subst hK
  intro pins s σ H x y v u Q I rx ry h
  obtain ⟨a,b,xs,ys,rfl,rfl,ha,hb,hz,q⟩:=h
  cases rx
  cases ry
  obtain ⟨its,r1,p1,_⟩:=I.list ha
  obtain ⟨its2,r2,p2,_⟩:=I.list hb
  obtain ⟨⟨c1,d1,x1,l1⟩,e1,k1,n1,y1⟩:=p1.isList
  obtain ⟨⟨c2,d2,x2,l2⟩,e2,k2,n2,y2⟩:=p2.isList
  simp only at k1 y1 k2 y2
  subst k1 y1 k2 y2
  refine concat_meets ⟨_,e1,rfl⟩ ⟨_,e2,rfl⟩ noFill_list_add seq_list_add PySem.F.slot_list_add PySem.F.entry_list_add (PySem.F.args_list_add_2 _ _) (list_addW a b its.toArray its2.toArray n1 n2 d1 d2 l1 l2 (by rw [List.size_toArray,List.size_toArray,← r1.length,← r2.length]; exact hz)) ⟨e1,e2,?_⟩
  have ea : its.toArray ++ its2.toArray = (its ++ its2).toArray:=by simp
  rw [ea]
  exact ⟨.ref _,_,I.lnew (t':=s.toks) (r1.append r2) (by rw [List.length_append]; exact hz),rfl,q _ I.fresh⟩
end
end L2
set_option Elab.async false
set_option linter.all false
set_option maxRecDepth 100000
set_option maxHeartbeats 1000000
namespace L2
open PySem PySem.Spec PyProof.Rows PySem.W
def TrisL (H : Hp) (as : List Addr) (L : List (List V)) : Prop:=as.length = L.length∧∀ i (h1 : i < as.length) (h2 : i < L.length),H as[i] = some (.tup L[i])
theorem TrisL.same {H H' : Hp} {as : List Addr} {L : List (List V)} (h : TrisL H as L) (s : Same H H') : TrisL H' as L:=⟨h.1,fun i i1 i2=>s _ _ (h.2 i i1 i2)⟩
theorem TrisL.nil {H : Hp} : TrisL H [] []:=⟨rfl,fun i h=>absurd h (by simp)⟩
theorem TrisL.push {H : Hp} {as : List Addr} {L : List (List V)} {u : Addr} {r : List V} (h : TrisL H as L) (hu : H u = some (.tup r)) : TrisL H (as ++ [u]) (L ++ [r]):=by
  refine ⟨by simp [h.1],fun i i1 i2=>?_⟩
  have hl:=h.1
  by_cases e : i < as.length
  · rw [List.getElem_append_left e,List.getElem_append_left (by omega)]; exact h.2 i e (by omega)
  · have : i = as.length:=by simp at i1; omega
    subst this
    have e1 : (as ++ [u])[as.length]'i1 = u:=by simp
    have e2 : (L ++ [r])[as.length]'i2 = r:=by simp [hl]
    rw [e1,e2]; exact hu
def TrisAt (H : Hp) (c : Addr) (L : List (List V)) : Prop:=∃ as : List Addr,H c = some (.lst (as.map V.ref))∧TrisL H as L
theorem TrisAt.same {H H' : Hp} {c : Addr} {L : List (List V)} (h : TrisAt H c L) (s : Same H H') : TrisAt H' c L:=by
  obtain ⟨as,h1,h2⟩:=h
  exact ⟨as,s _ _ h1,h2.same s⟩
end L2
set_option Elab.async false
set_option linter.all false
set_option maxRecDepth 100000
set_option maxHeartbeats 1000000
namespace L2
open PySem PySem.Spec PyProof.Rows PySem.W
def ChB (f : Nat→Int) (N p : Nat) : Prop:=NoNext f N p∧f N < f p∧∀ q,IsPrev f p q→f q≤f N
theorem ChB.unique {f : Nat→Int} {N p p' : Nat} (hp : p < N) (hp' : p' < N) (h : ChB f N p) (h' : ChB f N p') : p = p':=by
  have key : ∀ {p p' : Nat},p < p'→p' < N→ChB f N p→ChB f N p'→False:=fun {p p'} hlt hN h h'=>by
    rcases prev_or f p' with z | ⟨q,z⟩
    · have:=z p hlt; have:=h.1 p' hlt hN; omega
    · have h1:=h'.2.2 q z
      have h2:=h.2.1
      rcases Nat.lt_trichotomy q p with w | w | w
      · have:=z.2.2 p w hlt; have:=h.1 p' hlt hN; omega
      · rw [w] at h1; omega
      · have:=h.1 q w (by have:=z.1; omega); omega
  rcases Nat.lt_trichotomy p p' with w | w | w
  · exact (key w hp' h h').elim
  · exact w
  · exact (key w hp h' h).elim
def ChA (f : Nat→Int) (N p : Nat) : Prop:=NoPrev (fun i=>f (i + 1)) p∧f 0≤f (p + 1)∧∀ r,IsNext (fun i=>f (i + 1)) N p r→f (r + 1) < f 0
theorem ChA.unique {f : Nat→Int} {N p p' : Nat} (hp : p < N) (hp' : p' < N) (h : ChA f N p) (h' : ChA f N p') : p = p':=by
  have key : ∀ {p p' : Nat},p < p'→p' < N→ChA f N p→ChA f N p'→False:=fun {p p'} hlt hN h h'=>by
    rcases next_or (fun i=>f (i + 1)) N p with z | ⟨r,z⟩
    · have:=z p' hlt hN; have:=h'.1 p hlt; dsimp only at *; omega
    · have h1:=h.2.2 r z
      have h2:=h'.2.1
      rcases Nat.lt_trichotomy r p' with w | w | w
      · have:=h'.1 r w; dsimp only at *; omega
      · rw [w] at h1; omega
      · have:=z.2.2.2 p' hlt w; have:=h'.1 p hlt; dsimp only at *; omega
  rcases Nat.lt_trichotomy p p' with w | w | w
  · exact (key w hp' h h').elim
  · exact w
  · exact (key w hp h' h).elim
end L2
set_option Elab.async false
set_option linter.all false
set_option maxRecDepth 100000
set_option maxHeartbeats 1000000
namespace L2
open PySem PySem.Spec PyProof.Rows PySem.W
section
variable {X : Cx} {a : Expr} {ta : TE} {pos : Pos}
def tMethX (C : Addr) (m : Str) (sp : Sp) (E : St→XK) (ta : TE) (t : TA) : TE:=fun σ H Q=>ta σ H fun x H1=>∃ a dx fs,x = .ref a∧H1 a = some (.ins C dx fs)∧fs.lookup m = none∧t σ H1 fun vs H2=>sp (x :: vs) H2 Q (E σ)
end
end L2
set_option Elab.async false
set_option linter.all false
set_option maxRecDepth 100000
set_option maxHeartbeats 1000000
namespace L2
open PySem PySem.Spec PyProof.Rows PySem.W
structure Apart3 (z TI TO i j k a b c : Addr) : Prop where
  own : z≠TI∧z≠TO∧z≠i∧z≠j∧z≠k∧TI≠TO∧TI≠i∧TI≠j∧TI≠k∧TO≠i∧TO≠j∧TO≠k∧i≠j∧i≠k∧j≠k
  la : a≠z∧a≠TO∧a≠i∧a≠j∧a≠k
  lb : b≠z∧b≠TO∧b≠i∧b≠j∧b≠k
  lc : c≠z∧c≠TO∧c≠i∧c≠j∧c≠k
section
variable {s : Shared} {prog : Program} {w : World} {A : Around} {E : Value→Shared→Prop}
end
abbrev itO (l : Addr) : Obj:={ cls:=.type "list_iterator",data:=.fields #[.ref l,.int 0 0] }
abbrev zA (h : Heap) (a : Addr) : Heap:=h.push (itO a)
abbrev zB (h : Heap) (a b : Addr) : Heap:=(zA h a).push (itO b)
section
variable {s : Shared} {prog : Program} {w : World} {A : Around} {E : Value→Shared→Prop}
end
def Itz3 (K : Frag) (a b c : Addr) : It :=
  ⟨fun i H=>∃ xs ys us x y u,SqL K H a xs∧SqL K H b ys∧SqL K H c us∧xs[i]? = some x∧ys[i]? = some y∧us[i]? = some u,
   fun i H v H'=>∃ p x y u,H p = none∧v = .ref p∧H' = upd H p (.tup [x,y,u])∧(∀ xs,SqL K H a xs→xs[i]? = some x)∧(∀ ys,SqL K H b ys→ys[i]? = some y)∧∀ us,SqL K H c us→us[i]? = some u,
   fun i H=>∃ xs ys us,SqL K H a xs∧SqL K H b ys∧SqL K H c us∧(xs.length≤i∨ys.length≤i∨us.length≤i)⟩
section
variable {X : Cx}
def iZip3 (K : Frag) (ta : TA) : TI:=fun σ H R=>ta σ H fun vs H1=>∃ a b c xs ys us,vs = [.ref a,.ref b,.ref c]∧SqL K H1 a xs∧SqL K H1 b ys∧SqL K H1 c us∧R (Itz3 K a b c) H1
end
end L2
set_option Elab.async false
set_option linter.all false
set_option maxRecDepth 100000
set_option maxHeartbeats 1000000
namespace L2
open PySem PySem.Spec PyProof.Rows PySem.W
section
variable {X : Cx}
theorem call_max1 (hc : X.calm = true) : CallR X (.builtin "max") (fun xs H Q=>∃ (p : Addr) (ns : List Int),xs = [.ref p]∧SqL X.K H p (ns.map V.int)∧ns≠[]∧∀ m,m ∈ ns→(∀ a ∈ ns,a≤m)→Q (.int m) H):=by
  intro pins s σ H xs us Q I r h
  obtain ⟨p,ns,rfl,hp,hne,q⟩:=h
  obtain ⟨u,rfl,ru⟩:=r.one
  cases (show u = Value.ref p from ru)
  obtain ⟨its,rv,pl,hz⟩:=I.list hp
  obtain ⟨ys,e1,e2⟩:=ints_of rv
  have hsz : 0 < ys.size:=by
    have:=congrArg List.length e2
    rw [List.length_map,Array.length_toList] at this
    cases ns with
    | nil=>exact absurd rfl hne
    | cons=>simp at this; omega
  refine max_intList (xs:=ys) (I.ok.hd hc) (e1 ▸ pl.isList) hsz fun v h' tk hv k=>?_
  obtain ⟨tq,rfl⟩:=intItems_at hv
  obtain ⟨h1,h2⟩:=argBest_gt (numAt ys) (ys.size - 1)
  refine ⟨.int _,H,I.kept k,⟨tq,rfl⟩,q _ ?_ fun a ha=>?_⟩
  · rw [numAt_eq,e2]; exact getD_mem (by rw [← e2,List.length_map,Array.length_toList]; omega)
  · obtain ⟨jq,hj,rfl⟩:=mem_getD ha
    rw [← e2,List.length_map,Array.length_toList] at hj
    rw [← e2,← numAt_eq]; exact h2 jq (by omega)
end
end L2
set_option Elab.async false
set_option linter.all false
set_option maxRecDepth 100000
set_option maxHeartbeats 1000000
namespace L2
open PySem PySem.Spec PyProof.Rows PySem.W
section
variable {prog : Program} {w : World} {A : Around} {E : Value→Shared→Prop} {s : Shared} {z TI TO i1 i2 l1 l2 : Addr} {k1 k2 : Nat} {xs ys : Array Value} {a b : Value}
def IsZipG (h : Heap) (z TI TO : Addr) : Prop:=∃ f0 f1 : Value,(f0 = .none∨∃ T : Nat,f0 = rawInt T)∧h.get? z = some { cls:=.type "zip",dict:=none,data:=.fields #[f0,f1,.bool false,.ref TI,.ref TO],slots:=#[] }
theorem IsZipG.type (hz : IsZipG s.heap z TI TO) : s.TypeIs (.ref z) "zip":=by obtain ⟨f0,f1,_,e⟩:=hz; exact ⟨_,e,rfl⟩
end
section
variable {X : Cx} {pins : List (Addr × Obj)} {σ : St} {H : Hp} {s : Shared}
def Itez (K : Frag) (t u : Bool) (a b : Addr) : It :=
  ⟨fun i H=>∃ xs ys x y,SqB K t H a xs∧SqB K u H b ys∧xs[i]? = some x∧ys[i]? = some y,
   fun i H v H'=>∃ p q x y,H p = none∧H q = none∧q≠p∧v = .ref q∧H' = upd (upd H p (.tup [x,y])) q (.tup [.int (i : Int),.ref p])∧(∀ xs,SqB K t H a xs→xs[i]? = some x)∧∀ ys,SqB K u H b ys→ys[i]? = some y,
   fun i H=>∃ xs ys,SqB K t H a xs∧SqB K u H b ys∧(xs.length≤i∨ys.length≤i)⟩
def iEnumZ (K : Frag) (ta : TA) : TI:=fun σ H R=>ta σ H fun vs H1=>∃ a b t u xs ys,vs = [.ref a,.ref b]∧SqB K t H1 a xs∧SqB K u H1 b ys∧R (Itez K t u a b) H1
end
end L2
set_option Elab.async false
set_option linter.all false
set_option maxRecDepth 100000
set_option maxHeartbeats 1000000
namespace L2
open PySem PySem.Spec PyProof.Rows PySem.W
section
variable {X : Cx}
theorem pe_bmK {K : Frag} {T : String} {id : String} {name : Str} {r : V→List V→Hp→VK→Prop} {o e : Expr} {es : List Expr} {to : TE} {t : TA} {apos cpos : Pos} (hK : X.K = K) (pa : PlainAttrs T) (slot : Slot T name id) (hty : typeOf (.builtin id) = pure (.type "method_descriptor")) (hm : MtM X id r) (ho : PE X o to) (ha : PA X (e :: es) t)
    (hbase : attributeBase o name X.env (eval o X.env) = eval o X.env:=by rfl)
    (hfew : ((backTo cpos (starEach (e :: es) X.env)).all (fun x=>!x.1) && (backToKw cpos (keywordEach [] X.env)).all (fun x=>x.1.isSome)
      && decide ((e :: es).length + ([] : List Keyword).length + (if ([] : List Keyword).isEmpty then 0 else 1) < 30)) = true:=by rfl)
    (hline : (apos.endLine == cpos.line) = true:=by rfl) (hs : starEach (e :: es) X.env = (false,eval e X.env) :: starEach es X.env:=by rfl) (hplain : (backTo cpos (starEach es X.env)).any (·.1) = false:=by rfl) :
    PE X (.Call (.Attribute o name apos) (e :: es) [] cpos) (tBM K T r to t):=by
  subst hK
  exact pe_bm pa slot hty hm ho ha hbase hfew hline hs hplain
end
end L2
set_option Elab.async false
set_option linter.all false
set_option maxRecDepth 100000
set_option maxHeartbeats 1000000
namespace L2
open PySem PySem.Spec PyProof.Rows PySem.W PySem.Calls
def ValsAt (h : Heap) (d : Addr) (vs : List Value) (ep : Nat) : Prop:=∃ (o : Obj) (es : Array DictEntry),h.get? d = some o∧o.cls = .type "dict"∧o.data = .dict es ep∧es.toList.map (·.val) = vs
theorem ValsAt.lt {h : Heap} {d : Addr} {vs : List Value} {ep : Nat} (x : ValsAt h d vs ep) : d < h.objs.size:=let ⟨_,_,a,_⟩:=x; Heap.lt_size a
section
variable {prog : Program} {w : World} {A : Around} {E : Value→Shared→Prop} {s : Shared} {va dd ja : Addr} {vs : List Value} {ep i : Nat}
end
section
variable {prog : Program} {w : World} {K : Type} [DecidableEq K] {knd : HeapKind prog w K} {A : Around} {E : Value→Shared→Prop} {s : Shared} {dd ka : Addr} {k : K} {xs : List (K × Addr × Value)} {df : Value}
end
section
variable {X : Cx} {o e f : Expr} {apos cpos : Pos} {td ty tx : TE}
def tDSetD (td ty tx : TE) : TE:=fun σ H Q=>td σ H fun x H1=>∃ a,x = .ref a∧IsD H1 a∧ty σ H1 fun y H2=>tx σ H2 fun z H3=>∃ kvs k b,H3 a = some (.dT kvs)∧y = .ref b∧H3 b = some (.tup (k.map kV))∧kvs.length < sizeLine ∧
  (∀ v,valV kvs k = some v→Q v H3)∧(valV kvs k = none→Q z (upd H3 a (.dT (kvs ++ [(k,z)]))))
end
section
variable {X : Cx} {o : Expr} {apos cpos : Pos} {td : TE}
def ViewOf (v d : Addr) : Heap→Prop:=fun h=>h.IsValuesView v d
def tDVals (td : TE) : TE:=fun σ H Q=>td σ H fun x H1=>∃ a kvs,x = .ref a∧H1 a = some (.dT kvs)∧∀ v,H1 v = none→Q (.ref v) (upd H1 v (.ext (ViewOf v a)))
def rLVals : List V→Hp→VK→Prop:=fun xs H Q=>∃ (v a : Addr) (kvs : List (List Key × V)),xs = [.ref v]∧H v = some (.ext (ViewOf v a))∧H a = some (.dT kvs)∧∀ l,H l = none→Q (.ref l) (upd H l (.lst (kvs.map (·.2))))
end
def rNInD (K : Frag) : R2:=fun x y H Q=>∃ (q p : Addr) (as : List Addr) (e : Addr→Bool),x = .ref q∧y = .ref p∧SqL K H p (as.map V.ref)∧(∀ a ∈ as,EqD K H 3 (.ref a) x (e a))∧Q (.bl (!as.any e)) H
end L2
set_option Elab.async false
set_option linter.all false
set_option maxRecDepth 100000
set_option maxHeartbeats 1000000
namespace L2
open PySem PySem.Spec PyProof.Rows PySem.W
def cdOf (K : Frag) (f : Addr) : Option Addr:=match K.lookup f with
  | some ⟨_,_,.func fd,_⟩=>(match fd.code with | .ref c=>some c | _=>none)
  | _=>none
def tabOf (K : Frag) (c : Addr) : Addr:=match K.lookup c with
  | some ⟨_,_,.fields vs,_⟩=>(match (vs[11]? : Option Value) with | some (.ref P)=>P | _=>0)
  | _=>0
def tabP (K : Frag) (mg : Str→Option Value) (x : Str) : Addr:=match mg x with
  | some (.ref f)=>(match cdOf K f with | some c=>tabOf K c | none=>0)
  | _=>0
def tabQ (q : Str) : HO:=.tbl #[.str q 0]
def BM (mg : Str→Option Value) (base : Heap) : Prop :=
  ∃ bm o,mg "__builtins__" = some (.ref bm)∧bm≠builtinsNs∧bm≠mainGlobals∧base.get? bm = some o∧o.cls = .type "module"∧o.dict = some builtinsNs∧o.data = .plain
def LamO (env : Env) (P : Addr) (q : Str) (params : Arguments) (body : Expr) (scope : Scope) (H : Hp) (f : Addr) : Prop :=
  ∃ c oc vs t cl pm ctv,H f = some (.frz (kla_obj "<lambda>" q params body scope cl pm c ctv) (.own f))∧H c = some (.frz oc (.own P))∧oc.data = .fields vs∧vs[1]? = some (.str q t) ∧
    (∀ x c,cl.lookup x = some c→env.cells.lookup x = some c)∧(∀ y ∈ scope.names,y.2 = .free→∃ c,cl.lookup y.1 = some c∧env.cells.lookup y.1 = some c)
theorem LamO.same {env : Env} {P : Addr} {q : Str} {params : Arguments} {body : Expr} {scope : Scope} {H H' : Hp} {f : Addr} (h : LamO env P q params body scope H f) (s : Same H H') : LamO env P q params body scope H' f:=by
  obtain ⟨c,oc,vs,t,cl,pm,ctv,e1,e2,r⟩:=h
  exact ⟨c,oc,vs,t,cl,pm,ctv,s _ _ e1,s _ _ e2,r⟩
structure LamIn (X : Cx) (P : Addr) (q : Str) : Prop where
  code : ∃ c,X.env.code = .ref c∧codeHdIn X.K c P = true
  bm : BM X.mg X.base
  ql : X.env.qual ++ "<lambda>" = q
theorem among_snoc {pos : Pos} {a b : Int} {c cv : Value} : ∀ (l : List Value),TriplesOk l→codeAmong pos (l ++ [rawInt a,rawInt b,c]) = some cv→codeAmong pos l = some cv∨cv = c:=by
  intro l h e
  fun_induction TriplesOk l with
  | case1 =>
    simp only [List.nil_append,codeAmong,rawInt] at e
    split at e
    · cases e; exact .inr rfl
    · cases e
  | case2 a' t b' u x rest ih =>
    simp only [List.cons_append,codeAmong] at e ⊢
    split at e
    · rename_i hc; rw [if_pos hc]; exact .inl e
    · rename_i hc; rw [if_neg hc]; exact ih h e
  | case3 l h1 h2=>exact h.elim
section
variable {X : Cx}
theorem Inv.lam {pins : List (Addr × Obj)} {σ : St} {H : Hp} {s : Shared} {h' : Heap} {t' : Nat} {P c f : Addr} {q : Str} {oc fo : Obj} {ts : Array Value} {vs : Array Value} {tq : Tok}
    (I : Inv X pins σ H s) (hP : H P = some (tabQ q)) (k : ∀ b o,b≠P→s.heap.get? b = some o→h'.get? b = some o) (hts : h'.get? P = some (tabObj ts)) (h3 : TriplesOk ts.toList)
    (hc : H c = some (.frz oc (.own P))∨s.heap.objs.size≤c) (hcP : c≠P) (hoc : h'.get? c = some oc) (hd : oc.data = .fields vs) (hv : vs[1]? = some (.str q tq)) (hf : s.heap.objs.size≤f) (hfc : f≠c) (hfo : h'.get? f = some fo)
    (hcodes : ∀ pos cv,codeAmong pos ts.toList = some cv→cv = .ref c∨∃ c2 oc vs t t',cv = .ref c2∧H c2 = some (.frz oc (.own P))∧oc.data = .fields vs∧vs[1]? = some (.str q t)∧t' = (0 : Tok)) :
    Inv X pins σ (upd (upd H c (.frz oc (.own P))) f (.frz fo (.own f))) { s with heap:=h',toks:=t' }:=by
  have hPlt : P < s.heap.objs.size:=I.hok.lt hP
  have hfP : f≠P:=fun z=>by rw [z] at hf; exact absurd (Nat.lt_of_lt_of_le hPlt hf) (Nat.lt_irrefl _)
  have hfn : H f = none:=I.hok.fresh hf
  have up : ∀ b o,H b = some o→upd (upd H c (.frz oc (.own P))) f (.frz fo (.own f)) b = some o:=fun b o e=>by
    have nf : b≠f:=ne_of_none e hfn
    rw [upd_ne nf]
    rcases hc with hc | hc
    · by_cases z : b = c
      · subst z; rw [upd_same,← e,hc]
      · rw [upd_ne z]; exact e
    · rw [upd_ne (ne_of_none e (I.hok.fresh hc))]; exact e
  have un : Un X.fs [] H (upd (upd H c (.frz oc (.own P))) f (.frz fo (.own f))) s.heap h':=by
    have nP : ∀ b,H b = none→b≠P:=fun b n z=>by rw [z,hP] at n; cases n
    refine ⟨fun b o e n _ _=>k b o (nP b n) e,fun b o e n _ _=>⟨o.slots,k b o (nP b n) e⟩,fun b o e n _=>?_,fun b o e _=>?_,fun b xs e=>up _ _ e,fun b o u e=>up _ _ e,fun b ps e=>⟨#[],by rw [up _ _ e]; simp⟩⟩
    · have lt:=Heap.lt_size e
      have nf : b≠f:=fun z=>by rw [z] at lt; exact absurd (Nat.lt_of_lt_of_le lt hf) (Nat.lt_irrefl _)
      have nc : b≠c:=fun z=>by
        rcases hc with hc | hc
        · rw [z,hc] at n; cases n
        · rw [z] at lt; exact absurd (Nat.lt_of_lt_of_le lt hc) (Nat.lt_irrefl _)
      rw [upd_ne nf,upd_ne nc]; exact n
    · by_cases z : b = P
      · subst z; exact ⟨_,hts⟩
      · exact ⟨o,k b o z e⟩
  refine I.un un fun b o e=>?_
  by_cases zf : b = f
  · subst zf
    rw [upd_same] at e; cases e
    exact ⟨hfo,_,hfo⟩
  rw [upd_ne zf] at e
  by_cases zc : b = c
  · subst zc
    rw [upd_same] at e; cases e
    exact ⟨hoc,_,hoc⟩
  rw [upd_ne zc] at e
  by_cases zP : b = P
  · subst zP
    rw [hP] at e; cases e
    refine ⟨ts,hts,h3,fun pos cv hcv=>?_⟩
    rcases hcodes pos cv hcv with rfl | ⟨c2,oc2,vs2,t2,t2',e1,e2,e3,e4,_⟩
    · exact ⟨c,oc,vs,q,0,tq,rfl,by rw [upd_ne (Ne.symm hfc),upd_same],hd,rfl,hv⟩
    · exact ⟨c2,oc2,vs2,q,0,t2,e1,up _ _ e2,e3,rfl,e4⟩
  · refine (I.hok b o e).stay (fun b2 u hb z=>k b2 u ?_ z) (fun b2 z=>up _ _ z) (fun b2 xs z=>up _ _ z) fun b2 o2 u2 z=>up _ _ z
    rcases hb with rfl | hb
    · exact zP
    · intro z; rw [z,hP] at hb; cases hb
def tLam (env : Env) (P : Addr) (q : Str) (params : Arguments) (body : Expr) (scope : Scope) : TE:=fun _ H Q=>H P = some (tabQ q)∧∀ f H',H f = none→Same H H'→LamO env P q params body scope H' f→Q (.ref f) H'
theorem pe_lam {P : Addr} {q : Str} {params : Arguments} {body : Expr} {scope : Scope} {pos : Pos} (L : LamIn X P q) (hok : compOk X.env.scope scope = true) (hdef : defaultsOf params X.env = ([],[]):=by rfl) :
    PE X (.Lambda params body scope pos) (tLam X.env P q params body scope):=by
  intro pins s σ H Q I h
  obtain ⟨hP,h⟩:=h
  obtain ⟨c0,hc0,hcd⟩:=L.code
  have C : CodeHd s.heap c0 P:=codeHd_of_K I.kIn hcd
  obtain ⟨bm,ob,b1,b2,b3,b4,b5,b6,b7⟩:=L.bm
  have hbm:=I.bs bm ob b4
  have bP : bm≠P:=fun z=>by rw [z,hP] at hbm; cases hbm.2
  have gP : mainGlobals≠P:=fun z=>by
    obtain ⟨o,es,ep,e,_⟩:=I.ok.mod.glob
    have:=(I.bs _ _ e).2
    rw [z,hP] at this; cases this
  have hg : s.heap.Ns mainGlobals X.mg:=I.ok.mod.glob.keeps I.bk
  have hb : s.heap.BuiltinsAt X.mg P:=⟨bm,ob,b1,b2,b3,bP,hbm.1,b5,b6,b7⟩
  obtain ⟨ts,hts,h3,hco⟩:=I.hok P _ hP
  obtain ⟨cl,hcl,up,hfr⟩:=closure_of (env:=X.env) (scope:=scope) fun y hy hf=>I.ok.has y.1 ((compOk_free hok y hy hf).elim (fun z=>.inl z) fun z=>.inr z)
  have hco' : ∀ pos cv,codeAmong pos ts.toList = some cv→∃ c2 oc vs t t',cv = .ref c2∧H c2 = some (.frz oc (.own P))∧oc.data = .fields vs∧vs[1]? = some (.str q t)∧t' = (0 : Tok):=fun pos cv e=>by
    obtain ⟨c,oc,vs,q',t,t',e1,e2,e3,e4,e5⟩:=hco pos cv e
    have e4' : some (Value.str q (0 : Tok)) = some (Value.str q' t):=e4
    cases e4'
    exact ⟨c,oc,vs,t',0,e1,e2,e3,e5,rfl⟩
  refine kla_eval hdef ?_
  rw [L.ql]
  cases hca : codeAmong pos ts.toList with
  | some cv =>
    obtain ⟨c,oc,vs,tq,t',rfl,e2,e3,e4,_⟩:=hco' pos cv hca
    refine kla_makeFunctionHit (mg:=X.mg) hcl I.ok.glob hg hc0 C hts h3 hca hb fun ctv h' tk hk hsz=>?_
    have hoc : s.heap.get? c = some oc:=(I.hok c _ e2).1
    have hcP : c≠P:=fun z=>by rw [z,hP] at e2; cases e2
    have lt:=Heap.lt_size hoc
    have kk : ∀ b o,s.heap.get? b = some o→(h'.push { cls:=.type "function",data:=.func (kla_fn "<lambda>" q params body scope cl ((X.mg "__name__").getD .none) (.ref c) ctv) }).get? b = some o:=fun b o e=>Heap.get?_push_of_some _ (hk b o e)
    have J:=I.lam (t':=tk) (f:=h'.objs.size) hP (fun b o _ e=>kk b o e) (kk _ _ hts) h3 (.inl e2) hcP (kk _ _ hoc) e3 e4 hsz (fun z=>by rw [← z] at lt; exact absurd (Nat.lt_of_lt_of_le lt hsz) (Nat.lt_irrefl _)) (Heap.get?_push_size _ rfl) fun p2 cv2 z=>.inr (hco' p2 cv2 z)
    have hfn : H h'.objs.size = none:=I.hok.fresh hsz
    have ne : c≠h'.objs.size:=Nat.ne_of_lt (Nat.lt_of_lt_of_le lt hsz)
    refine ⟨.ref h'.objs.size,_,J,rfl,h _ _ hfn (fun b o e=>?_) ⟨c,oc,vs,tq,cl,_,ctv,upd_same,by rw [upd_ne ne,upd_same],e3,e4,up,hfr⟩⟩
    rw [upd_ne (ne_of_none e hfn)]
    by_cases z : b = c
    · subst z; rw [upd_same,← e,e2]
    · rw [upd_ne z]; exact e
  | none =>
    refine kla_makeFunction (mg:=X.mg) hcl I.ok.glob hg hc0 C hts h3 hca gP hb fun c ctv h' tk hx hge hlt hrec htb=>?_
    obtain ⟨c2,oc,vs,tq,e2,hoc,e3,e4⟩:=hrec
    cases e2
    have hsz : s.heap.objs.size≤h'.objs.size:=Nat.le_trans hge (Nat.le_of_lt hlt)
    have kk : ∀ b o,h'.get? b = some o→(h'.push (kla_obj "<lambda>" q params body scope cl ((X.mg "__name__").getD .none) c ctv)).get? b = some o:=fun b o e=>Heap.get?_push_of_some _ e
    have hPlt : P < s.heap.objs.size:=I.hok.lt hP
    have hcP : c≠P:=fun z=>by rw [z] at hge; exact absurd (Nat.lt_of_lt_of_le hPlt hge) (Nat.lt_irrefl _)
    have tl : (ts ++ #[rawInt pos.line,rawInt pos.col,Value.ref c]).toList = ts.toList ++ [rawInt pos.line,rawInt pos.col,Value.ref c]:=by simp
    have J:=I.lam (t':=tk) (f:=h'.objs.size) (ts:=ts ++ #[rawInt pos.line,rawInt pos.col,.ref c]) hP (fun b o nb e=>kk b o (hx b o nb e)) (kk _ _ htb) (by rw [tl]; exact TriplesOk_snoc _ _ _ _ h3) (.inr hge) hcP (kk _ _ hoc) e3 e4 hsz (Nat.ne_of_gt hlt) (Heap.get?_push_size _ rfl) fun p2 cv2 z=>by
      rw [tl] at z
      rcases among_snoc ts.toList h3 z with y | y
      · exact .inr (hco' p2 cv2 y)
      · exact .inl y
    have hfn : H h'.objs.size = none:=I.hok.fresh hsz
    have hcn : H c = none:=I.hok.fresh hge
    refine ⟨.ref h'.objs.size,_,J,rfl,h _ _ hfn (fun b o e=>?_) ⟨c,oc,vs,tq,cl,_,ctv,upd_same,by rw [upd_ne (Nat.ne_of_lt hlt),upd_same],e3,e4,up,hfr⟩⟩
    rw [upd_ne (ne_of_none e hfn),upd_ne (ne_of_none e hcn)]; exact e
end
end L2
set_option Elab.async false
set_option linter.all false
set_option maxRecDepth 100000
set_option maxHeartbeats 1000000
namespace L2
open PySem PySem.Spec PyProof.Rows PySem.W
def lamCx (X : Cx) (A' : Around) (Nc : List Str) (q : Str) (scope : Scope) (cl : List (Str × Addr)) (L f c : Addr) (s : Shared) (H : Hp) : Cx where
  prog:=X.prog
  w:=X.w
  K:=X.K
  mg:=X.mg
  base:=X.base
  A:=A'.deeper (envX q scope L f (.ref c) cl)
  N:=Nc
  s₀:=s
  H₀:=H
  env:=envX q scope L f (.ref c) cl
  outer:=X.stack
  stack:=envX q scope L f (.ref c) cl :: X.stack
  ex:=[]
  fn:=fun _=>false
  calm:=X.calm
  pn:=[]
  xe:=fun _ _=>False
section
variable {X : Cx}
theorem lam_start {pins : List (Addr × Obj)} {σ : St} {H : Hp} {s : Shared} {A' : Around} {Nc : List Str} {js : List (Option Nat)} {q pn : Str} {scope : Scope} {cl : List (Str × Addr)} {h1 : Heap} {tk : Nat} {f c : Addr} {v : V} {u : Value}
    (I : Inv X pins σ H s) (hA : A'.frames = some X.stack) (hh : X.calm = true→A'.handled = none) (hok : compOk X.env.scope scope = true) (htk : takesC X.N Nc scope js 0 = true) (hp0 : Nc[0]? = some pn) (hj0 : js[0]? = some none) (hpl : scope.names.lookup pn = some .local)
    (up : ∀ x c,cl.lookup x = some c→X.env.cells.lookup x = some c) (hfr : ∀ y ∈ scope.names,y.2 = .free→∃ c,cl.lookup y.1 = some c∧X.env.cells.lookup y.1 = some c)
    (r : RelV v u) (old : ∀ b o,s.heap.get? b = some o→h1.get? b = some o) (hns : h1.Ns s.heap.objs.size fun y=>[(pn,u)].reverse.lookup y) :
    Inv (lamCx X A' Nc q scope cl s.heap.objs.size f c s H) [] ((iniC js σ).set 0 (some v)) H { s with heap:=h1,toks:=tk }:=by
  have noA : ∀ b : Addr,b ∉ (lamCx X A' Nc q scope cl s.heap.objs.size f c s H).ex:=fun b z=>absurd (show b ∈ ([] : List Addr) from z) (by simp)
  have kf : ∀ x,((envX q scope s.heap.objs.size f (.ref c) cl).kindOf x = some .cell∨(envX q scope s.heap.objs.size f (.ref c) cl).kindOf x = some .free)→∃ c,cl.lookup x = some c:=fun x hx=>by
    rcases hx with z | z
    · exact absurd rfl (compOk_cell hok _ (lookup_mem (show scope.names.lookup x = some .cell from z)))
    · obtain ⟨c,q,_⟩:=hfr _ (lookup_mem (show scope.names.lookup x = some .free from z)) rfl
      exact ⟨c,q⟩
  refine ⟨⟨I.ok.mod,compOk_kind hok,rfl,rfl,Nat.le_refl _,fun x y c e1 e2=>I.ok.inj x y c (up _ _ e1) (up _ _ e2),fun x hx=>kf x hx,(fun x c e=>nomatch e),hh,Around.frames_deeper hA,.inr ⟨rfl,rfl⟩,fun b z=>absurd z (noA b),I.bs,Nat.le_trans I.ok.bsz I.sz,fun b _ _=>noA b,fun b z=>absurd z (noA b),I.stack,I.stkFree⟩,
    rfl,I.bare,Un.kept old,⟨_,hns,fun i x v' e1 e2 e3=>?_⟩,fun x c e=>?_,I.hok.fresh (Nat.le_refl _),fun x c e=>I.freeC x c (up _ _ e),fun p hp=>absurd (show p ∈ ([] : List (Addr × Obj)) from hp) (by simp),I.hok.kept old,?_⟩
  · by_cases hi : i = 0
    · subst hi
      have ex : x = pn:=Option.some.inj ((show Nc[0]? = some x from e1).symm.trans hp0)
      subst ex
      have hl : 0 < (iniC js σ).length:=by
        unfold iniC
        rw [List.length_map]
        exact (List.getElem?_eq_some_iff.mp hj0).1
      rw [List.getElem?_set_self hl] at e2
      cases e2
      exact ⟨u,r,.inl ⟨hpl,by simp⟩⟩
    · rw [List.getElem?_set_ne (Ne.symm hi)] at e2
      have e2' : (iniC js σ)[i]? = some (some v'):=e2
      unfold iniC at e2'
      rw [List.getElem?_map] at e2'
      cases hq : js[i]? with
      | none=>rw [hq] at e2'; cases e2'
      | some j0 =>
        cases j0 with
        | none=>rw [hq] at e2'; cases e2'
        | some j =>
          rw [hq] at e2'
          simp only [Option.map_some,Option.some.injEq] at e2'
          have e4 : σ[j]? = some (some v'):=by
            cases z : σ[j]? with
            | none=>rw [z] at e2'; cases e2'
            | some o=>rw [z] at e2'; simp only [Option.join_some] at e2'; rw [e2']
          obtain ⟨y,y1,y2,y3⟩:=takesC_at htk hq
          rw [Nat.zero_add] at y1
          have : x = y:=Option.some.inj ((show Nc[i]? = some x from e1).symm.trans y1)
          subst this
          have hm:=lookup_mem y3
          obtain ⟨c1,h1',h2'⟩:=hfr _ hm rfl
          have hk:=compOk_free hok _ hm rfl
          obtain ⟨m0,hn0,hl0⟩:=I.loc
          obtain ⟨u',r',l⟩:=hl0 j x v' y2 e4 (hk.elim (fun z=>.inr (.inl z)) fun z=>.inr (.inr z))
          refine ⟨u',r',.inr ⟨.inr y3,c1,h1',?_⟩⟩
          rcases l with ⟨lk,_⟩ | ⟨_,c',c3,c4⟩
          · rcases hk with z | z
            · rw [show X.env.kindOf x = some .cell from z] at lk; cases lk
            · rw [show X.env.kindOf x = some .free from z] at lk; cases lk
          · rw [h2'] at c3; cases c3
            obtain ⟨oc,w1,w2⟩:=c4
            exact ⟨oc,old _ _ w1,w2⟩
  · obtain ⟨v,oc,w1,w2⟩:=I.cell x c (up _ _ e)
    exact ⟨v,oc,old _ _ w1,w2⟩
  · show ((iniC js σ).set 0 (some v)).length = Nc.length
    unfold iniC
    have:=takesC_len htk
    rw [List.length_set,List.length_map]
    omega
structure LamSc (X : Cx) (Nc : List Str) (js : List (Option Nat)) (params : Arguments) (body : Expr) (scope : Scope) (pn : Str) : Prop where
  ok : compOk X.env.scope scope = true
  tk : takesC X.N Nc scope js 0 = true
  p0 : Nc[0]? = some pn
  j0 : js[0]? = some none
  pl : scope.names.lookup pn = some .local
  co : scope.isCoroutine = false
  gen : scope.isGenerator = false
  bd : ∀ (q : Str) (cl : List (Str × Addr)) (pm cd ctv u : Value),bindArgs (kla_fn "<lambda>" q params body scope cl pm cd ctv) ⟨[u],[]⟩ = pure [(pn,u)]
theorem lam_call {pins : List (Addr × Obj)} {σ : St} {H : Hp} {s : Shared} {A' : Around} {Nc : List Str} {js : List (Option Nat)} {q pn : Str} {params : Arguments} {body : Expr} {scope : Scope} {P f : Addr} {v : V} {u : Value} {tb : TE} {Q : VK} {E : Value→Shared→Prop}
    (S : LamSc X Nc js params body scope pn) (hbody : ∀ cl L f c s H,PE (lamCx X A' Nc q scope cl L f c s H) body tb) (I : Inv X pins σ H s) (hA : A'.frames = some X.stack) (hh : X.calm = true→A'.handled = none) (hroom : A'.depth < recursionLimit) (L : LamO X.env P q params body scope H f)
    (r : RelV v u) (h : tb ((iniC js σ).set 0 (some v)) H Q) : wpAny (model X.prog X.w) A' (call (.ref f) [u]) (EP X pins σ Q) E s:=by
  obtain ⟨c,oc,vs,t,cl,pm,ctv,e1,e2,e3,e4,up,hfr⟩:=L
  have hfo:=(I.hok f _ e1).1
  have hoc:=(I.hok c _ e2).1
  refine wpAny_call (codeAny_mono (R:=fun r s'=>∃ u',r = .ok (.ret u')∧EP X pins σ Q u' s') (kla_callFunE hroom hfo rfl S.co S.gen rfl ⟨c,oc,vs,t,rfl,hoc,e3,e4⟩ ?_) fun r s' ⟨u',hr,z⟩=>by subst hr; exact z)
  show wpAny _ _ (bindArgs (kla_fn "<lambda>" q params body scope cl pm (.ref c) ctv) ⟨[u],[]⟩) _ _ _
  rw [S.bd]
  refine wpAny_pure (wpAny_newFunctionEnv (fun x hx=>compOk_cell S.ok x hx) (fun x hx=>?_) (fun h₁ hns hsb=>⟨I.nolimit.fresh _ hsb,?_⟩) (compOk_kind S.ok))
  · have : x = (pn,u):=by simpa using hx
    subst this; exact S.pl
  show codeAny _ _ (.expr body (envX q scope s.heap.objs.size f (.ref c) cl)) _ _
  have old : ∀ b o,s.heap.get? b = some o→h₁.get? b = some o:=fun b o e=>hsb.extBut b o (Nat.ne_of_lt (Heap.lt_size e)) (Heap.get?_push_of_some _ e)
  have J:=lam_start (q:=q) (f:=f) (c:=c) (tk:=s.toks + [(pn,u)].length) I hA hh S.ok S.tk S.p0 S.j0 S.pl up hfr r old hns
  refine kla_codeExpr (wpAny_mono (hbody cl _ f c s H [] _ _ H Q J h) (fun v' s' ⟨x,H',J',r',q'⟩=>⟨v',rfl,x,H',?_,r',q'⟩) fun _ _ z=>z.elim)
  exact I.call' (ch:=[]) J'.os J'.base J'.hok J'.bare fun b z=>absurd z (by simp)
end
section
variable {prog : Program} {w : World} {A : Around} {E : Value→Shared→Prop} {s : Shared}
def skOut (b : Bool) (st : SortSt) : Array Value:=if b then ((arrOf st).map (·.2)).reverse else (arrOf st).map (·.2)
def skHeap (h : Heap) (kS a : Addr) (out : Array Value) : Heap:=(h.update kS (Obj.mapSeq fun _=>(#[] : Array Value))).update a (Obj.mapSeq fun _=>out)
theorem sk_tail {a kS : Addr} {b : Bool} {e e1 : Nat} {keys : Array Value} {st : SortSt} {R : PySem.Fin→Shared→Prop} (ok : s.heap.get? kS = some (seqObj "list" keys e)) (oa : s.heap.get? a = some (seqObj "list" #[] e1)) (ne : a≠kS) (z1 : keys.size≤1000) (z2 : (arrOf st).size≤1000) (hf : failedOf st = none)
    (h : R (.done (.ret .none)) { s with heap:=skHeap s.heap kS a (skOut b st) }) : wpAny (model prog w) A (ksk_tail a b e1 (.ref kS) st) R E s:=by
  have oa1 : (s.heap.update kS (Obj.mapSeq fun _=>(#[] : Array Value))).get? a = some (seqObj "list" #[] e1):=(Heap.get?_update_ne _ _ _ _ ne).trans oa
  have zo : (skOut b st).size≤sizeLine + 1:=by
    unfold skOut
    cases b
    · rw [if_neg Bool.false_ne_true,Array.size_map]; exact Nat.le_succ_of_le (Nat.le_trans z2 (by decide))
    · rw [if_pos rfl,Array.size_reverse,Array.size_map]; exact Nat.le_succ_of_le (Nat.le_trans z2 (by decide))
  unfold ksk_tail
  dsimp only
  refine wpAny_bind (listUpdate_at ok rfl (wpAny_bind (wpAny_letGo (wpAny_bind (seqEpoch_at oa1 rfl (wpAny_bind (listUpdate_at oa1 rfl ?_ (Nat.zero_le _) zo)))))) (Nat.le_trans z1 (by decide)) (Nat.zero_le _))
  rw [hf]
  simp only [bne_self_eq_false,Bool.false_eq_true,if_false]
  exact wpAny_pure h
theorem sk_end {a kS : Addr} {b : Bool} {e e1 : Nat} {keys : Array Value} {vs : List Value} {kz : List Int} {R : PySem.Fin→Shared→Prop} (ok : s.heap.get? kS = some (seqObj "list" keys e)) (oa : s.heap.get? a = some (seqObj "list" #[] e1)) (ne : a≠kS) (hk : IntsAre keys.toList kz) (hl : kz.length = vs.length) (h64 : vs.length < 64)
    (h : ∀ out : Array Value,KskOut b kz vs out.toList→R (.done (.ret .none)) { s with heap:=skHeap s.heap kS a out }) : wpAny (model prog w) A (ksk_end a b vs.toArray e1 (.ref kS) keys) R E s:=by
  have hz : keys.size = vs.length:=by
    have q:=hk.length
    rw [Array.length_toList] at q; omega
  have hzz : (keys.zip vs.toArray).size = vs.length:=by rw [Array.size_zip,hz,List.size_toArray,Nat.min_self]
  have go : ∀ t : Sem PySem.Fin,wpAny (model prog w) A t R E s→wpAny (model prog w) A (if b = true then (rule "list.sort.reverse" >>= fun _=>t) else t) R E s:=fun t ht=>by
    cases b
    · exact ht
    · exact wpAny_bind (wpAny_rule ht)
  have hst : (if b = true then (keys.zip vs.toArray).reverse else keys.zip vs.toArray).Perm (keys.zip vs.toArray):=by
    cases b
    · exact .refl _
    · exact Array.perm_iff_toList_perm.mpr (by rw [if_pos rfl,Array.toList_reverse]; exact List.reverse_perm _)
  have done : ∀ st : SortSt,(arrOf st).Perm (keys.zip vs.toArray)→failedOf st = none→SortedTo (arrOf st) (arrOf st).size→wpAny (model prog w) A (ksk_tail a b e1 (.ref kS) st) R E s:=fun st q1 q2 q3 =>
    sk_tail ok oa ne (by omega) (by rw [q1.size_eq,hzz]; omega) q2 (h _ (ksk_out hk q1 q3))
  unfold ksk_end
  refine go _ ?_
  by_cases h2 : vs.length < 2
  · have h2' : vs.toArray.size < 2:=by rw [List.size_toArray]; exact h2
    rw [if_pos h2',if_pos h2']
    refine wpAny_bind (wpAny_pure ?_)
    dsimp only
    rw [StateT.run_pure]
    refine wpAny_bind (wpAny_pure (done (SortSt.mk' general' (if b = true then (keys.zip vs.toArray).reverse else keys.zip vs.toArray) #[] 7 none) hst rfl fun i j hij hj=>?_))
    have hj' : j < (if b = true then (keys.zip vs.toArray).reverse else keys.zip vs.toArray).size:=hj
    rw [hst.size_eq,hzz] at hj'
    rw [show i = j by omega]
    exact Int.le_refl _
  · have h2' : ¬ vs.toArray.size < 2:=by rw [List.size_toArray]; exact h2
    rw [if_neg h2',if_neg h2',ksk_kind hk (by omega)]
    refine wpAny_bind (wpAny_pure (wpAny_bind (wpAny_mono (wpS_sortRuns (a₀:=keys.zip vs.toArray) (st:=SortSt.mk' oneType' (if b = true then (keys.zip vs.toArray).reverse else keys.zip vs.toArray) #[] 7 none)
      (Q:=fun _ st=>(arrOf st).Perm (keys.zip vs.toArray)∧failedOf st = none∧SortedTo (arrOf st) (keys.zip vs.toArray).size) (ksk_intKeys hk) ⟨hst,rfl,rfl,rfl⟩ (by omega) (by omega) fun st q1 q2 q3=>⟨q1,q2,q3⟩) ?_ fun _ _ z=>z)))
    rintro ⟨⟨⟩,st⟩ s' ⟨rfl,q1,q2,q3⟩
    exact done st q1 q2 (by rw [q1.size_eq]; exact q3)
end
end L2
set_option Elab.async false
set_option linter.all false
set_option maxRecDepth 100000
set_option maxHeartbeats 1000000
namespace L2
open PySem PySem.Spec PyProof.Rows PySem.W
section
variable {X : Cx}
theorem Inv.track {pins : List (Addr × Obj)} {σ : St} {H : Hp} {s : Shared} {a : Addr} {o : HO} (I : Inv X pins σ H s) (hn : H a = none) (hL : a≠X.env.locals) (h1 : a ∈ X.ex∨X.s₀.heap.objs.size≤a) (h2 : ∀ x c,X.env.cells.lookup x = some c→c≠a) (h3 : ∀ p ∈ X.pn ++ pins,p.1≠a)
    (new : ObjOk X.prog X.w (upd H a o) s.heap a o) : Inv X pins σ (upd H a o) s:=by
  have up : ∀ b u,H b = some u→upd H a o b = some u:=fun b u e=>by rw [upd_ne (ne_of_none e hn)]; exact e
  have J:=I.step (g':=s.gens) (d':=s.drawn) (t':=s.toks) (h':=s.heap) (H':=upd H a o) (ch:=[a]) (fun b hb=>?_) (fun b o _ _ _ e _=>e) (fun b o _ _ _ e _=>⟨o.slots,e⟩) (fun b o hb e n=>?_) (fun b o _ e=>⟨o,e⟩) (fun b xs e=>up _ _ e) (fun b o u e=>up _ _ e) (fun b ps e=>⟨#[],by rw [up _ _ e]; simp⟩) (fun m hm=>hm) (fun b u e=>?_) I.bare
  · exact J
  · have e : b = a:=by simpa using hb
    subst e
    exact ⟨h1,hL,h2,h3⟩
  · rw [upd_ne (fun z=>hb (by simp [z]))]; exact n
  · by_cases z : b = a
    · subst z; rw [upd_same] at e; cases e; exact new
    · rw [upd_ne z] at e
      exact (I.hok b u e).stay (fun c v _ q=>q) (fun c q=>up _ _ q) (fun c xs q=>up _ _ q) fun c o' u' q=>up _ _ q
theorem sk_rest {pins : List (Addr × Obj)} {σ : St} {H : Hp} {s : Shared} {A' : Around} {E : Value→Shared→Prop} {f : Value} {b : Bool} {a kS : Addr} {e1 : Nat} {vs : List Value} {ns : List Int} {kz : Int→Int} {R : PySem.Fin→Shared→Prop}
    (I : Inv X ((kS,seqObj "list" #[] 0) :: (a,seqObj "list" #[] e1) :: pins) σ H s) (hk0 : X.s₀.heap.objs.size≤kS) (ha0 : X.s₀.heap.objs.size≤a) (ne : a≠kS) (hp : ∀ p ∈ X.pn ++ pins,p.1≠kS∧p.1≠a) (hv : IntsAre vs ns) (h64 : vs.length < 64)
    (turn : ∀ (H' : Hp) (s' : Shared) (pins' : List (Addr × Obj)) (n : Int) (u : Value),n ∈ ns→Inv X pins' σ H' s'→Same H H'→RelV (.int n) u→wpAny (model X.prog X.w) A' (call f [u]) (EP X pins' σ fun v H2=>v = .int (kz n)∧Same H' H2) (fun _ _=>False) s')
    (fin : ∀ (H' : Hp) (s' : Shared) (out : Array Value) (c : Nat),Inv X pins σ H' s'→Same H H'→H' a = none→s'.heap.get? a = some (seqObj "list" out c)→KskOut b (ns.map kz) vs out.toList→R (.done (.ret .none)) s') :
    wpAny (model X.prog X.w) A' (ksk_rest a f b vs.toArray e1 (.ref kS)) R E s:=by
  have hlen : vs.length = ns.length:=hv.length
  have facts : ∀ {H' : Hp} {s' : Shared} {ps : List (Addr × Obj)} {x : Addr} {xs : Array Value} {c : Nat},Inv X ps σ H' s'→(x,seqObj "list" xs c) ∈ ps→s'.heap.get? x = some (seqObj "list" xs c)∧H' x = none∧x≠X.env.locals∧x ∉ X.fs∧∀ y cc,X.env.cells.lookup y = some cc→cc≠x:=fun {H' s' ps x xs c} J hm=>by
    obtain ⟨q1,q2,q3,q4,_⟩:=J.pin _ (List.mem_append_right _ hm)
    refine ⟨q1,q2,q3,q4,fun y cc hc z=>?_⟩
    obtain ⟨v,oc,w1,w2⟩:=J.cell y cc hc
    rw [z,q1] at w1; cases w1; cases w2
  unfold ksk_rest
  refine wpAny_bind (wpAny_rule ?_)
  first
    | rw [List.forIn_toArray]
    | (rw [← Array.forIn_toList]; simp only [List.toList_toArray])
  refine wpAny_bind (ksk_fold (fun i s'=>∃ H' kA e,Inv X ((kS,seqObj "list" kA e) :: (a,seqObj "list" #[] e1) :: pins) σ H' s'∧Same H H'∧IntsAre kA.toList ((ns.take i).map kz)) vs 0 s ⟨H,#[],0,I,Same.refl H,by simpa using IntsAre.nil⟩ ?step ?done)
  case step =>
    rintro j x s' hx ⟨H',kA,e,J,sm,hk⟩
    simp only [Nat.zero_add] at hk ⊢
    have hj : j < vs.length:=(List.getElem?_eq_some_iff.mp hx).1
    have hnj : ns[j]? = some ns[j]:=List.getElem?_eq_getElem (by omega)
    obtain ⟨t,ht⟩:=hv.get j _ hnj
    rw [hx] at ht
    cases ht
    have hz : kA.size≤64:=by
      have h1:=hk.length
      rw [Array.length_toList,List.length_map,List.length_take] at h1
      omega
    refine wpAny_bind (wpAny_attempt (wpAny_mono (turn H' s' _ ns[j] _ (List.getElem_mem _) J sm ⟨t,rfl⟩) (fun v s'' he=>?_) fun _ _ hF=>hF.elim))
    obtain ⟨x2,H2,J2,r2,rfl,sm2⟩:=he
    obtain ⟨t2,rfl⟩:=r2
    obtain ⟨o1,n1,l1,_,c1⟩:=facts J2 (List.mem_cons_self ..)
    try dsimp only
    obtain ⟨c2,hc2⟩ : ∃ c2,(s''.heap.update kS (Obj.mapSeq (·.push (.int (kz ns[j]) t2)))).get? kS = some (seqObj "list" (kA.push (.int (kz ns[j]) t2)) c2):=⟨_,get?_update_seq o1 (·.push (.int (kz ns[j]) t2))⟩
    refine wpAny_bind (listUpdate_at o1 rfl ?_ (Nat.le_trans hz (by decide)) (Nat.le_trans (Nat.le_of_eq (Array.size_push ..)) (Nat.le_succ_of_le (Nat.le_trans (Nat.succ_le_succ hz) (by decide)))))
    have J3 : Inv X ((a,seqObj "list" #[] e1) :: pins) σ H2 s'':=J2.pins_of fun p hp'=>by
      obtain ⟨q1,q2,q3,q4,q5⟩:=J2.pin p (List.mem_append_right _ (List.mem_cons_of_mem _ hp'))
      exact ⟨q1,q2,q3,q4,q5⟩
    have J4:=J3.turned (t':=s''.toks) (h':=s''.heap.update kS (Obj.mapSeq (·.push (.int (kz ns[j]) t2)))) (it:=kS) (fun b o nb e=>(Heap.get?_update_ne _ _ _ _ nb).trans e) n1 l1 (.inr hk0) c1 (fun p hp'=>by
      rcases List.mem_append.mp hp' with z | z
      · exact (hp p (List.mem_append_left _ z)).1
      · rcases List.mem_cons.mp z with rfl | z
        · exact ne
        · exact (hp p (List.mem_append_right _ z)).1)
    have o1f:=(facts J2 (List.mem_cons_self ..)).2.2.2.1
    have J5 : Inv X ((kS,seqObj "list" (kA.push (.int (kz ns[j]) t2)) c2) :: (a,seqObj "list" #[] e1) :: pins) σ H2 { s'' with heap:=s''.heap.update kS (Obj.mapSeq (·.push (.int (kz ns[j]) t2))) }:=J4.pins_of fun p hp'=>by
      rcases List.mem_cons.mp hp' with rfl | hp'
      · exact ⟨hc2,n1,l1,o1f,fun v z=>by cases z⟩
      · exact J4.pin p (List.mem_append_right _ hp')
    refine wpAny_pure ⟨rfl,H2,_,_,J5,sm.trans sm2,?_⟩
    have ek : (ns.take (j + 1)).map kz = (ns.take j).map kz ++ [kz ns[j]]:=by rw [List.take_add_one,hnj,List.map_append]; rfl
    have ea : (kA.push (Value.int (kz ns[j]) t2)).toList = kA.toList ++ [Value.int (kz ns[j]) t2]:=by simp
    rw [ea,ek]; exact ksk_snoc hk
  case done =>
    rintro s' ⟨H',kA,e,J,sm,hk⟩
    have hk' : IntsAre kA.toList (ns.map kz):=by
      rw [List.take_of_length_le (by omega)] at hk
      exact hk
    obtain ⟨o1,n1,l1,f1,c1⟩:=facts J (List.mem_cons_self ..)
    obtain ⟨o2,n2,l2,f2,c2⟩:=facts J (List.mem_cons_of_mem _ (List.mem_cons_self ..))
    refine wpAny_bind (listItems_at o1 rfl ?_)
    refine sk_end o1 o2 ne hk' (by rw [List.length_map]; exact hlen.symm) h64 fun out ho=>?_
    have J3 : Inv X pins σ H' s':=J.pins_of fun p hp'=>J.pin p (List.mem_append_right _ (List.mem_cons_of_mem _ (List.mem_cons_of_mem _ hp')))
    have J4:=J3.turned (t':=s'.toks) (h':=s'.heap.update kS (Obj.mapSeq fun _=>(#[] : Array Value))) (it:=kS) (fun b o nb e=>(Heap.get?_update_ne _ _ _ _ nb).trans e) n1 l1 (.inr hk0) c1 fun p hp'=>(hp p hp').1
    have J5:=J4.turned (t':=s'.toks) (h':=skHeap s'.heap kS a out) (it:=a) (fun b o nb e=>(Heap.get?_update_ne _ _ _ _ nb).trans e) n2 l2 (.inr ha0) c2 fun p hp'=>(hp p hp').2
    have o3 : (s'.heap.update kS (Obj.mapSeq fun _=>(#[] : Array Value))).get? a = some (seqObj "list" #[] e1):=(Heap.get?_update_ne _ _ _ _ ne).trans o2
    exact fin H' _ out _ J5 sm n2 (get?_update_seq o3 fun _=>out) ho
theorem sk_tree {pins : List (Addr × Obj)} {σ : St} {H : Hp} {s : Shared} {A' : Around} {E : Value→Shared→Prop} {f : Value} {b : Bool} {a : Addr} {e0 : Nat} {vs : List Value} {ns : List Int} {kz : Int→Int} {R : PySem.Fin→Shared→Prop}
    (I : Inv X ((a,seqObj "list" vs.toArray e0) :: pins) σ H s) (ha0 : X.s₀.heap.objs.size≤a) (hp : ∀ p ∈ X.pn ++ pins,p.1≠a) (hv : IntsAre vs ns) (h64 : vs.length < 64)
    (turn : ∀ (H' : Hp) (s' : Shared) (pins' : List (Addr × Obj)) (n : Int) (u : Value),n ∈ ns→Inv X pins' σ H' s'→Same H H'→RelV (.int n) u→wpAny (model X.prog X.w) A' (call f [u]) (EP X pins' σ fun v H2=>v = .int (kz n)∧Same H' H2) (fun _ _=>False) s')
    (fin : ∀ (H' : Hp) (s' : Shared) (out : Array Value) (c : Nat),Inv X pins σ H' s'→Same H H'→H' a = none→s'.heap.get? a = some (seqObj "list" out c)→KskOut b (ns.map kz) vs out.toList→R (.done (.ret .none)) s') :
    wpAny (model X.prog X.w) A' (ksk_tree a f b) R E s:=by
  obtain ⟨oa,na,la,fa,da⟩:=I.pin _ (List.mem_append_right _ (List.mem_cons_self ..))
  have ca : ∀ y cc,X.env.cells.lookup y = some cc→cc≠a:=fun y cc hc z=>by
    obtain ⟨v,oc,w1,w2⟩:=I.cell y cc hc
    rw [z,oa] at w1; cases w1; cases w2
  have lt:=Heap.lt_size oa
  obtain ⟨e1,oa1⟩ : ∃ e1,(s.heap.update a (Obj.mapSeq fun _=>(#[] : Array Value))).get? a = some (seqObj "list" #[] e1):=⟨_,get?_update_seq oa fun _=>#[]⟩
  have I0 : Inv X pins σ H s:=I.pins_of fun p hp'=>I.pin p (List.mem_append_right _ (List.mem_cons_of_mem _ hp'))
  have I1:=I0.turned (t':=s.toks) (h':=s.heap.update a (Obj.mapSeq fun _=>(#[] : Array Value))) (it:=a) (fun b o nb e=>(Heap.get?_update_ne _ _ _ _ nb).trans e) na la (.inr ha0) ca hp
  have sz : (s.heap.update a (Obj.mapSeq fun _=>(#[] : Array Value))).objs.size = s.heap.objs.size:=Heap.size_update ..
  have I2:=I1.kept (h':=((s.heap.update a (Obj.mapSeq fun _=>(#[] : Array Value))).push (seqObj "tuple" vs.toArray 0)).push (seqObj "list" #[] 0)) (t':=s.toks) fun b o e=>Heap.get?_push_of_some _ (Heap.get?_push_of_some _ e)
  have sz2 : ((s.heap.update a (Obj.mapSeq fun _=>(#[] : Array Value))).push (seqObj "tuple" vs.toArray 0)).objs.size = s.heap.objs.size + 1:=(size_push' ..).trans (congrArg (· + 1) sz)
  have hge : X.s₀.heap.objs.size≤s.heap.objs.size:=I.sz
  have hkL : X.env.locals < s.heap.objs.size:=I.lt
  have nk : H (s.heap.objs.size + 1) = none:=I.hok.fresh (Nat.le_succ _)
  unfold ksk_tree
  refine wpAny_bind (listItems_at oa rfl (wpAny_bind (listUpdate_at oa rfl (wpAny_bind (seqEpoch_at oa1 rfl (wpAny_bind (wpAny_newTuple (wpAny_bind (wpAny_newList (wpAny_holding ?_) (Nat.zero_le _))) ?_)))) ?_ (Nat.zero_le _))))
  · rw [sz2]
    refine sk_rest (kS:=s.heap.objs.size + 1) (e1:=e1) (I2.pins_of fun p hp'=>?_) (Nat.le_succ_of_le hge) ha0 (Nat.ne_of_lt (Nat.lt_succ_of_lt lt)) (fun p hp'=>⟨?_,hp p hp'⟩) hv h64 turn fin
    · rcases List.mem_cons.mp hp' with rfl | hp'
      · exact ⟨by rw [← sz2]; exact Heap.get?_push_size _ rfl,nk,Nat.ne_of_gt (Nat.lt_succ_of_lt hkL),I.nofs (Nat.le_succ _),fun v z=>by cases z⟩
      · rcases List.mem_cons.mp hp' with rfl | hp'
        · exact ⟨Heap.get?_push_of_some _ (Heap.get?_push_of_some _ oa1),na,la,fa,fun v z=>by cases z⟩
        · exact I2.pin p (List.mem_append_right _ hp')
    · have:=Heap.lt_size (I0.pin p hp').1
      exact Nat.ne_of_lt (Nat.lt_succ_of_lt this)
  · exact Nat.le_trans (show vs.length≤64 by omega) (by decide)
  · rw [List.size_toArray]; exact Nat.le_trans (show vs.length≤64 by omega) (by decide)
end
theorem iadd_rng {prog : Program} {w : World} {A : Around} {R : Result→Shared→Prop} {s : Shared} {r S : Addr} {a b c : Int} {t u v : Tok} {n c₀ : Nat} (hh : A.handled = none) (hr : IsRange s.heap r a b c t u v) (hsmall : Builtin.Range.small a b c = true)
    (hn : Builtin.Range.rangeSize a b c = n) (hlen : n≤2 ^ 24) (hS : s.heap.get? S = some { cls:=.type "list",data:=.seq #[] c₀ })
    (hR : ∀ h' tk acc' c',(∀ b o,b≠S→s.heap.get? b = some o→h'.get? b = some o)→h'.get? S = some { cls:=.type "list",dict:=none,data:=.seq acc' c',slots:=#[] }→ItemsOf (fun i v=>∃ t,v = .int (a + i * c) t) acc' n→R (.ok (.ret (.ref S))) { s with heap:=h',toks:=tk }) :
    codeAny (model prog w) A (.builtin "list.__iadd__" ⟨[.ref S,.ref r],[]⟩) R s :=
  codeAny_builtin entry_list_iadd' (wpAny_extend_range hh hr hsmall hn hlen S (.ref S) c₀ hS hR)
theorem collect_rng {prog : Program} {w : World} {A : Around} {E : Value→Shared→Prop} {s : Shared} {r : Addr} {a b c : Int} {t u v : Tok} {n : Nat} {Q : List Value→Shared→Prop} (hh : A.handled = none) (hr : IsRange s.heap r a b c t u v) (hsmall : Builtin.Range.small a b c = true)
    (hn : Builtin.Range.rangeSize a b c = n) (hlen : n≤2 ^ 24) (h : ∀ (h' : Heap) (tk : Nat) (acc : Array Value),(∀ b o,s.heap.get? b = some o→h'.get? b = some o)→ItemsOf (fun i v=>∃ t,v = .int (a + i * c) t) acc n→Q acc.toList { s with heap:=h',toks:=tk }) :
    wpAny (model prog w) A (collect (.ref r)) Q E s:=by
  unfold collect
  refine wpAny_bind (wpAny_runValue (codeAny_builtin entry_proto_collect' ?_))
  show wpAny _ _ (newList [] >>= fun l=>again (.builtin "list.__iadd__" ⟨[l,.ref r],[]⟩)) _ _ s
  refine wpAny_bind (wpAny_newList (wpAny_pure ⟨Code.quiet_builtin _ (by decide +kernel),?_⟩))
  refine iadd_rng (s:={ s with heap:=s.heap.push (seqObj "list" #[] 0) }) hh (Heap.get?_push_of_some _ hr) hsmall hn hlen (Heap.get?_push_size _ rfl) fun h' tk acc c' hk hS hacc=>?_
  refine wpAny_bind (wpAny_load hS (wpAny_pure (h h' tk acc (fun b o e=>hk b o (Nat.ne_of_lt (Heap.lt_size e)) (Heap.get?_push_of_some _ e)) hacc)))
end L2
set_option Elab.async false
set_option linter.all false
set_option maxRecDepth 100000
set_option maxHeartbeats 1000000
namespace L2
open PySem PySem.Spec PyProof.Rows PySem.W
theorem zip_keys (g : Int→Int) : ∀ vs : List Value,((vs.map numOf).map g).zip vs = vs.map fun v=>(g (numOf v),v)
  | []=>rfl
  | v :: vs=>by
    simp only [List.map_cons,List.zip_cons_cons]
    rw [zip_keys g vs]
theorem skOut_ints {b : Bool} {g : Int→Int} {vs out : List Value} {ns : List Int} (hv : IntsAre vs ns) (h : KskOut b (ns.map g) vs out) : ∃ ns',IntsAre out ns'∧ns'.Perm ns∧ns'.Pairwise fun x y=>if b then g y≤g x else g x≤g y:=by
  obtain ⟨ps,hp,rfl,hs⟩:=h
  have en : ns = vs.map numOf:=hv.nums.symm
  rw [en,zip_keys] at hp
  have mem : ∀ p ∈ ps,p.1 = g (numOf p.2)∧p.2 ∈ vs:=fun p hp'=>by
    obtain ⟨v,hv',rfl⟩:=List.mem_map.mp (hp.mem_iff.mp hp')
    exact ⟨rfl,hv'⟩
  refine ⟨(ps.map Prod.snd).map numOf,intsAre_map _ fun v hv'=>?_,?_,?_⟩
  · obtain ⟨p,hp',rfl⟩:=List.mem_map.mp hv'
    exact hv.all _ (mem p hp').2
  · have:=(hp.map Prod.snd).map numOf
    rw [List.map_map (l:=vs),show (Prod.snd ∘ fun v=>(g (numOf v),v)) = (id : Value→Value) from rfl,List.map_id] at this
    rw [en]; exact this
  · rw [List.pairwise_map,List.pairwise_map]
    refine hs.imp_of_mem fun {p q} hp' hq' hr=>?_
    rw [← (mem p hp').1,← (mem q hq').1]
    exact hr
def nats (n : Int) : List Int:=(List.range n.toNat).map fun (i : Nat)=>(i : Int)
section
variable {X : Cx}
theorem sorted_rng {pins : List (Addr × Obj)} {σ : St} {H : Hp} {s : Shared} {kw : List (Str × Value)} {f : Value} {b : Bool} {p : Addr} {n : Int} {kz : Int→Int} {Q : VK} (I : Inv X pins σ H s) (hc : X.calm = true) (hp : H p = some (.rng 0 n)) (h0 : 0≤n) (h64 : n < 64)
    (ha1 : argsOk "sorted" ⟨[.ref p],kw⟩) (ha2 : ∀ x,argsOk "list.sort" ⟨[.ref x],kw⟩) (ht : ∀ x,Builtin.«list.sort» ⟨[.ref x],kw⟩ = ksk_tree x f b)
    (turn : ∀ (H' : Hp) (s' : Shared) (pins' : List (Addr × Obj)) (i : Int) (u : Value),0≤i→i < n→Inv X pins' σ H' s'→Same H H'→RelV (.int i) u→wpAny (model X.prog X.w) X.A.in1.in1 (call f [u]) (EP X pins' σ fun v H2=>v = .int (kz i)∧Same H' H2) (fun _ _=>False) s')
    (fin : ∀ (ns : List Int) (l : Addr) (H' : Hp),ns.Perm (nats n)→(ns.Pairwise fun x y=>if b then kz y≤kz x else kz x≤kz y)→Same H H'→H l = none→H' l = some (.lst (ns.map V.int))→Q (.ref l) H') :
    wpAny (model X.prog X.w) X.A (call (.builtin "sorted") [.ref p] kw) (EP X pins σ Q) X.xe s:=by
  obtain ⟨t,u,v,hob⟩:=(show ∃ t u v,s.heap.get? p = some { cls:=.type "range",data:=.fields #[.int 0 t,.int n u,.int 1 v] } from I.hok p _ hp)
  refine call_function_entry_kw kind_sorted plain_sorted entry_sorted ha1 ?_
  unfold Builtin.«sorted»
  refine wpAny_bind (m:=checkCount "sorted" 1 1 _) (wpAny_pure (wpAny_bind (collect_rng (n:=n.toNat) (I.ok.hd hc) hob (small_one (by omega) (by omega) (by omega) (by omega)) (by rw [rangeSize_one]; split <;> omega) (by omega) fun h1 tk acc k1 hacc=>wpAny_bind (wpAny_newList ?_ ?_))))
  case refine_2=>rw [Array.length_toList,hacc.1]; exact Nat.le_trans (show n.toNat≤1000 by omega) (by decide)
  have hia : IntsAre acc.toList (nats n):=by
    have hv : Vals ((nats n).map V.int) acc.toList:=by
      unfold nats
      rw [List.map_map]
      exact vals_of (g:=fun (i : Nat)=>V.int (i : Int)) (P:=fun (i : Nat) v=>∃ t,v = .int (0 + (i : Int) * 1) t) (fun i v h=>by obtain ⟨t,e⟩:=h; exact ⟨t,by rw [e]; simp⟩) _ _ (by rw [Array.length_toList]; exact hacc.1) fun k v hk=>hacc.2 k v (by simpa using hk)
    exact intsAre_of hv
  have I1:=I.kept (t':=tk) k1
  show wpAny _ _ _ _ _ { s with heap:=h1.push (seqObj "list" acc.toList.toArray 0),toks:=tk }
  have oa : (h1.push (seqObj "list" acc.toList.toArray 0)).get? h1.objs.size = some (seqObj "list" acc.toList.toArray 0):=Heap.get?_push_size _ rfl
  have I2:=I1.kept (h':=h1.push (seqObj "list" acc.toList.toArray 0)) (t':=tk) fun b o e=>Heap.get?_push_of_some _ e
  have na : H h1.objs.size = none:=I1.hok.fresh (Nat.le_refl _)
  have la : h1.objs.size≠X.env.locals:=Nat.ne_of_gt I1.lt
  have a0 : X.s₀.heap.objs.size≤h1.objs.size:=I1.sz
  have hl : acc.toList.length < 64:=by rw [Array.length_toList,hacc.1]; omega
  refine wpAny_bind (wpAny_holding (wpAny_call_entry_kw slot_list_sort ⟨_,oa,rfl⟩ entry_list_sort ?body (ha2 _)))
  case body =>
    show wpAny (model X.prog X.w) X.A.in1.in1 (Builtin.«list.sort» ⟨[.ref h1.objs.size],kw⟩) _ _ _
    rw [ht]
    refine sk_tree (e0:=0) (pins:=pins) (ns:=nats n) (kz:=kz) (I2.pins_of fun q hq=>?_) a0 (fun q hq=>?_) hia hl (fun H' s' pins' i u hi J sm r=>?_) fun H' s' out c J sm n2 o2 ko=>⟨_,rfl,wpAny_pure ⟨_,rfl,?_⟩⟩
    · rcases List.mem_cons.mp hq with rfl | hq
      · exact ⟨oa,na,la,I1.nofs (Nat.le_refl _),fun v z=>by cases z⟩
      · exact I2.pin q (List.mem_append_right _ hq)
    · exact Nat.ne_of_lt (Heap.lt_size (I1.pin q hq).1)
    · obtain ⟨k,hk,rfl⟩:=List.mem_map.mp hi
      have:=List.mem_range.mp hk
      exact turn H' s' pins' _ u (by omega) (by omega) J sm r
    · obtain ⟨ns,hi,hpm,hpw⟩:=skOut_ints hia ko
      have ca : ∀ y cc,X.env.cells.lookup y = some cc→cc≠h1.objs.size:=fun y cc hc' z=>by
        obtain ⟨v,oc,w1,w2⟩:=I1.cell y cc hc'
        exact absurd (Heap.lt_size w1) (by rw [z]; exact Nat.lt_irrefl _)
      have K:=J.track (a:=h1.objs.size) (o:=.lst (ns.map V.int)) n2 la (.inr a0) ca (fun q hq=>Nat.ne_of_lt (Heap.lt_size (I1.pin q hq).1)) ⟨?_,out.toList,c,vals_ints hi,by rw [Array.toArray_toList]; exact o2⟩
      · exact ⟨.ref h1.objs.size,_,K,rfl,fin ns _ _ hpm hpw (fun b o e=>by rw [upd_ne (ne_of_none e na)]; exact sm _ _ e) na upd_same⟩
      · rw [List.length_map,hpm.length_eq]
        unfold nats
        rw [List.length_map,List.length_range]
        exact Nat.le_trans (show n.toNat≤1000 by omega) (by decide)
def tSortR1 (ta td : TA) (tb : TE) (js : List (Option Nat)) (env : Env) (P : Addr) (q : Str) (params : Arguments) (body : Expr) (scope : Scope) : TE:=fun σ H Q=>ta σ H fun vs H1=>td σ H1 fun zs H2=>∃ (p f : Addr) (n : Int) (kz : Int→Int),
  vs = [.ref p]∧zs = [.ref f]∧H2 p = some (.rng 0 n)∧0≤n∧n < 64∧LamO env P q params body scope H2 f ∧
  (∀ i H3,0≤i→i < n→Same H2 H3→tb ((iniC js σ).set 0 (some (.int i))) H3 fun v H4=>v = .int (kz i)∧Same H3 H4) ∧
  ∀ (ns : List Int) (l : Addr) (H3 : Hp),ns.Perm (nats n)→(ns.Pairwise fun x y=>kz x≤kz y)→Same H2 H3→H2 l = none→H3 l = some (.lst (ns.map V.int))→Q (.ref l) H3
def tSortR2 (ta td : TA) (tb : TE) (js : List (Option Nat)) (env : Env) (P : Addr) (q : Str) (params : Arguments) (body : Expr) (scope : Scope) : TE:=fun σ H Q=>ta σ H fun vs H1=>td σ H1 fun zs H2=>∃ (p f : Addr) (n : Int) (kz : Int→Int),
  vs = [.ref p]∧zs = [.ref f,.bl true]∧H2 p = some (.rng 0 n)∧0≤n∧n < 64∧LamO env P q params body scope H2 f ∧
  (∀ i H3,0≤i→i < n→Same H2 H3→tb ((iniC js σ).set 0 (some (.int i))) H3 fun v H4=>v = .int (kz i)∧Same H3 H4) ∧
  ∀ (ns : List Int) (l : Addr) (H3 : Hp),ns.Perm (nats n)→(ns.Pairwise fun x y=>kz y≤kz x)→Same H2 H3→H2 l = none→H3 l = some (.lst (ns.map V.int))→Q (.ref l) H3
theorem turn_lam {pins' : List (Addr × Obj)} {σ : St} {H' : Hp} {s' : Shared} {Nc : List Str} {js : List (Option Nat)} {q pn : Str} {params : Arguments} {body : Expr} {scope : Scope} {P f : Addr} {tb : TE} {Q : VK} {m : Nat} {i : Int} {u : Value} (hr : Room m X.A)
    (S : LamSc X Nc js params body scope pn) (hbody : ∀ cl L f c s H,PE (lamCx X X.A.in1.in1 Nc q scope cl L f c s H) body tb) (J : Inv X pins' σ H' s') (L : LamO X.env P q params body scope H' f) (r : RelV (.int i) u)
    (h : tb ((iniC js σ).set 0 (some (.int i))) H' Q) : wpAny (model X.prog X.w) X.A.in1.in1 (call (.ref f) [u]) (EP X pins' σ Q) (fun _ _=>False) s' :=
  lam_call S hbody J J.ok.frames J.ok.hd hr.depth L r h
theorem pe_sortR1 {Nc : List Str} {js : List (Option Nat)} {q pn : Str} {params : Arguments} {body : Expr} {scope : Scope} {P : Addr} {ta td : TA} {tb : TE} {m : Nat} {e : Expr} {p pos lpos kp1 : Pos} (hc : X.calm = true) (hr : Room m X.A) (S : LamSc X Nc js params body scope pn)
    (hbody : ∀ cl L f c s H,PE (lamCx X X.A.in1.in1 Nc q scope cl L f c s H) body tb) (hg : Gl X "sorted") (hm : X.mg "sorted" = none) (ha : PA X [e] ta) (hd : PK X [⟨some (Str.ofString "key"),.Lambda params body scope lpos,kp1⟩] td)
    (hpl : (backTo pos (starEach [e] X.env)).any (·.1) = false:=by rfl) (hall : (backToKw pos (keywordEach [⟨some (Str.ofString "key"),.Lambda params body scope lpos,kp1⟩] X.env)).all (·.1.isSome) = true:=by rfl)
    (hnn : (backToKw pos (keywordEach [⟨some (Str.ofString "key"),.Lambda params body scope lpos,kp1⟩] X.env)).any (·.1.isNone) = false:=by rfl) (hks : (backToKw pos (keywordEach [⟨some (Str.ofString "key"),.Lambda params body scope lpos,kp1⟩] X.env)).filterMap (·.1) = [Str.ofString "key"]:=by rfl) (hb : backTo pos (starEach [e] X.env) = (false,eval e X.env) :: backTo pos (starEach [] X.env):=by rfl) :
    PE X (.Call (.Name "sorted" p) [e] [⟨some (Str.ofString "key"),.Lambda params body scope lpos,kp1⟩] pos) (tSortR1 ta td tb js X.env P q params body scope):=by
  intro pins s σ H Q I h
  refine wpAny_Call_Name_kw (ld_blt I hg hm bt_sorted ?_)
  refine PyProof.Rows.callWith_kw (thn (ha pos pins s σ H _ I h) fun us s1 ⟨vs,H1,I1,r1,q1⟩=>?_) hb hpl hall hnn
  refine thn (hd pos pins s1 σ H1 _ I1 q1) fun ws s2 ⟨zs,H2,I2,r2,pp,f,n,kz,e1,e2,hp,h0,h64,L,tn,fin⟩=>?_
  subst e1 e2
  obtain ⟨u,rfl,ru⟩:=r1.one
  cases (show u = Value.ref pp from ru)
  rw [hks]
  obtain ⟨v,rfl,rv⟩:=r2.one
  cases (show v = Value.ref f from rv)
  exact sorted_rng (f:=.ref f) (b:=false) (kz:=kz) I2 hc hp h0 h64 (ksk_s1 _ _) (fun x=>ksk_l1 _ _) (fun x=>ksk_t1 _ _) (fun H' s' pins' i u hi0 hi1 J sm r=>turn_lam hr S hbody J (L.same sm) r (tn i H' hi0 hi1 sm)) (fun ns l H' a1 a2=>fin ns l H' a1 a2)
theorem pe_sortR2 {Nc : List Str} {js : List (Option Nat)} {q pn : Str} {params : Arguments} {body : Expr} {scope : Scope} {P : Addr} {ta td : TA} {tb : TE} {m : Nat} {e : Expr} {e2 : Expr} {p pos lpos kp1 kp2 : Pos} (hc : X.calm = true) (hr : Room m X.A) (S : LamSc X Nc js params body scope pn)
    (hbody : ∀ cl L f c s H,PE (lamCx X X.A.in1.in1 Nc q scope cl L f c s H) body tb) (hg : Gl X "sorted") (hm : X.mg "sorted" = none) (ha : PA X [e] ta) (hd : PK X [⟨some (Str.ofString "key"),.Lambda params body scope lpos,kp1⟩,⟨some (Str.ofString "reverse"),e2,kp2⟩] td)
    (hpl : (backTo pos (starEach [e] X.env)).any (·.1) = false:=by rfl) (hall : (backToKw pos (keywordEach [⟨some (Str.ofString "key"),.Lambda params body scope lpos,kp1⟩,⟨some (Str.ofString "reverse"),e2,kp2⟩] X.env)).all (·.1.isSome) = true:=by rfl)
    (hnn : (backToKw pos (keywordEach [⟨some (Str.ofString "key"),.Lambda params body scope lpos,kp1⟩,⟨some (Str.ofString "reverse"),e2,kp2⟩] X.env)).any (·.1.isNone) = false:=by rfl) (hks : (backToKw pos (keywordEach [⟨some (Str.ofString "key"),.Lambda params body scope lpos,kp1⟩,⟨some (Str.ofString "reverse"),e2,kp2⟩] X.env)).filterMap (·.1) = [Str.ofString "key",Str.ofString "reverse"]:=by rfl) (hb : backTo pos (starEach [e] X.env) = (false,eval e X.env) :: backTo pos (starEach [] X.env):=by rfl) :
    PE X (.Call (.Name "sorted" p) [e] [⟨some (Str.ofString "key"),.Lambda params body scope lpos,kp1⟩,⟨some (Str.ofString "reverse"),e2,kp2⟩] pos) (tSortR2 ta td tb js X.env P q params body scope):=by
  intro pins s σ H Q I h
  refine wpAny_Call_Name_kw (ld_blt I hg hm bt_sorted ?_)
  refine PyProof.Rows.callWith_kw (thn (ha pos pins s σ H _ I h) fun us s1 ⟨vs,H1,I1,r1,q1⟩=>?_) hb hpl hall hnn
  refine thn (hd pos pins s1 σ H1 _ I1 q1) fun ws s2 ⟨zs,H2,I2,r2,pp,f,n,kz,e1,e2,hp,h0,h64,L,tn,fin⟩=>?_
  subst e1 e2
  obtain ⟨u,rfl,ru⟩:=r1.one
  cases (show u = Value.ref pp from ru)
  rw [hks]
  obtain ⟨v,v2,rfl,rv,rv2⟩:=r2.two
  cases (show v = Value.ref f from rv)
  cases (show v2 = Value.bool true from rv2)
  exact sorted_rng (f:=.ref f) (b:=true) (kz:=kz) I2 hc hp h0 h64 (ksk_s2 _ _ _) (fun x=>ksk_l2 _ _ _) (fun x=>ksk_t2 _ _ _) (fun H' s' pins' i u hi0 hi1 J sm r=>turn_lam hr S hbody J (L.same sm) r (tn i H' hi0 hi1 sm)) (fun ns l H' a1 a2=>fin ns l H' a1 a2)
end
end L2
set_option Elab.async false
set_option linter.all false
set_option maxRecDepth 100000
set_option maxHeartbeats 1000000
namespace L2
open PySem PySem.Spec PyProof.Rows PySem.W
def lamQ (x : Str) : Str:=(x ++ ".<locals>.") ++ "<lambda>"
def TabH (K : Frag) (mg : Str→Option Value) (x : Str) (H : Hp) : Prop:=H (tabP K mg x) = some (tabQ (lamQ x))
theorem TabH.same {K : Frag} {mg : Str→Option Value} {x : Str} {H H' : Hp} (h : TabH K mg x H) (s : Same H H') : TabH K mg x H':=s _ _ h
def LamD (K : Frag) (mg : Str→Option Value) (x : Str) (f : Addr) : Prop:=∃ c,cdOf K f = some c∧codeHdIn K c (tabP K mg x) = true
section
variable {P : Program} {w : World} {K : Frag} {mg : Str→Option Value} {base : Heap}
theorem Fun.okL {x qual : Str} {st : Stmt} {f : Addr} {fd : FuncData} {N ps : List Str} {k : Nat} {sp : Sp} (F : Fun K x qual st f fd) (L : LamD K mg qual f) (B : BM mg base) (S : FnScope N ps (defScope st)) (len : ∀ vs H Q E,sp vs H Q E→vs.length = ps.length)
    (hbody : ∀ (cdv : Value) (A : Around) (outer : List Env) (s : Shared) (H : Hp) (vs : List V) (Q : VK) (E : XK),LamIn (cxOf (CXE P w) P w K mg base N qual (defScope st) f cdv A outer s H E) (tabP K mg qual) (lamQ qual)→Room k (A.deeper (envOfC qual (defScope st) s.heap.objs.size f cdv))→sp vs H Q E →
      ∃ t,PSs (cxOf (CXE P w) P w K mg base N qual (defScope st) f cdv A outer s H E) (defBody st) t∧t { nx:=fun _ H'=>Q .non H',rt:=Q } (start N vs) H) : FnOk P w K mg base (CXE P w) (k + 1) f fd ps sp:=by
  obtain ⟨oc,od,kV,doc,pm,an,cdv,ct,osl,rfl,lk,hcd⟩:=F.ex
  obtain ⟨c,h1,h2⟩:=L
  have e : cdv = .ref c:=by
    unfold cdOf at h1
    rw [lk] at h1
    dsimp only at h1
    cases cdv <;> first | (cases h1; rfl) | (cases h1; done)
  exact fn_of lk hcd S len fun A outer s H vs Q E hr hsp=>hbody cdv A outer s H vs Q E ⟨⟨c,e,h2⟩,B,rfl⟩ hr hsp
end
theorem mem_lk {b : Addr} {q : Str} : ∀ {l : List (Addr × Str)},l.lookup b = some q→(b,q) ∈ l
  | [],e=>by cases e
  | (c,y) :: r,e=>by
    rw [List.lookup_cons] at e
    cases hb : b == c with
    | true=>rw [hb] at e; cases e; rw [eq_of_beq hb]; exact List.mem_cons_self
    | false=>rw [hb] at e; exact List.mem_cons_of_mem _ (mem_lk e)
theorem tabP_of {K : Frag} {mg : Str→Option Value} {x : Str} {f c T : Addr} {oc1 oc2 : Value} {od1 od2 : Option Addr} {fd : FuncData} {sl1 sl2 : Array (Option Value)} {vs : Array Value} (hm : mg x = some (.ref f)) (l1 : K.lookup f = some ⟨oc1,od1,.func fd,sl1⟩) (e : fd.code = .ref c) (l2 : K.lookup c = some ⟨oc2,od2,.fields vs,sl2⟩) (h11 : vs[11]? = some (.ref T)) : tabP K mg x = T∧cdOf K f = some c:=by
  have h1 : cdOf K f = some c:=by
    unfold cdOf
    rw [l1]
    dsimp only
    rw [e]
  refine ⟨?_,h1⟩
  unfold tabP
  rw [hm]
  dsimp only
  rw [h1]
  dsimp only
  unfold tabOf
  rw [l2]
  dsimp only
  rw [h11]
theorem law_callT {P : Program} {w : World} {K : Frag} {mg mb : Str→Option Value} {CX : CXT} {k : Nat} {fa a : Addr} {fd : FuncData} {x : Str} {sp : Sp} {s₁ : Shared} {vs : List Value} {ns : List Int} {tabs : List (Addr × Str)}
    (KX : K.In s₁.heap) (hns : s₁.heap.Ns mainGlobals mg) (hb : s₁.heap.Ns builtinsNs mb) (hbb : ∀ x : Str,x≠"__name__"→mb x = bootBuiltins x) (hlim : s₁.heap.NoLimit) (hg : s₁.gens = #[]) (hbm : BM mg s₁.heap)
    (ha : s₁.heap.get? a = some { cls:=.type "list",data:=.seq vs.toArray }) (hi : IntsAre vs ns) (hl : ns.length≤sizeLine) (hr : Room k callerA)
    (hT : ∀ p ∈ tabs,s₁.heap.get? p.1 = some (tabObj #[])∧K.lookup p.1 = none∧∃ c,codeHdIn K c p.1 = true) (nd : (tabs.map (·.1)).Nodup)
    (F : ∀ base : Heap,K.In base→base.Ns mainGlobals mg→BM mg base→FnOk P w K mg base CX k fa fd [x] sp) (hbind : ∀ (s : Shared) (u : Value),BindsTo s fd ⟨[u],[]⟩ [(x,u)])
    (hsp : ∀ H : Hp,SqL K H a (ns.map V.int)→(∀ p ∈ tabs,H p.1 = some (tabQ p.2))→sp [.ref a] H (fun v _=>v = .bl true) fun _ _ _=>False)
    (hCX : ∀ H e s',CX [] H s₁ (fun _ _ _=>False) e s'→False) :
    codeAny (model P w) callerA (.call (.ref fa) ⟨[.ref a],[]⟩) (fun r s'=>r = .ok (.ret (.bool true))∧OldK s₁.heap s'.heap∧s'.os = s₁.os∧AllBare s'.gens) s₁:=by
  have rv:=vals_ints hi
  have lenV:=hi.length
  have tmem : ∀ b q,tabs.lookup b = some q→(b,q) ∈ tabs:=fun b q e=>mem_lk e
  have tlook : ∀ p ∈ tabs,tabs.lookup p.1 = some p.2:=by
    clear hT hsp tmem
    induction tabs with
    | nil=>intro p hp; cases hp
    | cons t r ih =>
      intro p hp
      rw [List.map_cons,List.nodup_cons] at nd
      rcases List.mem_cons.mp hp with rfl | hp
      · rw [List.lookup_cons,beq_self_eq_true]
      · have : (p.1 == t.1) = false:=beq_eq_false_iff_ne.mpr fun z=>nd.1 (List.mem_map.mpr ⟨p,hp,z⟩)
        rw [List.lookup_cons,this]
        exact ih nd.2 p hp
  have core : ∀ H : Hp,SqL K H a (ns.map V.int)→HOk P w H s₁.heap→(∀ b,H b = none∨(b = a∧K.lookup a = none∧∃ o xs,H b = some (.frz o (.lst xs)))∨∃ q,(b,q) ∈ tabs∧H b = some (tabQ q))→(∀ p ∈ tabs,H p.1 = some (tabQ p.2)) →
      codeAny (model P w) callerA (.call (.ref fa) ⟨[.ref a],[]⟩) (fun r s'=>r = .ok (.ret (.bool true))∧OldK s₁.heap s'.heap∧s'.os = s₁.os∧AllBare s'.gens) s₁:=by
    intro H hS hok hA hTb
    have base_of : ∀ {b : Addr} {o : Obj},s₁.heap.get? b = some o→H b = none→(hidT s₁.heap H).get? b = some o:=fun e n=>hidT_get e n
    have noA : ∀ {b : Addr} {o : Obj},s₁.heap.get? b = some o→o.cls≠.type "list"→o.cls≠.none→H b = none:=fun {b o} e d1 d2=>by
      rcases hA b with z | ⟨z,_⟩ | ⟨q,z,_⟩
      · exact z
      · subst z; rw [ha] at e; cases e; exact absurd rfl d1
      · rw [(hT _ z).1] at e; cases e; exact absurd rfl d2
    have noD : ∀ {b : Addr} {o : Obj} {es : Array DictEntry} {ep : Nat},s₁.heap.get? b = some o→o.data = .dict es ep→H b = none:=fun {b o es ep} e d=>by
      rcases hA b with z | ⟨z,_⟩ | ⟨q,z,_⟩
      · exact z
      · subst z; rw [ha] at e; cases e; cases d
      · rw [(hT _ z).1] at e; cases e; cases d
    have nsK : ∀ {b : Addr} {m : Str→Option Value},s₁.heap.Ns b m→(hidT s₁.heap H).Ns b m:=fun {b m} ⟨o,es,ep,e,d,r⟩=>⟨o,es,ep,base_of e (noD e d),d,r⟩
    have hKb : K.In (hidT s₁.heap H):=fun b o e=>base_of (KX b o e) (by
      rcases hA b with z | ⟨z,zk,_⟩ | ⟨q,z,_⟩
      · exact z
      · subst z; rw [zk] at e; cases e
      · rw [(hT _ z).2.1] at e; cases e)
    have hM : Mod K mg (hidT s₁.heap H):=⟨hKb,nsK hns,⟨mb,nsK hb,hbb⟩,let ⟨mc,h1,h2⟩:=hlim; ⟨mc,nsK h1,h2⟩⟩
    have hB : BM mg (hidT s₁.heap H):=by
      obtain ⟨bm,ob,b1,b2,b3,b4,b5,b6,b7⟩:=hbm
      exact ⟨bm,ob,b1,b2,b3,base_of b4 (noA b4 (by rw [b5]; decide) (by rw [b5]; nofun)),b5,b6,b7⟩
    have e0 : Env0 P w K mg (hidT s₁.heap H) callerA [] s₁ H:=⟨rfl,hM,fun b o e=>of_hidT e,Nat.le_of_eq (hidT_size _ _),trivial,fun b hb=>absurd (show b ∈ ([] : List Addr) from hb) (by simp),hok,.of_eq hg⟩
    refine codeAny_mono ((F _ hKb (nsK hns) hB).run callerA [] s₁ H ⟨[.ref a],[]⟩ [.ref a] [.ref a] _ _ hr e0 (hbind s₁ (.ref a)) (.cons rfl .nil) (hsp H hS hTb)) fun r s' h=>?_
    cases r with
    | error e=>exact (hCX H e s' h).elim
    | ok fl =>
      cases fl with
      | next=>exact False.elim h
      | brk=>exact False.elim h
      | cont=>exact False.elim h
      | ret u =>
        obtain ⟨v,H',os,bare,un,hok',r',q⟩:=h
        have q' : v = .bl true:=q
        subst q'
        obtain rfl : u = Value.bool true:=r'
        have old : ∀ b o,s₁.heap.get? b = some o→asItWas s₁.heap s'.heap b o∧∃ o',s'.heap.get? b = some o':=fun b o e=>by
          rcases hA b with z | ⟨_,_,ob,xs,z⟩ | ⟨q,zm,z⟩
          · have:=un.keep b o e z (by intro y; exact absurd (show b ∈ ([] : List Addr) from y) (by simp)) (by simp)
            exact ⟨.inl this,o,this⟩
          · have z2:=un.frzs b ob _ z
            obtain ⟨e1,_⟩:=hok b _ z
            obtain ⟨e2,_⟩:=hok' b _ z2
            rw [e] at e1; cases e1
            exact ⟨.inl e2,o,e2⟩
          · obtain ⟨more,z2⟩:=un.tbls b _ z
            obtain ⟨ts,e2,_⟩:=hok' b _ z2
            obtain ⟨t1,_,c,t3⟩:=hT _ zm
            have t1' : s₁.heap.get? b = some (tabObj #[]):=t1
            rw [e] at t1'; cases t1'
            refine ⟨.inr (.inl ⟨((codeHd_of_K KX t3).tab t1).isCodeTable,rfl,#[],ts,rfl,by rw [Array.empty_append]; exact e2⟩),_,e2⟩
        exact ⟨rfl,⟨fun b o e=>(old b o e).1,fun b o e=>(old b o e).2⟩,os,bare⟩
  have neA : ∀ q,(a,q) ∉ tabs:=fun q z=>by
    have:=(hT _ z).1
    rw [show ((a,q) : Addr × Str).1 = a from rfl,ha] at this; cases this
  have tabok : ∀ (H : Hp) (b : Addr) (q : Str),(b,q) ∈ tabs→ObjOk P w H s₁.heap b (tabQ q):=fun H b q z=>⟨#[],(hT _ z).1,trivial,fun pos cv e=>by cases e⟩
  cases hk : K.lookup a with
  | some o =>
    have e:=KX a o hk
    rw [ha] at e
    cases e
    refine core (fun b=>(tabs.lookup b).map tabQ) (.inr ⟨_,vs.toArray,_,hk,rfl,rfl,rfl,by rw [List.size_toArray,lenV]; exact hl,by simpa using rv⟩) (fun b u z=>?_) (fun b=>?_) fun p hp=>by rw [tlook p hp]; rfl
    · dsimp only at z
      cases q : tabs.lookup b with
      | none=>rw [q] at z; cases z
      | some y=>rw [q] at z; cases z; exact tabok _ b y (tmem b y q)
    · cases q : tabs.lookup b with
      | none=>exact .inl rfl
      | some y=>exact .inr (.inr ⟨y,tmem b y q,rfl⟩)
  | none =>
    refine core (fun b=>if b = a then some (.frz { cls:=.type "list",data:=.seq vs.toArray } (.lst (ns.map V.int))) else (tabs.lookup b).map tabQ) (.inl (.inr ⟨{ cls:=.type "list",data:=.seq vs.toArray },if_pos rfl⟩)) (fun b u z=>?_) (fun b=>?_) fun p hp=>?_
    · by_cases hb : b = a
      · have z':=(if_pos hb).symm.trans z
        cases z'
        subst hb
        exact ⟨ha,by rw [List.length_map]; exact hl,vs,_,rv,ha⟩
      · have z':=(if_neg hb).symm.trans z
        cases q : tabs.lookup b with
        | none=>rw [q] at z'; cases z'
        | some y=>rw [q] at z'; cases z'; exact tabok _ b y (tmem b y q)
    · by_cases hb : b = a
      · exact .inr (.inl ⟨hb,hk,_,_,if_pos hb⟩)
      · cases q : tabs.lookup b with
        | none=>exact .inl (by rw [if_neg hb]; rfl)
        | some y=>exact .inr (.inr ⟨y,tmem b y q,by rw [if_neg hb]; rfl⟩)
    · have : p.1≠a:=fun z=>neA p.2 (by rw [← z]; exact hp)
      rw [if_neg this,tlook p hp]; rfl
theorem walk_ofT {l : OpenLaw} {n k : Nat} {q : Program} {loose : List Str} {XP : (Str→Option Value)→Heap→Prop} {YP : World→Heap→Prop} {d : DefRec} {K : Params→Frag} {CX : World→CXT} {sp : World→(Str→Option Value)→Sp} {x : Str} {ts : List Addr} {tabs : Frag→(Str→Option Value)→List (Addr × Str)}
    (hn : l.most = some n) (hn2 : n≤sizeLine) (hdf : d.params.defaults = []) (hr : Room k callerA)
    (hY : ∀ (w : World) (h : Heap),YP w h→(K w.params).In h) (hY2 : ∀ (w : World) (h : Heap),YP w h→∀ P ∈ ts,h.get? P = some (tabObj #[]))
    (F : ∀ (w : World) (mg : Str→Option Value) (fa : Addr) (h : Heap),(K w.params).In h→h.Ns mainGlobals mg→mg d.name = some (.ref fa) →
      ∃ fd : FuncData,(∀ (s : Shared) (u : Value),BindsTo s fd ⟨[u],[]⟩ [(x,u)])∧(∀ p ∈ tabs (K w.params) mg,p.1 ∈ ts∧(K w.params).lookup p.1 = none∧∃ c,codeHdIn (K w.params) c p.1 = true)∧((tabs (K w.params) mg).map (·.1)).Nodup ∧
        ∀ base : Heap,(K w.params).In base→base.Ns mainGlobals mg→BM mg base→FnOk l.prog w (K w.params) mg base (CX w) k fa fd [x] (sp w mg))
    (hsp : ∀ (w : World) (mg : Str→Option Value) (H : Hp) (a : Addr) (ns : List Int),ns.length≤n→SqL (K w.params) H a (ns.map V.int)→(∀ p ∈ tabs (K w.params) mg,H p.1 = some (tabQ p.2))→sp w mg [.ref a] H (fun v _=>v = .bl true) fun _ _ _=>False)
    (hCX : ∀ (w : World) (H : Hp) (s : Shared) (e : Value) (s' : Shared),CX w [] H s (fun _ _ _=>False) e s'→False) :
    WalkO q loose XP YP l.row.toRowW d [] (fun f vs=>PySem.call f vs):=by
  refine Att.attach_call hn hdf fun w s₀ s₁ mg mb fa o pm cd doc a vs ns G Y ho hd hcd hmg hobj hints hlen hg=>?_
  have KX:=hY w _ Y
  have TX:=hY2 w _ Y
  obtain ⟨fd,hb,hT,nd,hF⟩:=F w mg fa _ KX G.T.g hmg
  have hbm : BM mg s₁.heap:=by
    obtain ⟨bm,ob,b1,b2,b3,b4,b5,b6⟩:=G.T.bmain
    have bG : bm≠mainGlobals:=fun z=>by
      obtain ⟨o,es,ep,e,hd,_⟩:=G.T.g
      rw [z,e] at b3; cases b3; rw [hd] at b6; cases b6
    exact ⟨bm,ob,b1,b2,bG,b3,b4,b5,b6⟩
  exact law_callT KX G.T.g G.T.b G.T.builtins G.T.nolimit hg hbm hobj hints (Nat.le_trans hlen hn2) hr (fun p hp=>⟨TX _ (hT p hp).1,(hT p hp).2⟩) nd hF hb (fun H hS hTb=>hsp w mg H a ns hlen hS hTb) fun H e s'=>hCX w H s₁ e s'
end L2
set_option Elab.async false
set_option linter.all false
set_option maxRecDepth 100000
set_option maxHeartbeats 1000000
namespace L2
open PySem PySem.Spec PyProof.Rows PySem.W
section
variable {X : Cx}
def rMin1 (K : Frag) : List V→Hp→VK→Prop:=fun xs H Q=>∃ (p : Addr) (ns : List Int),xs = [.ref p]∧SqL K H p (ns.map V.int)∧ns≠[]∧∀ m,m ∈ ns→(∀ a ∈ ns,m≤a)→Q (.int m) H
def rMax1 (K : Frag) : List V→Hp→VK→Prop:=fun xs H Q=>∃ (p : Addr) (ns : List Int),xs = [.ref p]∧SqL K H p (ns.map V.int)∧ns≠[]∧∀ m,m ∈ ns→(∀ a ∈ ns,a≤m)→Q (.int m) H
end
end L2
set_option Elab.async false
set_option linter.all false
set_option maxRecDepth 100000
set_option maxHeartbeats 1000000
namespace L2
open PySem PySem.Spec PyProof.Rows PySem.W
theorem maxKD_args (a v d : Value) : argsOk "max" ⟨[a],[(Str.ofString "key",v),(Str.ofString "default",d)]⟩:=by unfold argsOk; kernel_rfl
def BestK (kz : Int→Int) (ns : List Int) (m i : Nat) : Prop:=∀ j,j < m→kz (nth ns j)≤kz (nth ns i)∧(j < i→kz (nth ns j) < kz (nth ns i))
theorem BestK.one (kz : Int→Int) (ns : List Int) : BestK kz ns 1 0:=fun j hj=>⟨by rw [show j = 0 by omega]; exact Int.le_refl _,fun h=>absurd h (by omega)⟩
theorem BestK.take {kz : Int→Int} {ns : List Int} {m i : Nat} (h : BestK kz ns m i) (hi : i < m) (c : kz (nth ns m) > kz (nth ns i)) : BestK kz ns (m + 1) m:=fun j hj=>by
  by_cases e : j = m
  · subst e; exact ⟨Int.le_refl _,fun h=>absurd h (by omega)⟩
  · have:=(h j (by omega)).1
    exact ⟨by omega,fun _=>by omega⟩
theorem BestK.keep {kz : Int→Int} {ns : List Int} {m i : Nat} (h : BestK kz ns m i) (hi : i < m) (c : ¬ kz (nth ns m) > kz (nth ns i)) : BestK kz ns (m + 1) i:=fun j hj=>by
  by_cases e : j = m
  · subst e; exact ⟨by omega,fun z=>absurd z (by omega)⟩
  · exact h j (by omega)
section
variable {X : Cx}
theorem pin_facts {σ : St} {H' : Hp} {s' : Shared} {ps : List (Addr × Obj)} {x : Addr} {o : Obj} (J : Inv X ps σ H' s') (hm : (x,o) ∈ ps) : s'.heap.get? x = some o∧H' x = none∧x≠X.env.locals∧x ∉ X.fs∧(∀ v,o.data≠.cell v)∧∀ y cc,X.env.cells.lookup y = some cc→cc≠x:=by
  obtain ⟨q1,q2,q3,q4,q5⟩:=J.pin _ (List.mem_append_right _ hm)
  refine ⟨q1,q2,q3,q4,q5,fun y cc hc z=>?_⟩
  obtain ⟨v,oc,w1,w2⟩:=J.cell y cc hc
  rw [z,q1] at w1; cases w1; exact q5 _ w2
theorem maxK_loop {pins : List (Addr × Obj)} {σ : St} {H : Hp} {A : Around} {R : Result→Shared→Prop} {d : Value} {dk : Str} {l I S q : Addr} {ns : List Int} {kz : Int→Int}
    (hh : A.handled = none) (hlI : l≠I) (hSI : S≠I) (hI0 : X.s₀.heap.objs.size≤I) (hS0 : X.s₀.heap.objs.size≤S) (hp : ∀ p ∈ X.pn ++ pins,p.1≠I∧p.1≠S) (hl : H l = some (.lst (ns.map V.int)))
    (turn : ∀ (H' : Hp) (s' : Shared) (pins' : List (Addr × Obj)) (n : Int) (u : Value),n ∈ ns→Inv X pins' σ H' s'→Same H H'→RelV (.int n) u→wpAny (model X.prog X.w) A.in1 (call (.ref q) [u]) (EP X pins' σ fun v H2=>v = .int (kz n)∧Same H' H2) (fun _ _=>False) s')
    (hR0 : ns = []→∀ H' s',Inv X pins σ H' s'→Same H H'→R (.ok (.ret d)) s')
    (hR : ∀ (i : Nat) (v : Value) H' s',i < ns.length→RelV (.int (nth ns i)) v→BestK kz ns ns.length i→Inv X pins σ H' s'→Same H H'→R (.ok (.ret v)) s') :
    ∀ (r j : Nat) (H' : Hp) (s' : Shared) (buf : Array Value) (c : Nat) (oI : Obj),ns.length - j = r→j≤ns.length→Inv X ((S,seqObj "list" buf c) :: (I,oI) :: pins) σ H' s'→Same H H'→s'.heap.IsListIter I l j →
      ((j = 0∧buf = #[])∨∃ (i : Nat) (vb : Value) (tb : Tok),i < j∧buf = #[vb,.int (kz (nth ns i)) tb]∧RelV (.int (nth ns i)) vb∧BestK kz ns j i) →
      codeAny (model X.prog X.w) A (.builtin "max.loop" ⟨[.ref I,.ref q,.ref S],[(dk,d)]⟩) R s':=by
  have hname : (toString "max" ++ toString ".loop" : String) = "max.loop":=by decide
  intro r
  induction r with
  | zero =>
    intro j H' s' buf c oI hr hj J sm hit hb
    have hjn : j = ns.length:=by omega
    obtain ⟨oS,nS,lS,fS,_,cS⟩:=pin_facts J (List.mem_cons_self ..)
    obtain ⟨oI',nI,lI,fI,dI,cI⟩:=pin_facts J (List.mem_cons_of_mem _ (List.mem_cons_self ..))
    obtain ⟨its,rv,pl,_⟩:=J.list (SqL.of (sm _ _ hl))
    have hlen : its.length = ns.length:=by have:=rv.length; rw [List.length_map] at this; omega
    have hsz : its.toArray.size = its.length:=List.size_toArray ..
    have W:=Walks.list (prog:=X.prog) (w:=X.w) (A:=A.in1) hh I l hlI its.toArray
    have J0 : Inv X pins σ H' s':=J.pins_of fun p hp'=>J.pin p (List.mem_append_right _ (List.mem_cons_of_mem _ (List.mem_cons_of_mem _ hp')))
    refine codeAny_builtin PySem.F.entry_max_loop ?_
    rw [Around.under_plainId PySem.F.plain_max_loop _]
    show wpAny _ A.in1 (seqItems? (.ref S) >>= _) _ _ _
    refine wpAny_bind (wpAny_seqItems oS rfl ?_)
    rcases hb with ⟨hj0,rfl⟩ | ⟨i,vb,tb,hi,rfl,rvb,hB⟩
    · refine wpAny_bind (wpAny_tryCatch (W.done _ _ _ ⟨by rw [hsz,hlen,← hjn]; exact hit,pl.isList⟩ fun h' tk' hk'=>?_))
      refine wpAny_bind (wpAny_rule (wpAny_pure ?_))
      exact hR0 (List.length_eq_zero_iff.mp (by omega)) H' _ (J0.turned (it:=I) (fun b o nb e=>hk' b o (by simpa using nb) e) nI lI (.inr hI0) cI fun p hp'=>(hp p hp').1) sm
    · refine wpAny_bind (wpAny_tryCatch (W.done _ _ _ ⟨by rw [hsz,hlen,← hjn]; exact hit,pl.isList⟩ fun h' tk' hk'=>?_))
      have hS':=hk' S _ (by simpa using hSI) oS
      have J1:=J0.turned (t':=tk') (h':=h') (it:=I) (fun b o nb e=>hk' b o (by simpa using nb) e) nI lI (.inr hI0) cI fun p hp'=>(hp p hp').1
      refine wpAny_bind (wpAny_updateSeq hS' rfl ?_ (show 2≤sizeLine by decide) (Nat.zero_le _))
      refine wpAny_bind (wpAny_letGo (wpAny_pure ?_))
      have J2:=J1.turned (t':=tk') (h':=h'.update S (Obj.mapSeq fun _=>(#[] : Array Value))) (it:=S) (fun b o nb e=>(Heap.get?_update_ne _ _ _ _ nb).trans e) nS lS (.inr hS0) cS fun p hp'=>(hp p hp').2
      exact hR i vb H' _ (by omega) rvb (hjn ▸ hB) J2 sm
  | succ r ih =>
    intro j H' s' buf c oI hr hj J sm hit hb
    have hlt : j < ns.length:=by omega
    obtain ⟨oS,nS,lS,fS,_,cS⟩:=pin_facts J (List.mem_cons_self ..)
    obtain ⟨oI',nI,lI,fI,dI,cI⟩:=pin_facts J (List.mem_cons_of_mem _ (List.mem_cons_self ..))
    obtain ⟨its,rv,pl,_⟩:=J.list (SqL.of (sm _ _ hl))
    have hlen : its.length = ns.length:=by have:=rv.length; rw [List.length_map] at this; omega
    have hsz : its.toArray.size = its.length:=List.size_toArray ..
    have W:=Walks.list (prog:=X.prog) (w:=X.w) (A:=A.in1) hh I l hlI its.toArray
    have J0 : Inv X ((S,seqObj "list" buf c) :: pins) σ H' s':=J.pins_of fun p hp'=>J.pin p (List.mem_append_right _ (by
      rcases List.mem_cons.mp hp' with z | z
      · exact List.mem_cons.mpr (.inl z)
      · exact List.mem_cons_of_mem _ (List.mem_cons_of_mem _ z)))
    refine codeAny_builtin PySem.F.entry_max_loop ?_
    rw [Around.under_plainId PySem.F.plain_max_loop _]
    show wpAny _ A.in1 (seqItems? (.ref S) >>= _) _ _ _
    refine wpAny_bind (wpAny_seqItems oS rfl ?_)
    have step : ∀ (v : Value) (h' : Heap) (tk' : Nat),its.toArray[j]? = some v→h'.IsListIter I l (j + 1)∧h'.IsList l its.toArray→(∀ b o,b ∉ [I]→s'.heap.get? b = some o→h'.get? b = some o)→RelV (.int (nth ns j)) v∧∃ oI2,h'.get? I = some oI2∧Inv X ((S,seqObj "list" buf c) :: (I,oI2) :: pins) σ H' { s' with heap:=h',toks:=tk' }:=fun v h' tk' hP hst hk'=>by
      refine ⟨?_,?_⟩
      · obtain ⟨v',e1,e2⟩:=rv.get (i:=j) (x:=V.int (nth ns j)) (by unfold nth; rw [List.getElem?_map,List.getD_eq_getElem?_getD,List.getElem?_eq_getElem hlt]; rfl)
        have : its[j]? = some v:=by simpa using hP
        rw [e1] at this; cases this; exact e2
      · obtain ⟨oI2,g2,hcls,hdat⟩:=id hst.1
        have J1:=J0.turned (t':=tk') (h':=h') (it:=I) (fun b o nb e=>hk' b o (by simpa using nb) e) nI lI (.inr hI0) cI fun p hp'=>by
          rcases List.mem_append.mp hp' with z | z
          · exact (hp p (List.mem_append_left _ z)).1
          · rcases List.mem_cons.mp z with rfl | z
            · exact hSI
            · exact (hp p (List.mem_append_right _ z)).1
        refine ⟨oI2,g2,J1.pins_of fun p hp'=>?_⟩
        rcases List.mem_cons.mp hp' with rfl | hp'
        · exact J1.pin _ (List.mem_append_right _ (List.mem_cons_self ..))
        · rcases List.mem_cons.mp hp' with rfl | hp'
          · exact ⟨g2,nI,lI,fI,fun v z=>by rw [hdat] at z; cases z⟩
          · exact J1.pin _ (List.mem_append_right _ (List.mem_cons_of_mem _ hp'))
    have write : ∀ {H2 : Hp} {s2 : Shared} {oI2 : Obj} (v : Value) (t2 : Tok) (b2 : Array Value) (c0 : Nat),Inv X ((S,seqObj "list" b2 c0) :: (I,oI2) :: pins) σ H2 s2→∃ c2,Inv X ((S,seqObj "list" #[v,.int (kz (nth ns j)) t2] c2) :: (I,oI2) :: pins) σ H2 { s2 with heap:=s2.heap.update S (Obj.mapSeq fun _=>#[v,.int (kz (nth ns j)) t2]) }:=fun {H2 s2 oI2} v t2 b2 c0 K=>by
      obtain ⟨o2,n2,l2,f2,_,cc2⟩:=pin_facts K (List.mem_cons_self ..)
      obtain ⟨c2,hc2⟩ : ∃ c2,(s2.heap.update S (Obj.mapSeq fun _=>#[v,.int (kz (nth ns j)) t2])).get? S = some (seqObj "list" #[v,.int (kz (nth ns j)) t2] c2):=⟨_,get?_update_seq o2 fun _=>#[v,.int (kz (nth ns j)) t2]⟩
      have K0 : Inv X ((I,oI2) :: pins) σ H2 s2:=K.pins_of fun p hp'=>K.pin p (List.mem_append_right _ (List.mem_cons_of_mem _ hp'))
      have K1:=K0.turned (t':=s2.toks) (h':=s2.heap.update S (Obj.mapSeq fun _=>#[v,.int (kz (nth ns j)) t2])) (it:=S) (fun b o nb e=>(Heap.get?_update_ne _ _ _ _ nb).trans e) n2 l2 (.inr hS0) cc2 fun p hp'=>by
        rcases List.mem_append.mp hp' with z | z
        · exact (hp p (List.mem_append_left _ z)).2
        · rcases List.mem_cons.mp z with rfl | z
          · exact hSI.symm
          · exact (hp p (List.mem_append_right _ z)).2
      refine ⟨c2,K1.pins_of fun p hp'=>?_⟩
      rcases List.mem_cons.mp hp' with rfl | hp'
      · exact ⟨hc2,n2,l2,f2,fun v z=>by cases z⟩
      · exact K1.pin p (List.mem_append_right _ hp')
    have mem : nth ns j ∈ ns:=by unfold nth; rw [List.getD_eq_getElem?_getD,List.getElem?_eq_getElem hlt]; exact List.getElem_mem hlt
    rcases hb with ⟨hj0,rfl⟩ | ⟨i,vb,tb,hi,rfl,rvb,hB⟩
    · refine wpAny_bind (wpAny_tryCatch (W.item j _ _ _ (by rw [hsz,hlen]; exact hlt) ⟨hit,pl.isList⟩ fun v h' tk' hP hst' hk'=>?_))
      obtain ⟨rj,oI2,gI,J2⟩:=step v h' tk' hP hst' hk'
      obtain ⟨oI3,gI3,hcls,hdat⟩:=id hst'.1
      rw [gI] at gI3; cases gI3
      refine wpAny_bind (wpAny_tryCatch (wpAny_holding (wpAny_mono (turn H' _ _ _ v mem J2 sm rj) (fun x s'' he=>?_) fun _ _ hF=>hF.elim)))
      obtain ⟨x2,H2,J3,r2,rfl,sm2⟩:=he
      obtain ⟨t2,rfl⟩:=r2
      obtain ⟨oS3,_⟩:=pin_facts J3 (List.mem_cons_self ..)
      obtain ⟨oI4,_⟩:=pin_facts J3 (List.mem_cons_of_mem _ (List.mem_cons_self ..))
      obtain ⟨c2,J4⟩:=write v t2 _ _ J3
      refine wpAny_bind (wpAny_updateSeq oS3 rfl ?_ (Nat.zero_le _) (show 2≤sizeLine + 1 by decide))
      rw [hname]
      refine wpAny_pure ⟨plainId_quiet PySem.F.plain_max_loop _,ih (j + 1) H2 _ _ c2 oI2 (by omega) hlt J4 (sm.trans sm2) ⟨oI2,(Heap.get?_update_ne _ _ _ _ hSI.symm).trans oI4,hcls,hdat⟩ (.inr ⟨j,v,t2,by omega,rfl,rj,?_⟩)⟩
      subst hj0; exact BestK.one kz ns
    · refine wpAny_bind (wpAny_tryCatch (W.item j _ _ _ (by rw [hsz,hlen]; exact hlt) ⟨hit,pl.isList⟩ fun v h' tk' hP hst' hk'=>?_))
      obtain ⟨rj,oI2,gI,J2⟩:=step v h' tk' hP hst' hk'
      obtain ⟨oI3,gI3,hcls,hdat⟩:=id hst'.1
      rw [gI] at gI3; cases gI3
      refine wpAny_bind (wpAny_tryCatch (wpAny_holding (wpAny_mono (turn H' _ _ _ v mem J2 sm rj) (fun x s'' he=>?_) fun _ _ hF=>hF.elim)))
      obtain ⟨x2,H2,J3,r2,rfl,sm2⟩:=he
      obtain ⟨t2,rfl⟩:=r2
      obtain ⟨oS3,_⟩:=pin_facts J3 (List.mem_cons_self ..)
      obtain ⟨oI4,_⟩:=pin_facts J3 (List.mem_cons_of_mem _ (List.mem_cons_self ..))
      refine wpAny_bind (wpAny_tryCatch (wpAny_holding (wpAny_bind (CmpOf.ints_gt (prog:=X.prog) (w:=X.w) (A:=A.in1) (P:=fun i v=>∃ t,v = .int (kz (nth ns i)) t) (fun i=>kz (nth ns i)) (fun i v h=>h) j i _ _ _ _ _ ⟨t2,rfl⟩ ⟨tb,rfl⟩ ?_))))
      refine wpAny_bind (wpAny_holding (wpAny_truthy_bool ?_))
      refine wpAny_bind (wpAny_letGo (wpAny_pure ?_))
      by_cases hb' : kz (nth ns j) > kz (nth ns i)
      · simp only [hb',decide_true,if_true]
        obtain ⟨c2,J4⟩:=write v t2 _ _ J3
        refine wpAny_bind (wpAny_updateSeq oS3 rfl (wpAny_bind (wpAny_letGo ?_)) (show 2≤sizeLine by decide) (show 2≤sizeLine + 1 by decide))
        rw [hname]
        exact wpAny_pure ⟨plainId_quiet PySem.F.plain_max_loop _,ih (j + 1) H2 _ _ c2 oI2 (by omega) hlt J4 (sm.trans sm2) ⟨oI2,(Heap.get?_update_ne _ _ _ _ hSI.symm).trans oI4,hcls,hdat⟩ (.inr ⟨j,v,t2,by omega,rfl,rj,hB.take hi hb'⟩)⟩
      · simp only [hb',decide_false,Bool.false_eq_true,if_false]
        refine wpAny_bind (wpAny_letGo ?_)
        rw [hname]
        exact wpAny_pure ⟨plainId_quiet PySem.F.plain_max_loop _,ih (j + 1) H2 _ _ c oI2 (by omega) hlt J3 (sm.trans sm2) ⟨oI2,oI4,hcls,hdat⟩ (.inr ⟨i,vb,tb,by omega,rfl,rvb,hB.keep hi hb'⟩)⟩
theorem maxKD {pins : List (Addr × Obj)} {σ : St} {H : Hp} {s : Shared} {l q : Addr} {ns : List Int} {kz : Int→Int} {d : Value} {dv : V} {Q : VK} (I : Inv X pins σ H s) (hc : X.calm = true) (hl : H l = some (.lst (ns.map V.int))) (rd : RelV dv d)
    (turn : ∀ (H' : Hp) (s' : Shared) (pins' : List (Addr × Obj)) (n : Int) (u : Value),n ∈ ns→Inv X pins' σ H' s'→Same H H'→RelV (.int n) u→wpAny (model X.prog X.w) X.A.in1 (call (.ref q) [u]) (EP X pins' σ fun v H2=>v = .int (kz n)∧Same H' H2) (fun _ _=>False) s')
    (fin0 : ns = []→∀ H',Same H H'→Q dv H') (fin : ∀ i H',i < ns.length→BestK kz ns ns.length i→Same H H'→Q (.int (nth ns i)) H') :
    wpAny (model X.prog X.w) X.A (call (.builtin "max") [.ref l] [(Str.ofString "key",.ref q),(Str.ofString "default",d)]) (EP X pins σ Q) X.xe s:=by
  have hname : (toString "max" ++ toString ".loop" : String) = "max.loop":=by decide
  obtain ⟨its,rv,pl,_⟩:=I.list (SqL.of hl)
  obtain ⟨ol,hol,_⟩:=id pl.isList
  have hll : l < s.heap.objs.size:=Heap.lt_size hol
  refine kmk_tree PySem.F.kind_max PySem.F.plain_max PySem.F.entry_max (maxKD_args _ _ _) ?_
  show wpAny _ X.A.in1 (Builtin.Builtins.bindParams "max" ["key","default"] 0 ⟨[],[(Str.ofString "key",.ref q),(Str.ofString "default",d)]⟩ >>= _) _ _ s
  refine wpAny_bind (wpAny_of_eq (show Builtin.Builtins.bindParams "max" ["key","default"] 0 ⟨[],[(Str.ofString "key",.ref q),(Str.ofString "default",d)]⟩ = pure [some (.ref q),some d] from rfl) ?_)
  refine wpAny_bind (wpAny_pure ?_)
  refine wpAny_bind (wpAny_pyIter_list pl.isList ?_)
  refine wpAny_bind (wpAny_newList ?_ (Nat.zero_le _))
  rw [hname]
  refine wpAny_pure ⟨plainId_quiet PySem.F.plain_max_loop _,?_⟩
  have hS : (s.heap.push { cls:=.type "list_iterator",data:=.fields #[.ref l,.int 0 0] }).objs.size = s.heap.objs.size + 1:=size_push' ..
  have I2:=I.kept (h':=(s.heap.push { cls:=.type "list_iterator",data:=.fields #[.ref l,.int 0 0] }).push (seqObj "list" #[] 0)) (t':=s.toks) fun b o e=>Heap.get?_push_of_some _ (Heap.get?_push_of_some _ e)
  have gI : ((s.heap.push { cls:=.type "list_iterator",data:=.fields #[.ref l,.int 0 0] }).push (seqObj "list" #[] 0)).get? s.heap.objs.size = some { cls:=.type "list_iterator",data:=.fields #[.ref l,.int 0 0] }:=Heap.get?_push_of_some _ (Heap.get?_push_size _ rfl)
  have gS : ((s.heap.push { cls:=.type "list_iterator",data:=.fields #[.ref l,.int 0 0] }).push (seqObj "list" #[] 0)).get? (s.heap.objs.size + 1) = some (seqObj "list" #[] 0):=by rw [← hS]; exact Heap.get?_push_size _ rfl
  rw [hS]
  refine maxK_loop (pins:=pins) (H:=H) (ns:=ns) (kz:=kz) (I.ok.hd hc) (Nat.ne_of_lt hll) (Nat.ne_of_gt (Nat.lt_succ_self _)) I.sz (Nat.le_succ_of_le I.sz) (fun p hp=>?_) hl turn (fun z H' s' J sm=>⟨dv,H',J,rd,fin0 z H' sm⟩) (fun i v H' s' hi r hB J sm=>⟨.int (nth ns i),H',J,r,fin i H' hi hB sm⟩) _ 0 H _ #[] 0 { cls:=.type "list_iterator",data:=.fields #[.ref l,.int 0 0] } rfl (Nat.zero_le _) (I2.pins_of fun p hp=>?_) (Same.refl H) ⟨_,gI,rfl,rfl⟩ (.inl ⟨rfl,rfl⟩)
  · have:=Heap.lt_size (I.pin p hp).1
    exact ⟨Nat.ne_of_lt this,Nat.ne_of_lt (Nat.lt_succ_of_lt this)⟩
  · rcases List.mem_cons.mp hp with rfl | hp
    · exact ⟨gS,I.hok.fresh (Nat.le_succ _),Nat.ne_of_gt (Nat.lt_succ_of_lt I.lt),I.nofs (Nat.le_succ _),fun v z=>by cases z⟩
    · rcases List.mem_cons.mp hp with rfl | hp
      · exact ⟨gI,I.hok.fresh (Nat.le_refl _),Nat.ne_of_gt I.lt,I.nofs (Nat.le_refl _),fun v z=>by cases z⟩
      · exact I2.pin p (List.mem_append_right _ hp)
def tMaxKD (ta td : TA) (tb : TE) (js : List (Option Nat)) (env : Env) (P : Addr) (q : Str) (params : Arguments) (body : Expr) (scope : Scope) : TE:=fun σ H Q=>ta σ H fun vs H1=>td σ H1 fun zs H2=>∃ (p f : Addr) (dv : V) (ns : List Int) (kz : Int→Int),
  vs = [.ref p]∧zs = [.ref f,dv]∧H2 p = some (.lst (ns.map V.int))∧LamO env P q params body scope H2 f ∧
  (∀ n H3,n ∈ ns→Same H2 H3→tb ((iniC js σ).set 0 (some (.int n))) H3 fun v H4=>v = .int (kz n)∧Same H3 H4) ∧
  (ns = []→∀ H3,Same H2 H3→Q dv H3)∧∀ i H3,i < ns.length→BestK kz ns ns.length i→Same H2 H3→Q (.int (nth ns i)) H3
theorem pe_maxKD {Nc : List Str} {js : List (Option Nat)} {q pn : Str} {params : Arguments} {body : Expr} {scope : Scope} {P : Addr} {ta td : TA} {tb : TE} {m : Nat} {e : Expr} {e2 : Expr} {p pos lpos kp1 kp2 : Pos} (hc : X.calm = true) (hr : Room m X.A) (S : LamSc X Nc js params body scope pn)
    (hbody : ∀ cl L f c s H,PE (lamCx X X.A.in1 Nc q scope cl L f c s H) body tb) (hg : Gl X "max") (hm : X.mg "max" = none) (ha : PA X [e] ta) (hd : PK X [⟨some (Str.ofString "key"),.Lambda params body scope lpos,kp1⟩,⟨some (Str.ofString "default"),e2,kp2⟩] td)
    (hpl : (backTo pos (starEach [e] X.env)).any (·.1) = false:=by rfl) (hall : (backToKw pos (keywordEach [⟨some (Str.ofString "key"),.Lambda params body scope lpos,kp1⟩,⟨some (Str.ofString "default"),e2,kp2⟩] X.env)).all (·.1.isSome) = true:=by rfl)
    (hnn : (backToKw pos (keywordEach [⟨some (Str.ofString "key"),.Lambda params body scope lpos,kp1⟩,⟨some (Str.ofString "default"),e2,kp2⟩] X.env)).any (·.1.isNone) = false:=by rfl) (hks : (backToKw pos (keywordEach [⟨some (Str.ofString "key"),.Lambda params body scope lpos,kp1⟩,⟨some (Str.ofString "default"),e2,kp2⟩] X.env)).filterMap (·.1) = [Str.ofString "key",Str.ofString "default"]:=by rfl) (hb : backTo pos (starEach [e] X.env) = (false,eval e X.env) :: backTo pos (starEach [] X.env):=by rfl) :
    PE X (.Call (.Name "max" p) [e] [⟨some (Str.ofString "key"),.Lambda params body scope lpos,kp1⟩,⟨some (Str.ofString "default"),e2,kp2⟩] pos) (tMaxKD ta td tb js X.env P q params body scope):=by
  intro pins s σ H Q I h
  refine wpAny_Call_Name_kw (ld_blt I hg hm bt_max ?_)
  refine PyProof.Rows.callWith_kw (thn (ha pos pins s σ H _ I h) fun us s1 ⟨vs,H1,I1,r1,q1⟩=>?_) hb hpl hall hnn
  refine thn (hd pos pins s1 σ H1 _ I1 q1) fun ws s2 ⟨zs,H2,I2,r2,pp,f,dv,ns,kz,e1,e2,hp,L,tn,fin0,fin⟩=>?_
  subst e1 e2
  obtain ⟨u,rfl,ru⟩:=r1.one
  cases (show u = Value.ref pp from ru)
  rw [hks]
  obtain ⟨v,v2,rfl,rv,rv2⟩:=r2.two
  cases (show v = Value.ref f from rv)
  exact maxKD (kz:=kz) I2 hc hp rv2 (fun H' s' pins' n u hn J sm r=>lam_call S hbody J J.ok.frames J.ok.hd hr.depth (L.same sm) r (tn n H' hn sm)) fin0 fin
end
theorem minKD_args (a v d : Value) : argsOk "min" ⟨[a],[(Str.ofString "key",v),(Str.ofString "default",d)]⟩:=by unfold argsOk; kernel_rfl
def LeastK (kz : Int→Int) (ns : List Int) (m i : Nat) : Prop:=∀ j,j < m→kz (nth ns i)≤kz (nth ns j)∧(j < i→kz (nth ns i) < kz (nth ns j))
theorem LeastK.one (kz : Int→Int) (ns : List Int) : LeastK kz ns 1 0:=fun j hj=>⟨by rw [show j = 0 by omega]; exact Int.le_refl _,fun h=>absurd h (by omega)⟩
theorem LeastK.take {kz : Int→Int} {ns : List Int} {m i : Nat} (h : LeastK kz ns m i) (hi : i < m) (c : kz (nth ns m) < kz (nth ns i)) : LeastK kz ns (m + 1) m:=fun j hj=>by
  by_cases e : j = m
  · subst e; exact ⟨Int.le_refl _,fun h=>absurd h (by omega)⟩
  · have:=(h j (by omega)).1
    exact ⟨by omega,fun _=>by omega⟩
theorem LeastK.keep {kz : Int→Int} {ns : List Int} {m i : Nat} (h : LeastK kz ns m i) (hi : i < m) (c : ¬ kz (nth ns m) < kz (nth ns i)) : LeastK kz ns (m + 1) i:=fun j hj=>by
  by_cases e : j = m
  · subst e; exact ⟨by omega,fun z=>absurd z (by omega)⟩
  · exact h j (by omega)
section
variable {X : Cx}
theorem minK_loop {pins : List (Addr × Obj)} {σ : St} {H : Hp} {A : Around} {R : Result→Shared→Prop} {d : Value} {dk : Str} {l I S q : Addr} {ns : List Int} {kz : Int→Int}
    (hh : A.handled = none) (hlI : l≠I) (hSI : S≠I) (hI0 : X.s₀.heap.objs.size≤I) (hS0 : X.s₀.heap.objs.size≤S) (hp : ∀ p ∈ X.pn ++ pins,p.1≠I∧p.1≠S) (hl : H l = some (.lst (ns.map V.int)))
    (turn : ∀ (H' : Hp) (s' : Shared) (pins' : List (Addr × Obj)) (n : Int) (u : Value),n ∈ ns→Inv X pins' σ H' s'→Same H H'→RelV (.int n) u→wpAny (model X.prog X.w) A.in1 (call (.ref q) [u]) (EP X pins' σ fun v H2=>v = .int (kz n)∧Same H' H2) (fun _ _=>False) s')
    (hR0 : ns = []→∀ H' s',Inv X pins σ H' s'→Same H H'→R (.ok (.ret d)) s')
    (hR : ∀ (i : Nat) (v : Value) H' s',i < ns.length→RelV (.int (nth ns i)) v→LeastK kz ns ns.length i→Inv X pins σ H' s'→Same H H'→R (.ok (.ret v)) s') :
    ∀ (r j : Nat) (H' : Hp) (s' : Shared) (buf : Array Value) (c : Nat) (oI : Obj),ns.length - j = r→j≤ns.length→Inv X ((S,seqObj "list" buf c) :: (I,oI) :: pins) σ H' s'→Same H H'→s'.heap.IsListIter I l j →
      ((j = 0∧buf = #[])∨∃ (i : Nat) (vb : Value) (tb : Tok),i < j∧buf = #[vb,.int (kz (nth ns i)) tb]∧RelV (.int (nth ns i)) vb∧LeastK kz ns j i) →
      codeAny (model X.prog X.w) A (.builtin "min.loop" ⟨[.ref I,.ref q,.ref S],[(dk,d)]⟩) R s':=by
  have hname : (toString "min" ++ toString ".loop" : String) = "min.loop":=by decide
  intro r
  induction r with
  | zero =>
    intro j H' s' buf c oI hr hj J sm hit hb
    have hjn : j = ns.length:=by omega
    obtain ⟨oS,nS,lS,fS,_,cS⟩:=pin_facts J (List.mem_cons_self ..)
    obtain ⟨oI',nI,lI,fI,dI,cI⟩:=pin_facts J (List.mem_cons_of_mem _ (List.mem_cons_self ..))
    obtain ⟨its,rv,pl,_⟩:=J.list (SqL.of (sm _ _ hl))
    have hlen : its.length = ns.length:=by have:=rv.length; rw [List.length_map] at this; omega
    have hsz : its.toArray.size = its.length:=List.size_toArray ..
    have W:=Walks.list (prog:=X.prog) (w:=X.w) (A:=A.in1) hh I l hlI its.toArray
    have J0 : Inv X pins σ H' s':=J.pins_of fun p hp'=>J.pin p (List.mem_append_right _ (List.mem_cons_of_mem _ (List.mem_cons_of_mem _ hp')))
    refine codeAny_builtin PySem.F.entry_min_loop ?_
    rw [Around.under_plainId PySem.F.plain_min_loop _]
    show wpAny _ A.in1 (seqItems? (.ref S) >>= _) _ _ _
    refine wpAny_bind (wpAny_seqItems oS rfl ?_)
    rcases hb with ⟨hj0,rfl⟩ | ⟨i,vb,tb,hi,rfl,rvb,hB⟩
    · refine wpAny_bind (wpAny_tryCatch (W.done _ _ _ ⟨by rw [hsz,hlen,← hjn]; exact hit,pl.isList⟩ fun h' tk' hk'=>?_))
      refine wpAny_bind (wpAny_rule (wpAny_pure ?_))
      exact hR0 (List.length_eq_zero_iff.mp (by omega)) H' _ (J0.turned (it:=I) (fun b o nb e=>hk' b o (by simpa using nb) e) nI lI (.inr hI0) cI fun p hp'=>(hp p hp').1) sm
    · refine wpAny_bind (wpAny_tryCatch (W.done _ _ _ ⟨by rw [hsz,hlen,← hjn]; exact hit,pl.isList⟩ fun h' tk' hk'=>?_))
      have hS':=hk' S _ (by simpa using hSI) oS
      have J1:=J0.turned (t':=tk') (h':=h') (it:=I) (fun b o nb e=>hk' b o (by simpa using nb) e) nI lI (.inr hI0) cI fun p hp'=>(hp p hp').1
      refine wpAny_bind (wpAny_updateSeq hS' rfl ?_ (show 2≤sizeLine by decide) (Nat.zero_le _))
      refine wpAny_bind (wpAny_letGo (wpAny_pure ?_))
      have J2:=J1.turned (t':=tk') (h':=h'.update S (Obj.mapSeq fun _=>(#[] : Array Value))) (it:=S) (fun b o nb e=>(Heap.get?_update_ne _ _ _ _ nb).trans e) nS lS (.inr hS0) cS fun p hp'=>(hp p hp').2
      exact hR i vb H' _ (by omega) rvb (hjn ▸ hB) J2 sm
  | succ r ih =>
    intro j H' s' buf c oI hr hj J sm hit hb
    have hlt : j < ns.length:=by omega
    obtain ⟨oS,nS,lS,fS,_,cS⟩:=pin_facts J (List.mem_cons_self ..)
    obtain ⟨oI',nI,lI,fI,dI,cI⟩:=pin_facts J (List.mem_cons_of_mem _ (List.mem_cons_self ..))
    obtain ⟨its,rv,pl,_⟩:=J.list (SqL.of (sm _ _ hl))
    have hlen : its.length = ns.length:=by have:=rv.length; rw [List.length_map] at this; omega
    have hsz : its.toArray.size = its.length:=List.size_toArray ..
    have W:=Walks.list (prog:=X.prog) (w:=X.w) (A:=A.in1) hh I l hlI its.toArray
    have J0 : Inv X ((S,seqObj "list" buf c) :: pins) σ H' s':=J.pins_of fun p hp'=>J.pin p (List.mem_append_right _ (by
      rcases List.mem_cons.mp hp' with z | z
      · exact List.mem_cons.mpr (.inl z)
      · exact List.mem_cons_of_mem _ (List.mem_cons_of_mem _ z)))
    refine codeAny_builtin PySem.F.entry_min_loop ?_
    rw [Around.under_plainId PySem.F.plain_min_loop _]
    show wpAny _ A.in1 (seqItems? (.ref S) >>= _) _ _ _
    refine wpAny_bind (wpAny_seqItems oS rfl ?_)
    have step : ∀ (v : Value) (h' : Heap) (tk' : Nat),its.toArray[j]? = some v→h'.IsListIter I l (j + 1)∧h'.IsList l its.toArray→(∀ b o,b ∉ [I]→s'.heap.get? b = some o→h'.get? b = some o)→RelV (.int (nth ns j)) v∧∃ oI2,h'.get? I = some oI2∧Inv X ((S,seqObj "list" buf c) :: (I,oI2) :: pins) σ H' { s' with heap:=h',toks:=tk' }:=fun v h' tk' hP hst hk'=>by
      refine ⟨?_,?_⟩
      · obtain ⟨v',e1,e2⟩:=rv.get (i:=j) (x:=V.int (nth ns j)) (by unfold nth; rw [List.getElem?_map,List.getD_eq_getElem?_getD,List.getElem?_eq_getElem hlt]; rfl)
        have : its[j]? = some v:=by simpa using hP
        rw [e1] at this; cases this; exact e2
      · obtain ⟨oI2,g2,hcls,hdat⟩:=id hst.1
        have J1:=J0.turned (t':=tk') (h':=h') (it:=I) (fun b o nb e=>hk' b o (by simpa using nb) e) nI lI (.inr hI0) cI fun p hp'=>by
          rcases List.mem_append.mp hp' with z | z
          · exact (hp p (List.mem_append_left _ z)).1
          · rcases List.mem_cons.mp z with rfl | z
            · exact hSI
            · exact (hp p (List.mem_append_right _ z)).1
        refine ⟨oI2,g2,J1.pins_of fun p hp'=>?_⟩
        rcases List.mem_cons.mp hp' with rfl | hp'
        · exact J1.pin _ (List.mem_append_right _ (List.mem_cons_self ..))
        · rcases List.mem_cons.mp hp' with rfl | hp'
          · exact ⟨g2,nI,lI,fI,fun v z=>by rw [hdat] at z; cases z⟩
          · exact J1.pin _ (List.mem_append_right _ (List.mem_cons_of_mem _ hp'))
    have write : ∀ {H2 : Hp} {s2 : Shared} {oI2 : Obj} (v : Value) (t2 : Tok) (b2 : Array Value) (c0 : Nat),Inv X ((S,seqObj "list" b2 c0) :: (I,oI2) :: pins) σ H2 s2→∃ c2,Inv X ((S,seqObj "list" #[v,.int (kz (nth ns j)) t2] c2) :: (I,oI2) :: pins) σ H2 { s2 with heap:=s2.heap.update S (Obj.mapSeq fun _=>#[v,.int (kz (nth ns j)) t2]) }:=fun {H2 s2 oI2} v t2 b2 c0 K=>by
      obtain ⟨o2,n2,l2,f2,_,cc2⟩:=pin_facts K (List.mem_cons_self ..)
      obtain ⟨c2,hc2⟩ : ∃ c2,(s2.heap.update S (Obj.mapSeq fun _=>#[v,.int (kz (nth ns j)) t2])).get? S = some (seqObj "list" #[v,.int (kz (nth ns j)) t2] c2):=⟨_,get?_update_seq o2 fun _=>#[v,.int (kz (nth ns j)) t2]⟩
      have K0 : Inv X ((I,oI2) :: pins) σ H2 s2:=K.pins_of fun p hp'=>K.pin p (List.mem_append_right _ (List.mem_cons_of_mem _ hp'))
      have K1:=K0.turned (t':=s2.toks) (h':=s2.heap.update S (Obj.mapSeq fun _=>#[v,.int (kz (nth ns j)) t2])) (it:=S) (fun b o nb e=>(Heap.get?_update_ne _ _ _ _ nb).trans e) n2 l2 (.inr hS0) cc2 fun p hp'=>by
        rcases List.mem_append.mp hp' with z | z
        · exact (hp p (List.mem_append_left _ z)).2
        · rcases List.mem_cons.mp z with rfl | z
          · exact hSI.symm
          · exact (hp p (List.mem_append_right _ z)).2
      refine ⟨c2,K1.pins_of fun p hp'=>?_⟩
      rcases List.mem_cons.mp hp' with rfl | hp'
      · exact ⟨hc2,n2,l2,f2,fun v z=>by cases z⟩
      · exact K1.pin p (List.mem_append_right _ hp')
    have mem : nth ns j ∈ ns:=by unfold nth; rw [List.getD_eq_getElem?_getD,List.getElem?_eq_getElem hlt]; exact List.getElem_mem hlt
    rcases hb with ⟨hj0,rfl⟩ | ⟨i,vb,tb,hi,rfl,rvb,hB⟩
    · refine wpAny_bind (wpAny_tryCatch (W.item j _ _ _ (by rw [hsz,hlen]; exact hlt) ⟨hit,pl.isList⟩ fun v h' tk' hP hst' hk'=>?_))
      obtain ⟨rj,oI2,gI,J2⟩:=step v h' tk' hP hst' hk'
      obtain ⟨oI3,gI3,hcls,hdat⟩:=id hst'.1
      rw [gI] at gI3; cases gI3
      refine wpAny_bind (wpAny_tryCatch (wpAny_holding (wpAny_mono (turn H' _ _ _ v mem J2 sm rj) (fun x s'' he=>?_) fun _ _ hF=>hF.elim)))
      obtain ⟨x2,H2,J3,r2,rfl,sm2⟩:=he
      obtain ⟨t2,rfl⟩:=r2
      obtain ⟨oS3,_⟩:=pin_facts J3 (List.mem_cons_self ..)
      obtain ⟨oI4,_⟩:=pin_facts J3 (List.mem_cons_of_mem _ (List.mem_cons_self ..))
      obtain ⟨c2,J4⟩:=write v t2 _ _ J3
      refine wpAny_bind (wpAny_updateSeq oS3 rfl ?_ (Nat.zero_le _) (show 2≤sizeLine + 1 by decide))
      rw [hname]
      refine wpAny_pure ⟨plainId_quiet PySem.F.plain_min_loop _,ih (j + 1) H2 _ _ c2 oI2 (by omega) hlt J4 (sm.trans sm2) ⟨oI2,(Heap.get?_update_ne _ _ _ _ hSI.symm).trans oI4,hcls,hdat⟩ (.inr ⟨j,v,t2,by omega,rfl,rj,?_⟩)⟩
      subst hj0; exact LeastK.one kz ns
    · refine wpAny_bind (wpAny_tryCatch (W.item j _ _ _ (by rw [hsz,hlen]; exact hlt) ⟨hit,pl.isList⟩ fun v h' tk' hP hst' hk'=>?_))
      obtain ⟨rj,oI2,gI,J2⟩:=step v h' tk' hP hst' hk'
      obtain ⟨oI3,gI3,hcls,hdat⟩:=id hst'.1
      rw [gI] at gI3; cases gI3
      refine wpAny_bind (wpAny_tryCatch (wpAny_holding (wpAny_mono (turn H' _ _ _ v mem J2 sm rj) (fun x s'' he=>?_) fun _ _ hF=>hF.elim)))
      obtain ⟨x2,H2,J3,r2,rfl,sm2⟩:=he
      obtain ⟨t2,rfl⟩:=r2
      obtain ⟨oS3,_⟩:=pin_facts J3 (List.mem_cons_self ..)
      obtain ⟨oI4,_⟩:=pin_facts J3 (List.mem_cons_of_mem _ (List.mem_cons_self ..))
      refine wpAny_bind (wpAny_tryCatch (wpAny_holding (wpAny_bind (CmpOf.ints_lt (prog:=X.prog) (w:=X.w) (A:=A.in1) (P:=fun i v=>∃ t,v = .int (kz (nth ns i)) t) (fun i=>kz (nth ns i)) (fun i v h=>h) j i _ _ _ _ _ ⟨t2,rfl⟩ ⟨tb,rfl⟩ ?_))))
      refine wpAny_bind (wpAny_holding (wpAny_truthy_bool ?_))
      refine wpAny_bind (wpAny_letGo (wpAny_pure ?_))
      by_cases hb' : kz (nth ns j) < kz (nth ns i)
      · simp only [hb',decide_true,if_true]
        obtain ⟨c2,J4⟩:=write v t2 _ _ J3
        refine wpAny_bind (wpAny_updateSeq oS3 rfl (wpAny_bind (wpAny_letGo ?_)) (show 2≤sizeLine by decide) (show 2≤sizeLine + 1 by decide))
        rw [hname]
        exact wpAny_pure ⟨plainId_quiet PySem.F.plain_min_loop _,ih (j + 1) H2 _ _ c2 oI2 (by omega) hlt J4 (sm.trans sm2) ⟨oI2,(Heap.get?_update_ne _ _ _ _ hSI.symm).trans oI4,hcls,hdat⟩ (.inr ⟨j,v,t2,by omega,rfl,rj,hB.take hi hb'⟩)⟩
      · simp only [hb',decide_false,Bool.false_eq_true,if_false]
        refine wpAny_bind (wpAny_letGo ?_)
        rw [hname]
        exact wpAny_pure ⟨plainId_quiet PySem.F.plain_min_loop _,ih (j + 1) H2 _ _ c oI2 (by omega) hlt J3 (sm.trans sm2) ⟨oI2,oI4,hcls,hdat⟩ (.inr ⟨i,vb,tb,by omega,rfl,rvb,hB.keep hi hb'⟩)⟩
theorem minKD {pins : List (Addr × Obj)} {σ : St} {H : Hp} {s : Shared} {l q : Addr} {ns : List Int} {kz : Int→Int} {d : Value} {dv : V} {Q : VK} (I : Inv X pins σ H s) (hc : X.calm = true) (hl : H l = some (.lst (ns.map V.int))) (rd : RelV dv d)
    (turn : ∀ (H' : Hp) (s' : Shared) (pins' : List (Addr × Obj)) (n : Int) (u : Value),n ∈ ns→Inv X pins' σ H' s'→Same H H'→RelV (.int n) u→wpAny (model X.prog X.w) X.A.in1 (call (.ref q) [u]) (EP X pins' σ fun v H2=>v = .int (kz n)∧Same H' H2) (fun _ _=>False) s')
    (fin0 : ns = []→∀ H',Same H H'→Q dv H') (fin : ∀ i H',i < ns.length→LeastK kz ns ns.length i→Same H H'→Q (.int (nth ns i)) H') :
    wpAny (model X.prog X.w) X.A (call (.builtin "min") [.ref l] [(Str.ofString "key",.ref q),(Str.ofString "default",d)]) (EP X pins σ Q) X.xe s:=by
  have hname : (toString "min" ++ toString ".loop" : String) = "min.loop":=by decide
  obtain ⟨its,rv,pl,_⟩:=I.list (SqL.of hl)
  obtain ⟨ol,hol,_⟩:=id pl.isList
  have hll : l < s.heap.objs.size:=Heap.lt_size hol
  refine kmk_tree PySem.F.kind_min PySem.F.plain_min PySem.F.entry_min (minKD_args _ _ _) ?_
  show wpAny _ X.A.in1 (Builtin.Builtins.bindParams "min" ["key","default"] 0 ⟨[],[(Str.ofString "key",.ref q),(Str.ofString "default",d)]⟩ >>= _) _ _ s
  refine wpAny_bind (wpAny_of_eq (show Builtin.Builtins.bindParams "min" ["key","default"] 0 ⟨[],[(Str.ofString "key",.ref q),(Str.ofString "default",d)]⟩ = pure [some (.ref q),some d] from rfl) ?_)
  refine wpAny_bind (wpAny_pure ?_)
  refine wpAny_bind (wpAny_pyIter_list pl.isList ?_)
  refine wpAny_bind (wpAny_newList ?_ (Nat.zero_le _))
  rw [hname]
  refine wpAny_pure ⟨plainId_quiet PySem.F.plain_min_loop _,?_⟩
  have hS : (s.heap.push { cls:=.type "list_iterator",data:=.fields #[.ref l,.int 0 0] }).objs.size = s.heap.objs.size + 1:=size_push' ..
  have I2:=I.kept (h':=(s.heap.push { cls:=.type "list_iterator",data:=.fields #[.ref l,.int 0 0] }).push (seqObj "list" #[] 0)) (t':=s.toks) fun b o e=>Heap.get?_push_of_some _ (Heap.get?_push_of_some _ e)
  have gI : ((s.heap.push { cls:=.type "list_iterator",data:=.fields #[.ref l,.int 0 0] }).push (seqObj "list" #[] 0)).get? s.heap.objs.size = some { cls:=.type "list_iterator",data:=.fields #[.ref l,.int 0 0] }:=Heap.get?_push_of_some _ (Heap.get?_push_size _ rfl)
  have gS : ((s.heap.push { cls:=.type "list_iterator",data:=.fields #[.ref l,.int 0 0] }).push (seqObj "list" #[] 0)).get? (s.heap.objs.size + 1) = some (seqObj "list" #[] 0):=by rw [← hS]; exact Heap.get?_push_size _ rfl
  rw [hS]
  refine minK_loop (pins:=pins) (H:=H) (ns:=ns) (kz:=kz) (I.ok.hd hc) (Nat.ne_of_lt hll) (Nat.ne_of_gt (Nat.lt_succ_self _)) I.sz (Nat.le_succ_of_le I.sz) (fun p hp=>?_) hl turn (fun z H' s' J sm=>⟨dv,H',J,rd,fin0 z H' sm⟩) (fun i v H' s' hi r hB J sm=>⟨.int (nth ns i),H',J,r,fin i H' hi hB sm⟩) _ 0 H _ #[] 0 { cls:=.type "list_iterator",data:=.fields #[.ref l,.int 0 0] } rfl (Nat.zero_le _) (I2.pins_of fun p hp=>?_) (Same.refl H) ⟨_,gI,rfl,rfl⟩ (.inl ⟨rfl,rfl⟩)
  · have:=Heap.lt_size (I.pin p hp).1
    exact ⟨Nat.ne_of_lt this,Nat.ne_of_lt (Nat.lt_succ_of_lt this)⟩
  · rcases List.mem_cons.mp hp with rfl | hp
    · exact ⟨gS,I.hok.fresh (Nat.le_succ _),Nat.ne_of_gt (Nat.lt_succ_of_lt I.lt),I.nofs (Nat.le_succ _),fun v z=>by cases z⟩
    · rcases List.mem_cons.mp hp with rfl | hp
      · exact ⟨gI,I.hok.fresh (Nat.le_refl _),Nat.ne_of_gt I.lt,I.nofs (Nat.le_refl _),fun v z=>by cases z⟩
      · exact I2.pin p (List.mem_append_right _ hp)
def tMinKD (ta td : TA) (tb : TE) (js : List (Option Nat)) (env : Env) (P : Addr) (q : Str) (params : Arguments) (body : Expr) (scope : Scope) : TE:=fun σ H Q=>ta σ H fun vs H1=>td σ H1 fun zs H2=>∃ (p f : Addr) (dv : V) (ns : List Int) (kz : Int→Int),
  vs = [.ref p]∧zs = [.ref f,dv]∧H2 p = some (.lst (ns.map V.int))∧LamO env P q params body scope H2 f ∧
  (∀ n H3,n ∈ ns→Same H2 H3→tb ((iniC js σ).set 0 (some (.int n))) H3 fun v H4=>v = .int (kz n)∧Same H3 H4) ∧
  (ns = []→∀ H3,Same H2 H3→Q dv H3)∧∀ i H3,i < ns.length→LeastK kz ns ns.length i→Same H2 H3→Q (.int (nth ns i)) H3
theorem pe_minKD {Nc : List Str} {js : List (Option Nat)} {q pn : Str} {params : Arguments} {body : Expr} {scope : Scope} {P : Addr} {ta td : TA} {tb : TE} {m : Nat} {e : Expr} {e2 : Expr} {p pos lpos kp1 kp2 : Pos} (hc : X.calm = true) (hr : Room m X.A) (S : LamSc X Nc js params body scope pn)
    (hbody : ∀ cl L f c s H,PE (lamCx X X.A.in1 Nc q scope cl L f c s H) body tb) (hg : Gl X "min") (hm : X.mg "min" = none) (ha : PA X [e] ta) (hd : PK X [⟨some (Str.ofString "key"),.Lambda params body scope lpos,kp1⟩,⟨some (Str.ofString "default"),e2,kp2⟩] td)
    (hpl : (backTo pos (starEach [e] X.env)).any (·.1) = false:=by rfl) (hall : (backToKw pos (keywordEach [⟨some (Str.ofString "key"),.Lambda params body scope lpos,kp1⟩,⟨some (Str.ofString "default"),e2,kp2⟩] X.env)).all (·.1.isSome) = true:=by rfl)
    (hnn : (backToKw pos (keywordEach [⟨some (Str.ofString "key"),.Lambda params body scope lpos,kp1⟩,⟨some (Str.ofString "default"),e2,kp2⟩] X.env)).any (·.1.isNone) = false:=by rfl) (hks : (backToKw pos (keywordEach [⟨some (Str.ofString "key"),.Lambda params body scope lpos,kp1⟩,⟨some (Str.ofString "default"),e2,kp2⟩] X.env)).filterMap (·.1) = [Str.ofString "key",Str.ofString "default"]:=by rfl) (hb : backTo pos (starEach [e] X.env) = (false,eval e X.env) :: backTo pos (starEach [] X.env):=by rfl) :
    PE X (.Call (.Name "min" p) [e] [⟨some (Str.ofString "key"),.Lambda params body scope lpos,kp1⟩,⟨some (Str.ofString "default"),e2,kp2⟩] pos) (tMinKD ta td tb js X.env P q params body scope):=by
  intro pins s σ H Q I h
  refine wpAny_Call_Name_kw (ld_blt I hg hm bt_min ?_)
  refine PyProof.Rows.callWith_kw (thn (ha pos pins s σ H _ I h) fun us s1 ⟨vs,H1,I1,r1,q1⟩=>?_) hb hpl hall hnn
  refine thn (hd pos pins s1 σ H1 _ I1 q1) fun ws s2 ⟨zs,H2,I2,r2,pp,f,dv,ns,kz,e1,e2,hp,L,tn,fin0,fin⟩=>?_
  subst e1 e2
  obtain ⟨u,rfl,ru⟩:=r1.one
  cases (show u = Value.ref pp from ru)
  rw [hks]
  obtain ⟨v,v2,rfl,rv,rv2⟩:=r2.two
  cases (show v = Value.ref f from rv)
  exact minKD (kz:=kz) I2 hc hp rv2 (fun H' s' pins' n u hn J sm r=>lam_call S hbody J J.ok.frames J.ok.hd hr.depth (L.same sm) r (tn n H' hn sm)) fin0 fin
end
end L2
set_option Elab.async false
set_option linter.all false
set_option maxRecDepth 100000
set_option maxHeartbeats 1000000
namespace L2
open PySem PySem.Spec PyProof.Rows PySem.W
section
variable {prog : Program} {w : World} {A : Around} {E : Value→Shared→Prop} {s : Shared}
theorem draw_list {it t : Addr} {items : Array Value} (hh : A.handled = none) (hne : t≠it) : ∀ (n i : Nat) (s : Shared) (Q : List Value→Shared→Prop),s.heap.IsListIter it t i→s.heap.IsList t items→i + n≤items.size →
    (∀ h' tk,h'.IsListIter it t (i + n)→h'.IsList t items→(∀ b o,b≠it→s.heap.get? b = some o→h'.get? b = some o)→Q ((items.toList.drop i).take n) { s with heap:=h',toks:=tk })→wpAny (model prog w) A (draw (.ref it) n) Q E s
  | 0,i,s,Q,hit,hl,_,hQ=>by
    show wpAny _ _ (pure []) Q E s
    exact wpAny_pure (by simpa using hQ s.heap s.toks hit hl fun b o _ e=>e)
  | n + 1,i,s,Q,hit,hl,hle,hQ=>by
    have hlt : i < items.size:=by omega
    have W:=Walks.list (prog:=prog) (w:=w) (A:=A) hh it t hne items
    show wpAny _ _ (pyNext (.ref it) >>= _) Q E s
    refine wpAny_bind (W.item i _ _ _ hlt ⟨hit,hl⟩ fun v h₁ tk₁ hP hst hk=>?_)
    have hv : items[i]? = some v:=hP
    rw [getElem?_pos items i hlt] at hv
    cases hv
    refine wpAny_bind (wpAny_holding (draw_list hh hne n (i + 1) _ _ hst.1 hst.2 (by omega) fun h₂ tk₂ hit₂ hl₂ hk₂=>wpAny_pure ?_))
    have hd : items.toList.drop i = items[i] :: items.toList.drop (i + 1):=by simp [List.drop_eq_getElem_cons,hlt]
    have:=hQ h₂ tk₂ (by rw [show i + (n + 1) = i + 1 + n by omega]; exact hit₂) hl₂ fun b o hb e=>hk₂ b o hb (hk b o (by simpa using hb) e)
    rw [hd,List.take_succ_cons] at this
    exact this
theorem unpackItems_list {t : Addr} {items : Array Value} {Q : List Value→Shared→Prop} (hh : A.handled = none) (ht : s.heap.IsList t items)
    (hQ : ∀ h' tk,(∀ b o,s.heap.get? b = some o→h'.get? b = some o)→Q items.toList { s with heap:=h',toks:=tk }) : wpAny (model prog w) A (unpackItems (.ref t) items.size none) Q E s:=by
  have hlt : t≠s.heap.objs.size:=by obtain ⟨o,ho,_⟩:=ht; exact Nat.ne_of_lt (Heap.lt_size ho)
  have old : ∀ b o,s.heap.get? b = some o→b≠s.heap.objs.size:=fun b o e=>Nat.ne_of_lt (Heap.lt_size e)
  unfold unpackItems
  refine wpAny_bind ?_
  · unfold notIterableAtAll
    refine wpAny_bind (wpAny_specialOf ht.typeIs slot_list_iter.lookup ?_)
    refine wpAny_pure ?_
    simp only [Bool.false_eq_true,if_false]
    refine wpAny_bind (wpAny_holding (wpAny_pyIter_list ht ?_))
    have hl2 : (s.heap.push { cls:=.type "list_iterator",data:=.fields #[.ref t,.int 0 0] }).IsList t items:=by
      obtain ⟨o,e,r⟩:=ht
      exact ⟨o,Heap.get?_push_of_some _ e,r⟩
    refine wpAny_bind (wpAny_holding (draw_list hh hlt items.size 0 _ _ ⟨_,Heap.get?_push_size _ rfl,rfl,rfl⟩ hl2 (by omega) fun h₁ tk₁ hit₁ hl₁ hk₁=>?_))
    have hall : List.take items.size (List.drop 0 items.toList) = items.toList:=by
      rw [List.drop_zero]; exact List.take_of_length_le (by simp)
    rw [hall]
    rw [if_neg (by simp)]
    have W:=Walks.list (prog:=prog) (w:=w) (A:=A) hh s.heap.objs.size t hlt items
    refine wpAny_bind (wpAny_holding (W.done _ _ _ ⟨by rw [Nat.zero_add] at hit₁; exact hit₁,hl₁⟩ fun h₂ tk₂ hk₂=>?_))
    simp only [Option.isSome_none,Bool.false_eq_true,if_false]
    exact wpAny_pure (hQ h₂ tk₂ fun b o e=>hk₂ b o (by simpa using old b o e) (hk₁ b o (old b o e) (Heap.get?_push_of_some _ e)))
end
section
variable {X : Cx}
def gLst (K : PySem.W.Frag) (n : Nat) (t : TGs) : TG:=fun v σ H Q=>∃ a xs,v = .ref a∧SqL K H a xs∧xs.length = n∧t xs σ H Q
theorem pg_lst {K : Frag} {es : List Expr} {pos : Pos} {k : Nat} {t : TGs} {n : Nat} (hK : X.K = K) (hc : X.calm = true) (h : PGs X es t)
    (hn : (assignEach es X.env).length = n:=by rfl) (hst : (assignEach es X.env).findIdx? (·.1) = none:=by rfl) : PG X (.Tuple es k pos) (gLst K n t):=by
  subst hK
  intro pins s σ H v u Q I r hw
  obtain ⟨a,xs,e1,hq,hl,hw⟩:=hw
  subst e1
  cases r
  obtain ⟨its,rv,pl,hz⟩:=I.list hq
  have hlen : (assignEach es X.env).length = its.toArray.size:=by
    have:=rv.length
    rw [hn,List.size_toArray]; omega
  rw [assign_Tuple]
  refine wpAny_bind (wpAny_standAt ?_)
  unfold unpack
  rw [hlen,hst]
  refine wpAny_bind (wpAny_holding (unpackItems_list (I.ok.hd hc) pl.isList fun h' tk kp=>?_))
  exact h pins _ σ H xs _ Q (I.kept kp) (by simpa using rv) hw
def tAsg2 (te : TE) (g g' : TG) : TS:=fun D σ H=>te σ H fun x H1=>g x σ H1 fun σ1 H2=>g' x σ1 H2 D.nx
theorem ps_asg2 {tg tg' e : Expr} {te : TE} {g g' : TG} {pos : Pos} (he : PE X e te) (hg : PG X tg g) (hg' : PG X tg' g') (h1 : (assignEach [tg,tg'] X.env).map (·.2) = [assign tg X.env,assign tg' X.env]:=by rfl) (hw : swappedStores [tg,tg'] e X.env = pure none:=by rfl) : PS X (.Assign [tg,tg'] e pos) (tAsg2 te g g'):=by
  intro pins s σ H D I h
  refine wpAny_Assign_two (thn (he pins s σ H _ I h) fun v s1 ⟨x,H1,I1,r1,q1⟩=>?_) h1 hw
  exact thn (hg pins s1 σ H1 x v _ I1 r1 q1) fun _ s2 ⟨σ2,H2,I2,q2⟩=>thn (hg' pins s2 σ2 H2 x v _ I2 r1 q2) fun _ s3 q=>q
end
end L2
set_option Elab.async false
set_option linter.all false
set_option maxRecDepth 100000
set_option maxHeartbeats 1000000
namespace L2
open PySem PySem.Spec PyProof.Rows PySem.W
inductive EqN (K : Frag) (H : Hp) : Nat→V→V→Bool→Prop
  | flat {n : Nat} {x y : V} (fx : flatV x = true) (fy : flatV y = true) : EqN K H n x y (eqV x y)
  | lst {n : Nat} {a b : Addr} {xs ys : List V} (e : Nat→Bool) (hx : SqL K H a xs) (hy : SqL K H b ys) (hl : xs.length = ys.length) (h : ∀ j x y,xs[j]? = some x→ys[j]? = some y→EqN K H n x y (e j)) : EqN K H (n + 1) (.ref a) (.ref b) ((List.range xs.length).all e)
  | len {n : Nat} {a b : Addr} {xs ys : List V} (hx : SqL K H a xs) (hy : SqL K H b ys) (hl : xs.length≠ys.length) : EqN K H (n + 1) (.ref a) (.ref b) false
  | tup {n : Nat} {a b : Addr} {xs ys : List V} (e : Nat→Bool) (hx : SqT K H a xs) (hy : SqT K H b ys) (h : ∀ j x y,xs[j]? = some x→ys[j]? = some y→EqN K H n x y (e j)) : EqN K H (n + 1) (.ref a) (.ref b) ((List.range (min xs.length ys.length)).all e && xs.length == ys.length)
  | nonT {n : Nat} {a : Addr} {xs : List V} (hx : SqT K H a xs) : EqN K H n .non (.ref a) false
  | tNon {n : Nat} {a : Addr} {xs : List V} (hx : SqT K H a xs) : EqN K H n (.ref a) .non false
section
variable {X : Cx} {pins : List (Addr × Obj)} {σ : St} {H : Hp} {s : Shared}
theorem eqn_refl (I : Inv X pins σ H s) {n : Nat} {x y : V} {b : Bool} (h : EqN X.K H n x y b) : x = y→b = true:=by
  induction h with
  | flat fx fy=>rintro rfl; exact eqV_refl fx
  | lst e hx hy hl h ih =>
    intro z
    cases z
    have:=I.list_inj hx hy
    subst this
    refine List.all_eq_true.mpr fun j hj=>?_
    have hj':=List.mem_range.mp hj
    exact ih j _ _ (List.getElem?_eq_getElem hj') (List.getElem?_eq_getElem hj') rfl
  | len hx hy hl =>
    intro z
    cases z
    have:=I.list_inj hx hy
    subst this
    exact absurd rfl hl
  | tup e hx hy h ih =>
    intro z
    cases z
    have:=I.tuple_inj hx hy
    subst this
    rw [Nat.min_self]
    have : (List.range _).all e = true:=List.all_eq_true.mpr fun j hj=>by
      have hj':=List.mem_range.mp hj
      exact ih j _ _ (List.getElem?_eq_getElem hj') (List.getElem?_eq_getElem hj') rfl
    rw [this]; simp
  | nonT hx=>intro z; cases z
  | tNon hx=>intro z; cases z
theorem eqn_at (I : Inv X pins σ H s) {n : Nat} {x y : V} {b : Bool} (h : EqN X.K H n x y b) : ∀ (A : Around) (u v : Value),A.units + n < cLine→RelV x u→RelV y v→SeqAt.EqAt A s u v b:=by
  induction h with
  | flat fx fy=>intro A u v _ ru rv; exact eqAt_V ru rv fx fy
  | @lst n a b xs ys e hx hy hl h ih =>
    intro A u v hu ru rv
    have hb:=eqn_refl I (.lst e hx hy hl h)
    cases ru
    cases rv
    by_cases hab : a = b
    · subst hab
      rw [hb rfl]; exact SeqAt.EqAt.same _
    · obtain ⟨is1,r1,p1,_⟩:=I.list hx
      obtain ⟨is2,r2,p2,_⟩:=I.list hy
      have e1:=r1.length
      have e2:=r2.length
      have key:=SeqAt.RcAt.lists (A:=A) (s:=s) (e:=e) p1.isList p2.isList (by simp; omega) (by omega) fun j h1 h2=>by
        have h1' : j < xs.length:=by simpa [e1] using h1
        have h2' : j < ys.length:=by simpa [e2] using h2
        obtain ⟨u,hu1,ru⟩:=r1.get (List.getElem?_eq_getElem h1')
        obtain ⟨v,hv1,rv⟩:=r2.get (List.getElem?_eq_getElem h2')
        have eu : is1.toArray[j] = u:=by simpa using (List.getElem?_eq_some_iff.mp hu1).2
        have ev : is2.toArray[j] = v:=by simpa using (List.getElem?_eq_some_iff.mp hv1).2
        rw [eu,ev]
        exact ih j _ _ (List.getElem?_eq_getElem h1') (List.getElem?_eq_getElem h2') A.in1 u v (by show A.units + 1 + n < cLine; omega) ru rv
      have e3 : is1.toArray.size = xs.length:=by simp [e1]
      rw [e3] at key
      exact SeqAt.EqAt.of_refs hab key
  | @len n a b xs ys hx hy hl =>
    intro A u v hu ru rv
    cases ru
    cases rv
    have hab : a≠b:=fun z=>by subst z; exact hl (congrArg List.length (I.list_inj hx hy))
    obtain ⟨is1,r1,p1,_⟩:=I.list hx
    obtain ⟨is2,r2,p2,_⟩:=I.list hy
    have e1:=r1.length
    have e2:=r2.length
    exact SeqAt.EqAt.of_refs hab (SeqAt.RcAt.lists_lengths p1.isList p2.isList (by simp; omega) (by omega))
  | @tup n a b xs ys e hx hy h ih =>
    intro A u v hu ru rv
    have hb:=eqn_refl I (.tup e hx hy h)
    cases ru
    cases rv
    by_cases hab : a = b
    · subst hab
      rw [hb rfl]; exact SeqAt.EqAt.same _
    · obtain ⟨is1,r1,p1,_⟩:=I.tuple hx
      obtain ⟨is2,r2,p2,_⟩:=I.tuple hy
      have e1:=r1.length
      have e2:=r2.length
      have key:=SeqAt.RcAt.tuples (A:=A) (s:=s) (e:=e) p1 p2 (by omega) fun j h1 h2=>by
        have h1' : j < xs.length:=by simpa [e1] using h1
        have h2' : j < ys.length:=by simpa [e2] using h2
        obtain ⟨u,hu1,ru⟩:=r1.get (List.getElem?_eq_getElem h1')
        obtain ⟨v,hv1,rv⟩:=r2.get (List.getElem?_eq_getElem h2')
        have eu : is1.toArray[j] = u:=by simpa using (List.getElem?_eq_some_iff.mp hu1).2
        have ev : is2.toArray[j] = v:=by simpa using (List.getElem?_eq_some_iff.mp hv1).2
        rw [eu,ev]
        exact ih j _ _ (List.getElem?_eq_getElem h1') (List.getElem?_eq_getElem h2') A.in1 u v (by show A.units + 1 + n < cLine; omega) ru rv
      have e3 : is1.toArray.size = xs.length:=by simp [e1]
      have e4 : is2.toArray.size = ys.length:=by simp [e2]
      rw [e3,e4] at key
      exact SeqAt.EqAt.of_refs hab key
  | nonT hx =>
    intro A u v hu ru rv
    cases ru
    cases rv
    obtain ⟨is1,r1,p1,_⟩:=I.tuple hx
    exact SeqAt.EqAt.none_tuple p1 (by omega)
  | tNon hx =>
    intro A u v hu ru rv
    cases ru
    cases rv
    obtain ⟨is1,r1,p1,_⟩:=I.tuple hx
    exact SeqAt.EqAt.tuple_none p1 (by omega)
end
def rEqN (K : Frag) (neg : Bool) : R2:=fun x y H Q=>∃ a b k,x = .ref a∧y = .ref b∧EqN K H 3 x y k∧Q (.bl (if neg then !k else k)) H
section
variable {X : Cx}
theorem op_eqN {K : Frag} (hK : X.K = K) {k : Nat} (hr : Room k X.A) : OpR X (compareOp .Eq) (rEqN K false):=by
  subst hK
  have hu0:=hr.un
  intro pins s σ H x y v u Q I rx ry h
  obtain ⟨a,b,k,rfl,rfl,h,q⟩:=h
  cases rx
  cases ry
  cases h with
  | flat fx fy=>cases fx
  | @lst n _ _ xs ys e hx hy hl h =>
    obtain ⟨is1,r1,p1,_⟩:=I.list hx
    obtain ⟨is2,r2,p2,_⟩:=I.list hy
    have e1:=r1.length
    have e2:=r2.length
    have e3 : is1.toArray.size = xs.length:=by simp [e1]
    refine SeqAt.eq_listAt (e:=e) p1.isList p2.isList (by simp; omega) (by omega) (fun j h1 h2=>?_) ⟨.bl _,H,I,rfl,by rw [e3]; exact q⟩
    have h1' : j < xs.length:=by simpa [e1] using h1
    have h2' : j < ys.length:=by simpa [e2] using h2
    obtain ⟨u,hu1,ru⟩:=r1.get (List.getElem?_eq_getElem h1')
    obtain ⟨v,hv1,rv⟩:=r2.get (List.getElem?_eq_getElem h2')
    have eu : is1.toArray[j] = u:=by simpa using (List.getElem?_eq_some_iff.mp hu1).2
    have ev : is2.toArray[j] = v:=by simpa using (List.getElem?_eq_some_iff.mp hv1).2
    rw [eu,ev]
    exact eqn_at I (h j _ _ (List.getElem?_eq_getElem h1') (List.getElem?_eq_getElem h2')) X.A.in1 u v (by show X.A.units + 1 + 2 < cLine; omega) ru rv
  | @len n _ _ xs ys hx hy hl =>
    obtain ⟨is1,r1,p1,_⟩:=I.list hx
    obtain ⟨is2,r2,p2,_⟩:=I.list hy
    have e1:=r1.length
    have e2:=r2.length
    exact SeqAt.eq_list_lengthsAt p1.isList p2.isList (by simp; omega) (by omega) ⟨.bl _,H,I,rfl,q⟩
  | @tup n _ _ xs ys e hx hy h =>
    obtain ⟨is1,r1,p1,_⟩:=I.tuple hx
    obtain ⟨is2,r2,p2,_⟩:=I.tuple hy
    have e1:=r1.length
    have e2:=r2.length
    have e3 : is1.toArray.size = xs.length:=by simp [e1]
    have e4 : is2.toArray.size = ys.length:=by simp [e2]
    refine SeqAt.eq_tupleAt (e:=e) p1 p2 (by omega) (fun j h1 h2=>?_) ⟨.bl _,H,I,rfl,by rw [e3,e4]; exact q⟩
    have h1' : j < xs.length:=by simpa [e1] using h1
    have h2' : j < ys.length:=by simpa [e2] using h2
    obtain ⟨u,hu1,ru⟩:=r1.get (List.getElem?_eq_getElem h1')
    obtain ⟨v,hv1,rv⟩:=r2.get (List.getElem?_eq_getElem h2')
    have eu : is1.toArray[j] = u:=by simpa using (List.getElem?_eq_some_iff.mp hu1).2
    have ev : is2.toArray[j] = v:=by simpa using (List.getElem?_eq_some_iff.mp hv1).2
    rw [eu,ev]
    exact eqn_at I (h j _ _ (List.getElem?_eq_getElem h1') (List.getElem?_eq_getElem h2')) X.A.in1 u v (by show X.A.units + 1 + 2 < cLine; omega) ru rv
theorem op_neN {K : Frag} (hK : X.K = K) {k : Nat} (hr : Room k X.A) : OpR X (compareOp .NotEq) (rEqN K true):=by
  subst hK
  have hu0:=hr.un
  intro pins s σ H x y v u Q I rx ry h
  obtain ⟨a,b,k,rfl,rfl,h,q⟩:=h
  cases rx
  cases ry
  cases h with
  | flat fx fy=>cases fx
  | @lst n _ _ xs ys e hx hy hl h =>
    obtain ⟨is1,r1,p1,_⟩:=I.list hx
    obtain ⟨is2,r2,p2,_⟩:=I.list hy
    have e1:=r1.length
    have e2:=r2.length
    have e3 : is1.toArray.size = xs.length:=by simp [e1]
    refine SeqAt.RcNeAt.lists (e:=e) p1.isList p2.isList (by simp; omega) (by omega) (fun j h1 h2=>?_) _ _ _ _ ⟨.bl _,H,I,rfl,by rw [e3]; exact q⟩
    have h1' : j < xs.length:=by simpa [e1] using h1
    have h2' : j < ys.length:=by simpa [e2] using h2
    obtain ⟨u,hu1,ru⟩:=r1.get (List.getElem?_eq_getElem h1')
    obtain ⟨v,hv1,rv⟩:=r2.get (List.getElem?_eq_getElem h2')
    have eu : is1.toArray[j] = u:=by simpa using (List.getElem?_eq_some_iff.mp hu1).2
    have ev : is2.toArray[j] = v:=by simpa using (List.getElem?_eq_some_iff.mp hv1).2
    rw [eu,ev]
    exact eqn_at I (h j _ _ (List.getElem?_eq_getElem h1') (List.getElem?_eq_getElem h2')) X.A.in1 u v (by show X.A.units + 1 + 2 < cLine; omega) ru rv
  | @len n _ _ xs ys hx hy hl =>
    obtain ⟨is1,r1,p1,_⟩:=I.list hx
    obtain ⟨is2,r2,p2,_⟩:=I.list hy
    have e1:=r1.length
    have e2:=r2.length
    exact SeqAt.RcNeAt.lists_lengths p1.isList p2.isList (by simp; omega) (by omega) _ _ _ _ ⟨.bl _,H,I,rfl,q⟩
  | @tup n _ _ xs ys e hx hy h =>
    obtain ⟨is1,r1,p1,_⟩:=I.tuple hx
    obtain ⟨is2,r2,p2,_⟩:=I.tuple hy
    have e1:=r1.length
    have e2:=r2.length
    have e3 : is1.toArray.size = xs.length:=by simp [e1]
    have e4 : is2.toArray.size = ys.length:=by simp [e2]
    refine SeqAt.RcNeAt.tuples (e:=e) p1 p2 (by omega) (fun j h1 h2=>?_) _ _ _ _ ⟨.bl _,H,I,rfl,by rw [e3,e4]; exact q⟩
    have h1' : j < xs.length:=by simpa [e1] using h1
    have h2' : j < ys.length:=by simpa [e2] using h2
    obtain ⟨u,hu1,ru⟩:=r1.get (List.getElem?_eq_getElem h1')
    obtain ⟨v,hv1,rv⟩:=r2.get (List.getElem?_eq_getElem h2')
    have eu : is1.toArray[j] = u:=by simpa using (List.getElem?_eq_some_iff.mp hu1).2
    have ev : is2.toArray[j] = v:=by simpa using (List.getElem?_eq_some_iff.mp hv1).2
    rw [eu,ev]
    exact eqn_at I (h j _ _ (List.getElem?_eq_getElem h1') (List.getElem?_eq_getElem h2')) X.A.in1 u v (by show X.A.units + 1 + 2 < cLine; omega) ru rv
end
def EqQ (K : Frag) (H : Hp) (n : Nat) {α : Type} [DecidableEq α] (P : V→α→Prop) : Prop:=∀ x y a b,P x a→P y b→EqN K H n x y (decide (a = b))
theorem eqq_int {K : Frag} {H : Hp} {n : Nat} : EqQ K H n IsI:=by
  rintro x y a b rfl rfl
  have:=EqN.flat (K:=K) (H:=H) (n:=n) (x:=.int a) (y:=.int b) rfl rfl
  have e : eqV (.int a) (.int b) = decide (a = b):=by simp [eqV,Bool.beq_eq_decide_eq]
  rw [← e]; exact this
theorem eqq_lst {K : Frag} {H : Hp} {n : Nat} {α : Type} [DecidableEq α] {P : V→α→Prop} (h : EqQ K H n P) : EqQ K H (n + 1) (IsL K H P):=by
  rintro x y as bs ⟨a,xs,rfl,hx,lx,px⟩ ⟨b,ys,rfl,hy,ly,py⟩
  by_cases hl : as.length = bs.length
  · rw [← all_eq as bs hl,← lx]
    refine .lst _ hx hy (by omega) fun j x y h1 h2=>?_
    have j1:=(List.getElem?_eq_some_iff.mp h1).1
    have j2:=(List.getElem?_eq_some_iff.mp h2).1
    have ha : as[j]? = some as[j]:=List.getElem?_eq_getElem (by omega)
    have hb : bs[j]? = some bs[j]:=List.getElem?_eq_getElem (by omega)
    have:=h x y _ _ (px j _ _ h1 ha) (py j _ _ h2 hb)
    rw [ha,hb]
    simpa using this
  · have e : decide (as = bs) = false:=by simp; intro z; exact hl (congrArg List.length z)
    rw [e]
    exact .len hx hy (by omega)
theorem eqq_tup {K : Frag} {H : Hp} {n : Nat} {α : Type} [DecidableEq α] {P : V→α→Prop} (h : EqQ K H n P) : EqQ K H (n + 1) (IsT K H P):=by
  rintro x y as bs ⟨a,xs,rfl,hx,lx,px⟩ ⟨b,ys,rfl,hy,ly,py⟩
  have key:=EqN.tup (K:=K) (H:=H) (n:=n) (fun j=>decide (as[j]? = bs[j]?)) hx hy fun j x y h1 h2=>by
    have j1:=(List.getElem?_eq_some_iff.mp h1).1
    have j2:=(List.getElem?_eq_some_iff.mp h2).1
    have ha : as[j]? = some as[j]:=List.getElem?_eq_getElem (by omega)
    have hb : bs[j]? = some bs[j]:=List.getElem?_eq_getElem (by omega)
    have:=h x y _ _ (px j _ _ h1 ha) (py j _ _ h2 hb)
    rw [ha,hb]
    simpa using this
  have e : ((List.range (min xs.length ys.length)).all (fun j=>decide (as[j]? = bs[j]?)) && xs.length == ys.length) = decide (as = bs):=by
    rw [lx,ly]
    by_cases hl : as.length = bs.length
    · rw [← hl,Nat.min_self,all_eq as bs hl]; simp
    · have e : decide (as = bs) = false:=by simp; intro z; exact hl (congrArg List.length z)
      rw [e]
      simp [hl]
  rw [e] at key
  exact key
end L2
set_option Elab.async false
set_option linter.all false
set_option maxRecDepth 100000
set_option maxHeartbeats 4000000
namespace K51
open PySem PySem.Spec PyProof.Rows L2
local macro_rules | `(tactic| walk_at "rd")=>`(tactic| simp only [tIfS,tNot,tTest,tChain,rI0,rI,rU,tVar,tC,tB,tIf,tAndV,tOrV,tNotV,tCall,tCallX,tCons,tNil,tAsg,tSeq,tRet,tNext,tOp,tUn,tAnd,tOr,tDrop,gName,gSub,tAug,tCB,tSl,tRaise,tLst,tTup,L2.start,tYes,gTup,gCons,gNil,iniC,Option.join_some,Option.join_none,rEq,rNe,scal_ii,scal_bb,scal_ss,scal_nn,scal_ni,scal_in,tBM,Bool.true_eq_false,List.map_cons,List.map_nil,List.cons_append,List.nil_append,List.length_cons,List.length_nil,List.replicate,List.append_nil,List.set_cons_zero,List.set_cons_succ,List.getElem?_cons_zero,List.getElem?_cons_succ,Option.some.injEq,V.int.injEq,V.bl.injEq,V.ref.injEq,List.cons.injEq,and_true,true_and,exists_eq_left,exists_eq_left',exists_and_left,exists_eq,decide_eq_true_eq,Bool.not_eq_true',decide_eq_false_iff_not,cxK,and_assoc,Bool.false_eq_true,↓reduceIte,tFor_eq,tWhile_eq,tComp_eq,iRng1,iRng2,iList,iTup,iZip,iRev,rIxL,rIxT,rSetL,rCat,rIsi,rSum,rCount,tDelT,rPop,rIntB,tPar,rInsert,rIndex,rLen,rLof,rTof,tChain3,rBits,iSeq,tBM0,rEqD,tRngV,rLstR,tRngV2,rLstR2,rIn,gSubSl,rSlQ,iEnum,iEnumT,rInD,tMaxDT,tMaxD,tMinD,rIndexF,rSorted,rOr,rAll,rAny,ipM,rIxQ,tRev,rSlL,tPart,tNoPart,tSl,ipI,rAppend,rRep,cOf_ref,cOf_ty,rTupR2,rPopAt,iZipQ,rExtend,rSortT,rSlU,tAugS,iRevR,rMulS,rJoin,iStr,rSumT,V.str.injEq,rCountS,rRstrip,rLenS,rLtT,rRepU,rRemP,rIsAsc,rIsDig,rStarts,rStrI,rIntS,rSplit,tFldC,sFldC,tMeth,tMake,tDNewK,tDGet,sDPut,tDIn,tDNotIn,rSortD,rCatU,rSlV,rCatK,tMethX,iZip3,iEnumZ,tDNewT,tDSetD,tDVals,rLVals,rNInD,tLam,tSortR1,tSortR2,rMin1,rMax1,tMaxKD,tMinKD,gLst,tAsg2,rEqN])
def top (i : Nat) : Stmt:=PySem.Challenge.pw_dipkin_k51_tables_judged.main.body.getD i (.Pass ⟨0,0,0,0⟩)
abbrev s_need_numbers : Stmt:=top 5
abbrev s_settle : Stmt:=top 7
abbrev s_tree_of : Stmt:=top 8
abbrev s_way_up : Stmt:=top 9
abbrev s_young_of : Stmt:=top 10
abbrev s_from_below : Stmt:=top 11
abbrev s_need_loose : Stmt:=top 15
abbrev s_best_ahead : Stmt:=top 16
abbrev s_best_behind : Stmt:=top 17
abbrev s_pair_at : Stmt:=top 18
abbrev s_table_by : Stmt:=top 19
abbrev s_table_of : Stmt:=top 20
abbrev s_table_right : Stmt:=top 21
abbrev s__law_deal : Stmt:=top 23
abbrev s__law_take : Stmt:=top 24
abbrev s__law_row : Stmt:=top 25
abbrev s__law_elder : Stmt:=top 26
abbrev s__law_tree : Stmt:=top 27
abbrev s__law_over : Stmt:=top 28
abbrev s__law_either : Stmt:=top 29
abbrev s__law_pair : Stmt:=top 30
abbrev s__law_under : Stmt:=top 31
abbrev s__law_hand : Stmt:=top 32
abbrev s__law_ruled : Stmt:=top 33
abbrev s__law_table : Stmt:=top 34
abbrev s__law_pair_bent : Stmt:=top 35
abbrev s__law_bent : Stmt:=top 36
abbrev s__law_is_table : Stmt:=top 37
abbrev s_law : Stmt:=top 38
structure Txt (K : PySem.W.Frag) (mg : Str→Option Value) : Prop where
  b_bool : mg "bool" = none
  b_enumerate : mg "enumerate" = none
  b_isinstance : mg "isinstance" = none
  b_len : mg "len" = none
  b_list : mg "list" = none
  b_max : mg "max" = none
  b_min : mg "min" = none
  b_range : mg "range" = none
  b_sorted : mg "sorted" = none
  b_tuple : mg "tuple" = none
  c_DipError : mg "DipError" = some (.ref (clsAt mg "DipError"))
  x_DipError : PySem.W.excIn K (clsAt mg "DipError") bmV newV = true
  c_Empty : mg "Empty" = some (.ref (clsAt mg "Empty"))
  x_Empty : PySem.W.excIn K (clsAt mg "Empty") bmV newV = true
  c_TooMany : mg "TooMany" = some (.ref (clsAt mg "TooMany"))
  x_TooMany : PySem.W.excIn K (clsAt mg "TooMany") bmV newV = true
  m_MOST_HELD : mg "MOST_HELD" = some (.int 6 (tokAt mg "MOST_HELD"))
  m_MOST_HOLDING : mg "MOST_HOLDING" = some (.int 16 (tokAt mg "MOST_HOLDING"))
def tabsL (K : PySem.W.Frag) (mg : Str→Option Value) : List (Addr × Str):=[(tabP K mg "from_below",lamQ "from_below"),(tabP K mg "best_ahead",lamQ "best_ahead"),(tabP K mg "best_behind",lamQ "best_behind"),(tabP K mg "_law_table",lamQ "_law_table")]
abbrev SpT:=PySem.W.Frag→(Str→Option Value)→Sp
def spLaw (K : PySem.W.Frag) (mg : Str→Option Value) : Sp:=fun vs H Q E=>∃ (a : Addr) (ns : List Int),vs = [.ref a]∧SqL K H a (ns.map V.int)∧ns.length≤63∧(∀ p ∈ tabsL K mg,H p.1 = some (tabQ p.2))∧∀ H',Q (.bl true) H'
def sp__law_whole : SpT:=fun K mg vs H Q E=>∃ i : Int,vs = [.int i]∧Q (.bl true) H
/-- the heights of a row by the flat one -/
def hgt (F ns : List Int) : List Int:=(List.range F.length).map fun i=>nth ns i - nth F i
def sp_heights_of : SpT:=fun K mg vs H Q E=>∃ (f r : Addr) (F ns : List Int),vs = [.ref f,.ref r]∧H f = some (.tup (F.map V.int))∧(SqL K H r (ns.map V.int)∨SqT K H r (ns.map V.int))∧F.length≤1000∧ns.length≤1000∧(ns.length = F.length→∀ (l : Addr) H',H l = none→Same H H'→H' l = some (.lst ((hgt F ns).map V.int))→Q (.ref l) H')∧(ns.length≠F.length→∀ H',Same H H'→E (.ref (clsAt mg "Unlike")) none H')
def sp_is_over : SpT:=fun K mg vs H Q E=>∃ (t : Addr) (T : List Int) (a b : Int),vs = [.ref t,.int a,.int b]∧H t = some (.tup (T.map V.int))∧T.length≤1000∧∀ H',Same H H'→Q (.bl (decide (0≤b∧b < T.length∧a ∈ wayI T b.toNat))) H'
def sp_way_up : SpT:=fun K mg vs H Q E=>∃ (t : Addr) (T : List Int) (p : Nat),vs = [.ref t,.int p]∧(SqL K H t (T.map V.int)∨SqT K H t (T.map V.int))∧T.length≤1000∧p < T.length∧∀ (w : Addr) H',H w = none→Same H H'→H' w = some (.lst ((wayI T p).map V.int))→Q (.ref w) H'
def dpI (T : List Int) (i : Int) : Int:=((wayI T i.toNat).length : Int)
def sp_from_below : SpT:=fun K mg vs H Q E=>∃ (t : Addr) (T : List Int),vs = [.ref t]∧H t = some (.tup (T.map V.int))∧GoodT T∧TabH K mg "from_below" H∧∀ (l : Addr) (ps : List Int) H',H l = none→Same H H'→ps.Perm (nats (T.length : Int))→(ps.Pairwise fun x y=>dpI T y≤dpI T x)→H' l = some (.lst (ps.map V.int))→Q (.ref l) H'
abbrev Pt:=Option (Int × Int)
def PairAt (H : Hp) (v : V) : Pt→Prop
  | none=>v = .non
  | some z=>∃ a : Addr,v = .ref a∧H a = some (.tup [.int z.1,.int z.2])
/-- a list of pairs or None -/
def PtsAt (H : Hp) (a : Addr) (ps : List Pt) : Prop:=∃ vals : List V,H a = some (.lst vals)∧vals.length = ps.length∧∀ (i : Nat) (v : V) (p : Pt),vals[i]? = some v→ps[i]? = some p→PairAt H v p
def TblAt (H : Hp) (l : Addr) (tab : List (List Pt)) : Prop:=∃ as : List Addr,H l = some (.lst (as.map V.ref))∧l ∉ as∧as.length = tab.length∧∀ (i : Nat) (a : Addr) (ps : List Pt),as[i]? = some a→tab[i]? = some ps→PtsAt H a ps
def optN : Option Nat→V
  | none=>.non
  | some j=>.int (j : Int)
def ptAt (ps : List Pt) (j : Nat) : Int × Int:=(ps.getD j none).getD (0,0)
def fitsA (ts : List Int) (ps : List Pt) (i j : Nat) : Prop:=j < i∧(ps.getD j none).isSome = true∧nth ts i < nth ts j∧(ptAt ps j).2 < i
def fitsB (ts : List Int) (ps : List Pt) (i j : Nat) : Prop:=i < j∧j < ts.length∧(ps.getD j none).isSome = true∧nth ts i≤nth ts j∧(i : Int) < (ptAt ps j).1
def BestA (ts : List Int) (ps : List Pt) (i : Nat) : Option Nat→Prop
  | none=>∀ j,¬ fitsA ts ps i j
  | some j=>fitsA ts ps i j∧∀ j',fitsA ts ps i j'→(ptAt ps j').1≤(ptAt ps j).1
def BestB (ts : List Int) (ps : List Pt) (i : Nat) : Option Nat→Prop
  | none=>∀ j,¬ fitsB ts ps i j
  | some j=>fitsB ts ps i j∧∀ j',fitsB ts ps i j'→(ptAt ps j).2≤(ptAt ps j').2
def sp_best_ahead : SpT:=fun K mg vs H Q E=>∃ (x q : Addr) (ts : List Int) (ps : List Pt) (i : Nat),vs = [.ref x,.ref q,.int (i : Int)]∧(SqL K H x (ts.map V.int)∨SqT K H x (ts.map V.int))∧PtsAt H q ps∧ps.length = ts.length∧ts.length≤16∧i < ts.length∧TabH K mg "best_ahead" H∧∀ (r : Option Nat) H',Same H H'→BestA ts ps i r→Q (optN r) H'
def sp_best_behind : SpT:=fun K mg vs H Q E=>∃ (x q : Addr) (ts : List Int) (ps : List Pt) (i : Nat),vs = [.ref x,.ref q,.int (i : Int)]∧(SqL K H x (ts.map V.int)∨SqT K H x (ts.map V.int))∧PtsAt H q ps∧ps.length = ts.length∧ts.length≤16∧i < ts.length∧TabH K mg "best_behind" H∧∀ (r : Option Nat) H',Same H H'→BestB ts ps i r→Q (optN r) H'
/-- what the first,the last place of the stretch is: by the best of the younger one -/
def FirstIs (ts : List Int) (tab : List (List Pt)) (i : Nat) (ah : Option Nat) (r : Option Int) : Prop:=match ah with
  | none=>r = some (i : Int)
  | some c=>match r with
    | none=>∀ j,¬ fitsA ts (tab.getD c []) i j
    | some m=>(∃ j,fitsA ts (tab.getD c []) i j∧m = (ptAt (tab.getD c []) j).1)∧∀ j,fitsA ts (tab.getD c []) i j→(ptAt (tab.getD c []) j).1≤m
def LastIs (ts : List Int) (tab : List (List Pt)) (i : Nat) (bh : Option Nat) (r : Option Int) : Prop:=match bh with
  | none=>r = some (i : Int)
  | some c=>match r with
    | none=>∀ j,¬ fitsB ts (tab.getD c []) i j
    | some m=>(∃ j,fitsB ts (tab.getD c []) i j∧m = (ptAt (tab.getD c []) j).2)∧∀ j,fitsB ts (tab.getD c []) i j→m≤(ptAt (tab.getD c []) j).2
def bothPt : Option Int→Option Int→Pt
  | some a,some b=>some (a,b)
  | _,_=>none
def RuledIs (ts : List Int) (tab : List (List Pt)) (i : Nat) (ah bh : Option Nat) (p : Pt) : Prop:=∃ a b,FirstIs ts tab i ah a∧LastIs ts tab i bh b∧p = bothPt a b
def kidOk (tab : List (List Pt)) (n : Nat) : Option Nat→Prop
  | none=>True
  | some c=>c < tab.length∧(tab.getD c []).length = n
def sp_pair_at : SpT:=fun K mg vs H Q E=>∃ (x l y : Addr) (ts : List Int) (tab : List (List Pt)) (ah bh : Option Nat) (i : Nat),vs = [.ref x,.ref l,.ref y,.int (i : Int)]∧(SqL K H x (ts.map V.int)∨SqT K H x (ts.map V.int))∧TblAt H l tab∧H y = some (.lst [optN ah,optN bh])∧kidOk tab ts.length ah∧kidOk tab ts.length bh∧ts.length≤16∧i < ts.length∧TabH K mg "best_ahead" H∧TabH K mg "best_behind" H∧∀ (v : V) (p : Pt) H',Same H H'→RuledIs ts tab i ah bh p→PairAt H' v p→Q v H'
def sp_need_numbers : SpT:=fun K mg vs H Q E=>∃ (r : Addr) (ns : List Int) (k : Int),vs = [.ref r,.int k]∧(SqL K H r (ns.map V.int)∨SqT K H r (ns.map V.int))∧ns.length≤1000∧0≤k∧k≤1000∧(k≤ns.length→Q .non H)∧((ns.length : Int) < k→E (.ref (clsAt mg "Empty")) none H)
def sp_starts_of : SpT:=fun K mg vs H Q E=>∃ (r t : Addr) (ns ms : List Int),vs = [.ref r,.ref t]∧(SqL K H r (ns.map V.int)∨SqT K H r (ns.map V.int))∧(SqL K H t (ms.map V.int)∨SqT K H t (ms.map V.int))∧ns.length≤1000∧ms.length≤1000∧(ns.length = 0→E (.ref (clsAt mg "Empty")) none H) ∧
  (0 < ns.length→∀ (b : Addr) H',H b = none→Same H H'→H' b = some (.lst (natsV (startsTo (nth ns) (nth ms) ns.length ms.length)))→Q (.ref b) H')
def sp_settle : SpT:=fun K mg vs H Q E=>∃ (el sp : Addr) (es : List Int) (A B : List Nat) (i : Nat),vs = [.ref el,.ref sp,.int i,.int A.length]∧H el = some (.lst (es.map V.int))∧H sp = some (.lst (natsV (A ++ B)))∧el≠sp∧i < es.length∧(∀ q ∈ A ++ B,q < es.length)∧(A ++ B).length≤1000 ∧
  ∀ H',(∀ b o,b≠el→b≠sp→H b = some o→H' b = some o)→H' el = some (.lst ((setE es A B i).map V.int))→H' sp = some (.lst (natsV (A ++ [i])))→Q .non H'
def sp_tree_of : SpT:=fun K mg vs H Q E=>∃ (r : Addr) (ns : List Int),vs = [.ref r]∧(SqL K H r (ns.map V.int)∨SqT K H r (ns.map V.int))∧ns.length≤1000∧∀ (t : Addr) (es : List Int) H',TreeIs ns es→Same H H'→H' t = some (.tup (es.map V.int))→Q (.ref t) H'
def AheadIs (T : List Int) (v : Nat) : Option Nat→Prop
  | none=>∀ c,c < v→c < T.length→nth T c≠v
  | some c=>c < v∧c < T.length∧nth T c = v
def BehindIs (T : List Int) (v : Nat) : Option Nat→Prop
  | none=>∀ c,v < c→c < T.length→nth T c≠v
  | some c=>v < c∧c < T.length∧nth T c = v
def YoungAt (H : Hp) (y : Addr) (T : List Int) : Prop:=∃ as : List Addr,H y = some (.lst (as.map V.ref))∧as.length = T.length∧∀ (v : Nat) (a : Addr),as[v]? = some a→∃ ah bh,AheadIs T v ah∧BehindIs T v bh∧H a = some (.lst [optN ah,optN bh])
def sp_young_of : SpT:=fun K mg vs H Q E=>∃ (t : Addr) (T : List Int),vs = [.ref t]∧H t = some (.tup (T.map V.int))∧GoodT T∧∀ (y : Addr) H',H y = none→YoungAt H' y T→Same H H'→Q (.ref y) H'
def TabIs (T ts : List Int) (tab : List (List Pt)) : Prop:=tab.length = T.length∧∀ v,v < T.length→(tab.getD v []).length = ts.length∧∀ i,i < ts.length→∃ ah bh,AheadIs T v ah∧BehindIs T v bh∧RuledIs ts tab i ah bh ((tab.getD v []).getD i none)
def sp_table_by : SpT:=fun K mg vs H Q E=>∃ (t x : Addr) (T ts : List Int),vs = [.ref t,.ref x]∧H t = some (.tup (T.map V.int))∧(SqL K H x (ts.map V.int)∨SqT K H x (ts.map V.int))∧GoodT T∧ts.length≤16∧TabH K mg "from_below" H∧TabH K mg "best_ahead" H∧TabH K mg "best_behind" H∧∀ (l : Addr) (tab : List (List Pt)) H',H l = none→TblAt H' l tab→TabIs T ts tab→Same H H'→Q (.ref l) H'
def sp_need_loose : SpT:=fun K mg vs H Q E=>∃ (r x : Addr) (ns ts : List Int),vs = [.ref r,.ref x]∧(SqL K H r (ns.map V.int)∨SqT K H r (ns.map V.int))∧(SqL K H x (ts.map V.int)∨SqT K H x (ts.map V.int))∧0 < ns.length∧ns.length≤6∧ts.length≤16∧Q .non H
def sp_table_of : SpT:=fun K mg vs H Q E=>∃ (r x : Addr) (ns ts : List Int),vs = [.ref r,.ref x]∧(SqL K H r (ns.map V.int)∨SqT K H r (ns.map V.int))∧(SqL K H x (ts.map V.int)∨SqT K H x (ts.map V.int))∧0 < ns.length∧ns.length≤6∧ts.length≤16∧TabH K mg "from_below" H∧TabH K mg "best_ahead" H∧TabH K mg "best_behind" H∧∀ (l : Addr) (T : List Int) (tab : List (List Pt)) H',H l = none→TreeIs ns T→TblAt H' l tab→TabIs T ts tab→Same H H'→Q (.ref l) H'
/-- a list or a tuple of lists or tuples of pairs or None -/
def SqPts (K : PySem.W.Frag) (H : Hp) (a : Addr) (ps : List Pt) : Prop:=∃ vals : List V,(SqL K H a vals∨SqT K H a vals)∧vals.length = ps.length∧∀ (i : Nat) (v : V) (p : Pt),vals[i]? = some v→ps[i]? = some p→PairAt H v p
def SqTbl (K : PySem.W.Frag) (H : Hp) (l : Addr) (tab : List (List Pt)) : Prop:=∃ as : List Addr,(SqL K H l (as.map V.ref)∨SqT K H l (as.map V.ref))∧as.length = tab.length∧∀ (i : Nat) (a : Addr) (ps : List Pt),as[i]? = some a→tab[i]? = some ps→SqPts K H a ps
def sp_table_right : SpT:=fun K mg vs H Q E=>∃ (r x l : Addr) (ns ts : List Int) (tb : List (List Pt)),vs = [.ref r,.ref x,.ref l]∧(SqL K H r (ns.map V.int)∨SqT K H r (ns.map V.int))∧(SqL K H x (ts.map V.int)∨SqT K H x (ts.map V.int))∧SqTbl K H l tb∧tb.length≤1000∧0 < ns.length∧ns.length≤6∧ts.length≤16∧TabH K mg "from_below" H∧TabH K mg "best_ahead" H∧TabH K mg "best_behind" H∧∀ (T : List Int) (tab : List (List Pt)) H',TreeIs ns T→TabIs T ts tab→Same H H'→Q (.bl (decide (tab = tb))) H'
def sp__law_deal : SpT:=fun K mg vs H Q E=>∃ (a : Addr) (ns : List Int) (k : Int),vs = [.ref a,.int k]∧SqL K H a (ns.map V.int)∧0≤k∧k≤100∧∀ p H',H p = none→Same H H'→PotAt H' p→Q (.ref p) H'
def sp__law_take : SpT:=fun K mg vs H Q E=>∃ (p : Addr) (many : Int),vs = [.ref p,.int many]∧0 < many∧many≤1000000001∧PotAt H p∧∀ d H',0≤d→d < many→PotAt H' p→Exc p H H'→Q (.int d) H'
def sp__law_row : SpT:=fun K mg vs H Q E=>∃ (p : Addr) (most : Int),vs = [.ref p,.int most]∧0≤most∧most≤1000∧PotAt H p∧∀ (r : Addr) (ns : List Int) H',H r = none→(ns.length : Int)≤most→H' r = some (.lst (ns.map V.int))→PotAt H' p→Exc p H H'→Q (.ref r) H'
def sp__law_elder : SpT:=fun K mg vs H Q E=>∃ (r : Addr) (ns : List Int) (i : Nat),vs = [.ref r,.int (i : Int)]∧(SqL K H r (ns.map V.int)∨SqT K H r (ns.map V.int))∧ns.length≤1000∧i < ns.length∧∀ (e : Int) H',ElderIs (nth ns) ns.length i e→Same H H'→Q (.int e) H'
def sp__law_tree : SpT:=fun K mg vs H Q E=>∃ (r : Addr) (ns : List Int),vs = [.ref r]∧(SqL K H r (ns.map V.int)∨SqT K H r (ns.map V.int))∧ns.length≤1000∧∀ (t : Addr) (es : List Int) H',TreeIs ns es→Same H H'→H' t = some (.tup (es.map V.int))→Q (.ref t) H'
def sp__law_over : SpT:=fun K mg vs H Q E=>∃ (t : Addr) (T : List Int) (p : Nat),vs = [.ref t,.int p]∧H t = some (.tup (T.map V.int))∧T.length≤1000∧p < T.length∧endsIn T T.length (nth T p)∧∀ (w : Addr) H',H w = none→Same H H'→H' w = some (.lst ((wayI T p).map V.int))→Q (.ref w) H'
def sp__law_flat : SpT:=fun K mg vs H Q E=>∃ (t : Addr) (T : List Int),vs = [.ref t]∧H t = some (.tup (T.map V.int))∧T.length≤1000∧(∀ p,p < T.length→endsIn T T.length (nth T p))∧∀ (w : Addr) H',H w = none→Same H H'→H' w = some (.lst ((flatI T).map V.int))→Q (.ref w) H'
def sp__law_hand : SpT:=fun K mg vs H Q E=>∃ (t : Addr) (T : List Int) (v : Nat) (lt : Bool),vs = [.ref t,.int (v : Int),.bl lt]∧H t = some (.tup (T.map V.int))∧GoodT T∧v < T.length∧∀ (o : Option Nat) H',(lt = false→AheadIs T v o)→(lt = true→BehindIs T v o)→Same H H'→Q (optN o) H'
def sp__law_ruled : SpT:=fun K mg vs H Q E=>∃ (t x l : Addr) (T ts : List Int) (tab : List (List Pt)) (v i : Nat),vs = [.ref t,.ref x,.ref l,.int (v : Int),.int (i : Int)]∧H t = some (.tup (T.map V.int))∧H x = some (.lst (ts.map V.int))∧TblAt H l tab∧GoodT T∧v < T.length∧i < ts.length∧ts.length≤16∧(∀ c,c < T.length→nth T c = v→c < tab.length∧(tab.getD c []).length = ts.length)∧∀ (u : V) (p : Pt) (ah bh : Option Nat) H',AheadIs T v ah→BehindIs T v bh→RuledIs ts tab i ah bh p→PairAt H' u p→Same H H'→Q u H'
def unN (T : List Int) (v : Nat) : Nat:=((List.range T.length).filter fun o=>decide (o = v∨v ∈ way T o)).length
def sp__law_under : SpT:=fun K mg vs H Q E=>∃ (t : Addr) (T : List Int) (v : Nat),vs = [.ref t,.int (v : Int)]∧H t = some (.tup (T.map V.int))∧GoodT T∧∀ (l : Addr) (us : List V) H',H l = none→H' l = some (.lst us)→us.length = unN T v→Same H H'→Q (.ref l) H'
def FsOk (ts : List Int) (tab : List (List Pt)) (i : Nat) (ah : Option Nat) (fs : List Int) : Prop:=match ah with
  | none=>fs = [(i : Int)]
  | some c=>∀ x,x ∈ fs↔∃ j,fitsA ts (tab.getD c []) i j∧x = (ptAt (tab.getD c []) j).1
def LsOk (ts : List Int) (tab : List (List Pt)) (i : Nat) (bh : Option Nat) (ls : List Int) : Prop:=match bh with
  | none=>ls = [(i : Int)]
  | some c=>∀ x,x ∈ ls↔∃ j,fitsB ts (tab.getD c []) i j∧x = (ptAt (tab.getD c []) j).2
def unI (T : List Int) (i : Int) : Int:=(unN T i.toNat : Int)
def sp__law_table : SpT:=fun K mg vs H Q E=>∃ (r x : Addr) (ns ts : List Int),vs = [.ref r,.ref x]∧H r = some (.lst (ns.map V.int))∧H x = some (.lst (ts.map V.int))∧ns.length≤6∧ts.length≤16∧TabH K mg "_law_table" H∧∀ (l : Addr) (T : List Int) (tab : List (List Pt)) H',H l = none→TreeIs ns T→TblAt H' l tab→TabIs T ts tab→Same H H'→Q (.ref l) H'
def sp__law_either : SpT:=fun K mg vs H Q E=>∃ (p r : Addr) (xs : List V),vs = [.ref p,.ref r]∧PotAt H p∧r≠p∧H r = some (.lst xs)∧xs.length≤1000∧∀ (u : Addr) H',H u = none→(H' u = some (.lst xs)∨H' u = some (.tup xs))→PotAt H' p→Exc p H H'→Q (.ref u) H'
def sp__law_pair : SpT:=fun K mg vs H Q E=>∃ (p : Addr) (most wide : Int),vs = [.ref p,.int most,.int wide]∧1≤most∧most≤100∧0≤wide∧wide≤100∧PotAt H p∧∀ (t r x : Addr) (ns ts : List Int) H',H r = none→H x = none→0 < ns.length→(ns.length : Int)≤most→(ts.length : Int)≤wide→H' r = some (.lst (ns.map V.int))→H' x = some (.lst (ts.map V.int))→H' t = some (.tup [.ref r,.ref x])→PotAt H' p→Exc p H H'→Q (.ref t) H'
def sp__law_is_table : SpT:=fun K mg vs H Q E=>∃ (r x l : Addr) (ns ts : List Int) (tb : List (List Pt)),vs = [.ref r,.ref x,.ref l]∧H r = some (.lst (ns.map V.int))∧H x = some (.lst (ts.map V.int))∧TblAt H l tb∧tb.length≤1000∧(∀ ps ∈ tb,ps.length≤1000)∧ns.length≤6∧ts.length≤16∧TabH K mg "_law_table" H∧∀ (T : List Int) (tab : List (List Pt)) H',TreeIs ns T→TabIs T ts tab→Same H H'→Q (.bl (decide (tb = tab))) H'
def sp__law_pair_bent : SpT:=fun K mg vs H Q E=>∃ (p : Addr) (u : V) (pr : Pt) (many : Int),vs = [.ref p,u,.int many]∧0≤many∧many≤100∧PotAt H p∧PairAt H u pr∧∀ (u' : V) (pr' : Pt) H',PairAt H' u' pr'→PotAt H' p→Exc p H H'→Q u' H'
def sp__law_bent : SpT:=fun K mg vs H Q E=>∃ (p l : Addr) (tb : List (List Pt)) (many M : Nat),vs = [.ref p,.ref l,.int (many : Int)]∧many≤M∧M≤60∧PotAt H p∧TblAt H l tb∧tb≠[]∧tb.length≤60∧(∀ ps ∈ tb,ps.length≤M)∧∀ (l' : Addr) (tb' : List (List Pt)) H',TblAt H' l' tb'→tb'.length≤tb.length + 1→(∀ ps ∈ tb',ps.length≤M + 1)→PotAt H' p→Exc p H H'→Q (.ref l') H'
section
variable {P : Program} {w : World} {K : PySem.W.Frag} {mg : Str→Option Value} {base : Heap}
theorem sc_need_numbers : FnScope ["row","fewest"] ["row","fewest"] (defScope s_need_numbers):=⟨rfl,rfl,rfl,by decide +kernel,rfl,by decide +kernel,by decide +kernel⟩
theorem sc_settle : FnScope ["elders","spine","place","keep"] ["elders","spine","place","keep"] (defScope s_settle):=⟨rfl,rfl,rfl,by decide +kernel,rfl,by decide +kernel,by decide +kernel⟩
theorem sc_tree_of : FnScope ["row","elders","spine","place","keep"] ["row"] (defScope s_tree_of):=⟨rfl,rfl,rfl,by decide +kernel,rfl,by decide +kernel,by decide +kernel⟩
theorem sc_way_up : FnScope ["tree","place","way","at"] ["tree","place"] (defScope s_way_up):=⟨rfl,rfl,rfl,by decide +kernel,rfl,by decide +kernel,by decide +kernel⟩
theorem sc_young_of : FnScope ["tree","young","place","elder"] ["tree"] (defScope s_young_of):=⟨rfl,rfl,rfl,by decide +kernel,rfl,by decide +kernel,by decide +kernel⟩
theorem sc_from_below : FnScope ["tree"] ["tree"] (defScope s_from_below):=⟨rfl,rfl,rfl,by decide +kernel,rfl,by decide +kernel,by decide +kernel⟩
theorem sc_need_loose : FnScope ["row","text"] ["row","text"] (defScope s_need_loose):=⟨rfl,rfl,rfl,by decide +kernel,rfl,by decide +kernel,by decide +kernel⟩
theorem sc_best_ahead : FnScope ["text","pairs","i","fit"] ["text","pairs","i"] (defScope s_best_ahead):=⟨rfl,rfl,rfl,by decide +kernel,rfl,by decide +kernel,by decide +kernel⟩
theorem sc_best_behind : FnScope ["text","pairs","i","fit"] ["text","pairs","i"] (defScope s_best_behind):=⟨rfl,rfl,rfl,by decide +kernel,rfl,by decide +kernel,by decide +kernel⟩
theorem sc_pair_at : FnScope ["text","table","young","i","ahead","behind","first","last","j"] ["text","table","young","i"] (defScope s_pair_at):=⟨rfl,rfl,rfl,by decide +kernel,rfl,by decide +kernel,by decide +kernel⟩
theorem sc_table_by : FnScope ["tree","text","young","table","v"] ["tree","text"] (defScope s_table_by):=⟨rfl,rfl,rfl,by decide +kernel,rfl,by decide +kernel,by decide +kernel⟩
theorem sc_table_of : FnScope ["row","text"] ["row","text"] (defScope s_table_of):=⟨rfl,rfl,rfl,by decide +kernel,rfl,by decide +kernel,by decide +kernel⟩
theorem sc_table_right : FnScope ["row","text","table"] ["row","text","table"] (defScope s_table_right):=⟨rfl,rfl,rfl,by decide +kernel,rfl,by decide +kernel,by decide +kernel⟩
theorem sc__law_deal : FnScope ["script","k","cell","seed","number","turn"] ["script","k"] (defScope s__law_deal):=⟨rfl,rfl,rfl,by decide +kernel,rfl,by decide +kernel,by decide +kernel⟩
theorem sc__law_take : FnScope ["pot","many","digit"] ["pot","many"] (defScope s__law_take):=⟨rfl,rfl,rfl,by decide +kernel,rfl,by decide +kernel,by decide +kernel⟩
theorem sc__law_row : FnScope ["pot","most","many","kind","turn","row","k"] ["pot","most"] (defScope s__law_row):=⟨rfl,rfl,rfl,by decide +kernel,rfl,by decide +kernel,by decide +kernel⟩
theorem sc__law_elder : FnScope ["row","place","earlier","later"] ["row","place"] (defScope s__law_elder):=⟨rfl,rfl,rfl,by decide +kernel,rfl,by decide +kernel,by decide +kernel⟩
theorem sc__law_tree : FnScope ["row"] ["row"] (defScope s__law_tree):=⟨rfl,rfl,rfl,by decide +kernel,rfl,by decide +kernel,by decide +kernel⟩
theorem sc__law_over : FnScope ["tree","place","way","here"] ["tree","place"] (defScope s__law_over):=⟨rfl,rfl,rfl,by decide +kernel,rfl,by decide +kernel,by decide +kernel⟩
theorem sc__law_either : FnScope ["pot","some"] ["pot","some"] (defScope s__law_either):=⟨rfl,rfl,rfl,by decide +kernel,rfl,by decide +kernel,by decide +kernel⟩
theorem sc__law_pair : FnScope ["pot","most","wide","row","text"] ["pot","most","wide"] (defScope s__law_pair):=⟨rfl,rfl,rfl,by decide +kernel,rfl,by decide +kernel,by decide +kernel⟩
theorem sc__law_under : FnScope ["tree","place"] ["tree","place"] (defScope s__law_under):=⟨rfl,rfl,rfl,by decide +kernel,rfl,by decide +kernel,by decide +kernel⟩
theorem sc__law_hand : FnScope ["tree","place","later","told"] ["tree","place","later"] (defScope s__law_hand):=⟨rfl,rfl,rfl,by decide +kernel,rfl,by decide +kernel,by decide +kernel⟩
theorem sc__law_ruled : FnScope ["tree","text","table","place","at","firsts","lasts","ahead","behind","pairs"] ["tree","text","table","place","at"] (defScope s__law_ruled):=⟨rfl,rfl,rfl,by decide +kernel,rfl,by decide +kernel,by decide +kernel⟩
theorem sc__law_table : FnScope ["row","text","tree","table","place"] ["row","text"] (defScope s__law_table):=⟨rfl,rfl,rfl,by decide +kernel,rfl,by decide +kernel,by decide +kernel⟩
theorem sc__law_pair_bent : FnScope ["pot","pair","many","way","turned"] ["pot","pair","many"] (defScope s__law_pair_bent):=⟨rfl,rfl,rfl,by decide +kernel,rfl,by decide +kernel,by decide +kernel⟩
theorem sc__law_bent : FnScope ["pot","table","many","bent","way","at","line","spot"] ["pot","table","many"] (defScope s__law_bent):=⟨rfl,rfl,rfl,by decide +kernel,rfl,by decide +kernel,by decide +kernel⟩
theorem sc__law_is_table : FnScope ["row","text","table"] ["row","text","table"] (defScope s__law_is_table):=⟨rfl,rfl,rfl,by decide +kernel,rfl,by decide +kernel,by decide +kernel⟩
theorem sc_law : FnScope ["script","k","pot","row","text","table","turn","handed","kept","told"] ["script"] (defScope s_law):=⟨rfl,rfl,rfl,by decide +kernel,rfl,by decide +kernel,by decide +kernel⟩
theorem ok__law_deal {f : Addr} {fd : FuncData} (F : Fun K "_law_deal" "_law_deal" s__law_deal f fd)  (T : Txt K mg) : FnOk P w K mg base (CXE P w) 1 f fd ["script","k"] (sp__law_deal K mg):=by
  refine F.okX sc__law_deal (fun vs H Q E h=>?_) (fun cdv A outer s H vs Q E hr h=>?_)
  · obtain ⟨a,ns,k,rfl,_⟩:=h; rfl
  obtain ⟨a,ns,k,rfl,hS,h0,h1,k1⟩:=h
  refine ⟨_,(pss_cons (ps_set (i:=2) sc__law_deal.nd rfl (Or.inl rfl) pe_int)
      (pss_cons (ps_if (pt_cmpR op_lt (pv 1) (pe_callB (call_lenK (K:=K) rfl) rfl T.b_len PySem.boot_len (pa_cons (pv 0) pa_nil)) (nomark _)) (pss_one (ps_set (i:=2) sc__law_deal.nd rfl (Or.inl rfl) (pe_op op_mod (pe_ix ix_list (pv 0) (pv 1) (fun _ _=>rfl)) (pe_op op_mulX (pe_op op_mulX (pe_op op_mulX (pe_op op_pow pe_int pe_int) (pe_op op_pow pe_int pe_int)) (pe_op op_pow pe_int pe_int)) (pe_op op_pow pe_int pe_int))))) pss_nil)
      (pss_cons (ps_if (pt_cmpR op_ge (pv 2) (pe_op op_pow pe_int pe_int) (nomark _)) (pss_one (ps_ret (pe_lst (pa_cons (pe_op op_sub (pv 2) (pe_op op_pow pe_int pe_int)) pa_nil)))) pss_nil)
      (pss_cons (ps_set (i:=3) sc__law_deal.nd rfl (Or.inl rfl) (pe_op op_add (pe_op op_add (pe_op op_mod (pv 2) pe_int) (pe_op op_mulX pe_int (pv 1))) pe_int))
      (pss_cons (ps_set (i:=4) sc__law_deal.nd rfl (Or.inl rfl) pe_int)
      (pss_cons (ps_nox (ps_for PassesOwn.never rfl (pi_range1 rfl T.b_range (pa_cons pe_int pa_nil)) (pg_name (i:=5) sc__law_deal.nd rfl (Or.inl rfl)) (pss_cons (ps_set (i:=3) sc__law_deal.nd rfl (Or.inl rfl) (pe_op op_mod (pe_op op_add (pe_op op_mulX (pv 3) pe_int) pe_int) pe_int))
      (pss_one (ps_set (i:=4) sc__law_deal.nd rfl (Or.inl rfl) (pe_op op_add (pe_op op_mulX (pv 4) pe_int) (pe_op op_mod (pe_op op_fdivL (pe_op op_mod (pe_op op_mulX (pv 3) (pv 3)) pe_int) pe_int) pe_int)))))))
      (pss_one (ps_ret (pe_lst (pa_cons (pv 4) pa_nil)))))))))),?_⟩
  simp only [tIfS,tNot,tTest,tChain,rI0,rI,rU,tVar,tC,tB,tIf,tAndV,tOrV,tNotV,tCall,tCallX,tCons,tNil,tAsg,tSeq,tRet,tNext,tOp,tUn,tAnd,tOr,tDrop,gName,gSub,tAug,tCB,tSl,tRaise,tLst,tTup,L2.start,tYes,gTup,gCons,gNil,iniC,Option.join_some,Option.join_none,rEq,rNe,scal_ii,scal_bb,scal_ss,scal_nn,scal_ni,scal_in,tBM,Bool.true_eq_false,List.map_cons,List.map_nil,List.cons_append,List.nil_append,List.length_cons,List.length_nil,List.replicate,List.append_nil,List.set_cons_zero,List.set_cons_succ,List.getElem?_cons_zero,List.getElem?_cons_succ,Option.some.injEq,V.int.injEq,V.bl.injEq,V.ref.injEq,List.cons.injEq,and_true,true_and,exists_eq_left,exists_eq_left',exists_and_left,exists_eq,decide_eq_true_eq,Bool.not_eq_true',decide_eq_false_iff_not,cxK,and_assoc,Bool.false_eq_true,↓reduceIte,tFor_eq,tWhile_eq,tComp_eq,iRng1,iRng2,iList,iTup,iZip,iRev,rIxL,rIxT,rSetL,rCat,rIsi,rSum,rCount,tDelT,rPop,rIntB,tPar,rInsert,rIndex,rLen,rLof,rTof,tChain3,rBits,iSeq,tBM0,rEqD,tRngV,rLstR,tRngV2,rLstR2,rIn,gSubSl,rSlQ,iEnum,iEnumT,rInD,tMaxDT,tMaxD,tMinD,rIndexF,rSorted,rOr,rAll,rAny,ipM,rIxQ,tRev,rSlL,tPart,tNoPart,tSl,ipI,rAppend,rRep,cOf_ref,cOf_ty,rTupR2,rPopAt,iZipQ,rExtend,rSortT,rSlU,tAugS,iRevR,rMulS,rJoin,iStr,rSumT,V.str.injEq,rCountS,rRstrip,rLenS,rLtT,rRepU,rRemP,rIsAsc,rIsDig,rStarts,rStrI,rIntS,rSplit,tFldC,sFldC,tMeth,tMake,tDNewK,tDGet,sDPut,tDIn,tDNotIn,rSortD,rCatU,rSlV,rCatK,tMethX,iZip3,iEnumZ,tDNewT,tDSetD,tDVals,rLVals,rNInD,tLam,tSortR1,tSortR2,rMin1,rMax1,tMaxKD,tMinKD,gLst,tAsg2,rEqN,cp18,cp60,qm1,qm2,qm3,qm4]
  have fin : ∀ g : Int,0≤g→∀ p,H p = none→Q (V.ref p) (upd H p (.lst [V.int g])):=fun g hg p hp=>k1 p _ hp ((Same.refl H).upd hp) ⟨_,upd_same,hg⟩
  refine ⟨_,.inl hS,ite2 (fun hk=>?_) (fun hk=>?_)⟩
  case' refine_1 =>
    obtain ⟨j,hj0⟩:=Int.eq_ofNat_of_zero_le h0
    have hj : j < (ns.map V.int).length:=by omega
    refine ⟨_,hS,_,atI_at hj0 hj,ns[j]'(by simpa using hj),by simp,ite2 (fun c=>⟨by decide,fin _ (Int.sub_nonneg.mpr c)⟩) (fun _=>⟨by decide,mul_l (by decide) (by decide),by decide,by decide,?_⟩)⟩
  case' refine_2 =>
    refine ite2 (fun z=>absurd z (by decide)) (fun _=>⟨by decide,mul_l (by decide) (by decide),by decide,by decide,?_⟩)
  all_goals
    refine for_range (fun i σ H'=>∃ v2 g o v5,σ = [some (.ref a),some (.int k),v2,some (.int o),some (.int g),v5]∧0≤g∧H' = H) ⟨_,0,_,none,rfl,Int.le_refl _,rfl⟩ ?_ ?_
    · rintro i σ H' hi ⟨v2,g,o,v5,rfl,hg,rfl⟩
      walk_at "rd"
      have b1:=Int.emod_nonneg (o * 48271 + 12345) (b:=2147483647) (by decide)
      have b2:=Int.emod_lt_of_pos (o * 48271 + 12345) (b:=2147483647) (by decide)
      refine ⟨mul_r (by decide) (by decide),by decide,mul_r (by decide) (by decide),mul_l (by omega) (by omega),by decide,⟨by decide,by decide⟩,by decide,?_⟩
      have b3:=Int.emod_nonneg ((o * 48271 + 12345) % 2147483647 * ((o * 48271 + 12345) % 2147483647) % 2147483629 / 64) (b:=16777216) (by decide)
      have b4:=Int.mul_nonneg hg (show (0 : Int)≤16777216 by decide)
      omega
    · rintro σ H' ⟨v2,g,o,v5,rfl,hg,rfl⟩
      walk_at "rd"
      exact ⟨by decide,fin g hg⟩
theorem ok__law_take {f : Addr} {fd : FuncData} (F : Fun K "_law_take" "_law_take" s__law_take f fd)  (T : Txt K mg) : FnOk P w K mg base (CXE P w) 1 f fd ["pot","many"] (sp__law_take K mg):=by
  refine F.okX sc__law_take (fun vs H Q E h=>?_) (fun cdv A outer s H vs Q E hr h=>?_)
  · obtain ⟨p,many,rfl,_⟩:=h; rfl
  obtain ⟨p,many,rfl,h0,h1,⟨x,hp,hx⟩,k1⟩:=h
  refine ⟨_,(pss_cons (ps_set (i:=2) sc__law_take.nd rfl (Or.inl rfl) (pe_op op_mod (pe_ix ix_list (pv 0) pe_int (fun _ _=>rfl)) (pv 1)))
      (pss_cons (ps_asg (pe_op op_fdivL (pe_ix ix_list (pv 0) pe_int (fun _ _=>rfl)) (pv 1)) (pg_sub (pv 0) pe_int set_list (fun _=>rfl)))
      (pss_one (ps_ret (pv 2))))),?_⟩
  walk_at "rd"
  refine ⟨_,SqL.of hp,_,rfl,_,rfl,h0,?_⟩
  refine ⟨_,SqL.of hp,_,rfl,_,rfl,⟨h0,by omega⟩,_,hp,_,rfl,?_⟩
  exact k1 _ _ (Int.emod_nonneg _ (by omega)) (Int.emod_lt_of_pos _ h0) ⟨_,upd_same,Int.ediv_nonneg hx (by omega)⟩ Exc.upd
theorem ok__law_row {f : Addr} {fd : FuncData} (F : Fun K "_law_row" "_law_row" s__law_row f fd) (G__law_take : Callee P w K mg base "_law_take" 1 ["pot","many"] (sp__law_take K mg)) (T : Txt K mg) : FnOk P w K mg base (CXE P w) 2 f fd ["pot","most"] (sp__law_row K mg):=by
  refine F.okX sc__law_row (fun vs H Q E h=>?_) (fun cdv A outer s H vs Q E hr h=>?_)
  · obtain ⟨p,most,rfl,_⟩:=h; rfl
  obtain ⟨p,most,rfl,h0,h1,hP,k1⟩:=h
  refine ⟨_,(pss_cons (ps_set (i:=2) sc__law_row.nd rfl (Or.inl rfl) (pe_callF G__law_take (hr.mono (by decide)) rfl passE (pa_cons (pv 0) (pa_cons (pe_op op_add (pv 1) pe_int) pa_nil))))
      (pss_cons (ps_set (i:=3) sc__law_row.nd rfl (Or.inl rfl) (pe_callF G__law_take (hr.mono (by decide)) rfl passE (pa_cons (pv 0) (pa_cons pe_int pa_nil))))
      (pss_cons (ps_set (i:=4) sc__law_row.nd rfl (Or.inl rfl) (pe_op op_add pe_int (pe_callF G__law_take (hr.mono (by decide)) rfl passE (pa_cons (pv 0) (pa_cons pe_int pa_nil)))))
      (pss_cons (ps_set (i:=5) sc__law_row.nd rfl (Or.inr rfl) (pe_lst pa_nil))
      (pss_cons (ps_nox (ps_for PassesOwn.never rfl (pi_range1 rfl T.b_range (pa_cons (pv 2) pa_nil)) (pg_name (i:=6) sc__law_row.nd rfl (Or.inl rfl)) (pss_one (ps_if (pt_cmpR op_lt (pv 3) pe_int (nomark _)) (pss_one (ps_expr (pe_bm PySem.F.plainAttrs_list PySem.F.slot_list_append PySem.F.type_list_append mt_append (pv 5) (pa_cons (pe_callF G__law_take (hr.mono (by decide)) rfl passE (pa_cons (pv 0) (pa_cons (pv 4) pa_nil))) pa_nil)))) (pss_one (ps_if (pt_cmpR op_eq (pv 3) pe_int (nomark _)) (pss_one (ps_expr (pe_bm PySem.F.plainAttrs_list PySem.F.slot_list_insert PySem.F.type_list_insert mt_insert (pv 5) (pa_cons (pe_callF G__law_take (hr.mono (by decide)) rfl passE (pa_cons (pv 0) (pa_cons (pe_op op_add (pv 6) pe_int) pa_nil))) (pa_cons (pv 6) pa_nil))))) (pss_one (ps_if (pt_cmpR op_eq (pv 3) pe_int (nomark _)) (pss_one (ps_expr (pe_bm PySem.F.plainAttrs_list PySem.F.slot_list_append PySem.F.type_list_append mt_append (pv 5) (pa_cons (pe_op op_sub (pe_op op_mod (pv 6) (pv 4)) (pe_op op_fdivL (pv 6) (pv 4))) pa_nil)))) (pss_one (ps_if (pt_cmpR op_eq (pv 3) pe_int (nomark _)) (pss_one (ps_expr (pe_bm PySem.F.plainAttrs_list PySem.F.slot_list_append PySem.F.type_list_append mt_append (pv 5) (pa_cons (pe_ix ix_list (pe_lst (pa_cons (pv 6) (pa_cons (pe_un un_neg (pv 6)) pa_nil))) (pe_op op_mod (pv 4) pe_int) (fun _ _=>rfl)) pa_nil)))) (pss_one (ps_if (pt_cmpR op_eq (pv 3) pe_int (nomark _)) (pss_one (ps_expr (pe_bm PySem.F.plainAttrs_list PySem.F.slot_list_append PySem.F.type_list_append mt_append (pv 5) (pa_cons (pe_op op_mulX (pe_op op_sub (pe_callF G__law_take (hr.mono (by decide)) rfl passE (pa_cons (pv 0) (pa_cons pe_int pa_nil))) pe_int) (pe_op op_pow pe_int pe_int)) pa_nil)))) (pss_one (ps_expr (pe_bm PySem.F.plainAttrs_list PySem.F.slot_list_append PySem.F.type_list_append mt_append (pv 5) (pa_cons (pe_op op_sub (pe_callF G__law_take (hr.mono (by decide)) rfl passE (pa_cons (pv 0) (pa_cons pe_int pa_nil))) pe_int) pa_nil))))))))))))))))
      (pss_cons (ps_if (pt_cmpR op_eq (pv 3) pe_int (nomark _)) (pss_one (ps_set (i:=5) sc__law_row.nd rfl (Or.inr rfl) (pe_compN ["k","row"] [none,some 5] rfl rfl rfl (pi_range1 rfl T.b_range (pa_cons (pv 2) pa_nil)) (fun _ _ _ _ _=>(pg_name (i:=0) (show (["k","row"] : List Str).Nodup from by decide +kernel) rfl (Or.inl rfl))) (fun _ _ _ _ _=>pifs_nil) (fun _ _ _ _ _=>(pe_bmK (K:=K) rfl PySem.F.plainAttrs_list PySem.F.slot_list_index PySem.F.type_list_index (mt_index (K:=K) rfl) (pv 1) (pa_cons (pv 0) pa_nil))) only_name))) pss_nil)
      (pss_one (ps_ret (pv 5))))))))),?_⟩
  refine seqR (fun σ Hx=>∃ m : Int,σ = [some (.ref p),some (.int most),some (.int m),none,none,none,none]∧0≤m∧m≤most∧PotAt Hx p∧Exc p H Hx) (fun R hR=>?_) ?_
  · walk_at "rd"
    exact ⟨p,_,rfl,by omega,by omega,hP,fun d H1 d0 d1 P1 e1=>hR _ _ ⟨d,rfl,d0,by omega,P1,e1⟩⟩
  rintro σ H1 ⟨many,rfl,m0,m1,P1,e1⟩
  refine seqR (fun σ Hx=>∃ k : Int,σ = [some (.ref p),some (.int most),some (.int many),some (.int k),none,none,none]∧0≤k∧k < 8∧PotAt Hx p∧Exc p H Hx) (fun R hR=>?_) ?_
  · walk_at "rd"
    exact ⟨p,_,rfl,by decide,by decide,P1,fun d H2 d0 d1 P2 e2=>hR _ _ ⟨d,rfl,d0,d1,P2,e1.trans e2⟩⟩
  clear P1 e1 H1
  rintro σ H1 ⟨kd,rfl,d0,d1,P1,e1⟩
  refine seqR (fun σ Hx=>∃ t : Int,σ = [some (.ref p),some (.int most),some (.int many),some (.int kd),some (.int t),none,none]∧2≤t∧t < 6∧PotAt Hx p∧Exc p H Hx) (fun R hR=>?_) ?_
  · walk_at "rd"
    exact ⟨p,_,rfl,by decide,by decide,P1,fun d H2 d0 d1 P2 e2=>⟨d,rfl,hR _ _ ⟨_,rfl,by omega,by omega,P2,e1.trans e2⟩⟩⟩
  clear P1 e1 H1
  rintro σ H1 ⟨tn,rfl,t0,t1,P1,e1⟩
  refine seqR (fun σ Hx=>∃ q : Addr,σ = [some (.ref p),some (.int most),some (.int many),some (.int kd),some (.int tn),some (.ref q),none]∧H q = none∧q≠p∧Hx q = some (.lst [])∧PotAt Hx p∧Exc p H Hx) (fun R hR=>?_) ?_
  · walk_at "rd"
    exact ⟨Nat.zero_le _,fun q hq=>hR _ _ ⟨q,rfl,e1.free (P1.ne hq) hq,P1.ne hq,upd_same,P1.upd hq,e1.same ((Same.refl H1).upd hq)⟩⟩
  clear P1 e1 H1
  rintro σ H1 ⟨q,rfl,zq,nqp,hq1,P1,e1⟩
  refine seqR (fun σ Hx=>∃ (ns : List Int) (v6 : Option V),σ = [some (.ref p),some (.int most),some (.int many),some (.int kd),some (.int tn),some (.ref q),v6]∧(ns.length : Int) = many∧(kd = 3→∀ j : Nat,(j : Int) < many→(j : Int) ∈ ns)∧Hx q = some (.lst (ns.map V.int))∧PotAt Hx p∧Exc p H Hx) (fun R hR=>?_) ?_
  · walk_at "rd"
    refine ⟨by omega,by omega,?_⟩
    refine for_range (fun i σ Hx=>∃ (ns : List Int) (v6 : Option V),σ = [some (.ref p),some (.int most),some (.int many),some (.int kd),some (.int tn),some (.ref q),v6]∧ns.length = i∧(kd = 3→∀ j : Nat,j < i→(j : Int) ∈ ns)∧Hx q = some (.lst (ns.map V.int))∧PotAt Hx p∧Exc p H Hx) ⟨[],none,rfl,rfl,(fun _ j hj=>absurd hj (by omega)),hq1,P1,e1⟩ ?_ ?_
    · rintro i σ Hx hi ⟨ns,v6,rfl,hl,hin,hqx,Px,ex⟩
      have hi' : i < 1000:=by omega
      have hb : (ns.map V.int).length < sizeLine:=Nat.lt_of_le_of_lt (show _≤1000 by rw [List.length_map]; omega) (by decide)
      have app : kd≠3→∀ (y : Int) (Hy : Hp),Hy q = some (.lst (ns.map V.int))→PotAt Hy p→Exc p H Hy→∃ x_1,Hy q = some (HO.lst x_1)∧x_1.length < sizeLine∧∃ ns' : List Int,ns'.length = i + 1∧(kd = 3→∀ (j : Nat),j < i + 1→(j : Int) ∈ ns')∧upd Hy q (HO.lst (x_1 ++ [V.int y])) q = some (HO.lst (List.map V.int ns'))∧PotAt (upd Hy q (HO.lst (x_1 ++ [V.int y]))) p∧Exc p H (upd Hy q (HO.lst (x_1 ++ [V.int y]))):=fun n3 y Hy hy Py ey =>
        ⟨_,hy,hb,ns ++ [y],by simp [hl],(fun z=>absurd z n3),by rw [upd_same]; simp,Py.updN nqp,ey.updN zq⟩
      walk_at "rd"
      refine ite2 (fun k3=>⟨tyV_list hqx,p,_,rfl,by omega,by omega,Px,fun d H2 d0 d1 P2 e2=>app (by omega) d H2 (e2 _ _ nqp hqx) P2 (ex.trans e2)⟩) fun k3=>?_
      refine ite2 (fun k4=>⟨tyV_list hqx,p,_,rfl,by omega,by omega,Px,fun d H2 d0 d1 P2 e2=>?_⟩) fun k4=>?_
      · refine ⟨_,d,rfl,e2 _ _ nqp hqx,d0,by omega,hb,ns.take d.toNat ++ (0 + (i : Int)) :: ns.drop d.toNat,by simp; omega,fun _ j hj=>?_,by rw [upd_same]; simp,P2.updN nqp,(ex.trans e2).updN zq⟩
        by_cases ej : j = i
        · rw [ej]; simp
        · have hm:=hin k4 j (by omega)
          rw [← List.take_append_drop d.toNat ns] at hm
          rcases List.mem_append.mp hm with z | z
          · exact List.mem_append_left _ z
          · exact List.mem_append_right _ (List.mem_cons_of_mem _ z)
      refine ite2 (fun k5=>⟨tyV_list hqx,by omega,⟨by omega,by omega⟩,app k4 _ Hx hqx Px ex⟩) fun k5=>?_
      refine ite2 (fun k6=>⟨tyV_list hqx,by decide,fun u hu=>⟨by decide,?_⟩⟩) fun k6=>?_
      · obtain ⟨v,hv,y,rfl⟩:=atI_all (xs:=[V.int (0 + (i : Int)),V.int (-(0 + (i : Int)))]) (i:=tn % 2) (fun v=>∃ y : Int,v = V.int y) (by omega) (by show _ < ((2 : Nat) : Int); omega) (by
          intro x hx
          simp only [List.mem_cons,List.not_mem_nil,or_false] at hx
          rcases hx with rfl | rfl <;> exact ⟨_,rfl⟩)
        have g:=(Same.refl Hx).upd (o:=.lst [V.int (0 + (i : Int)),V.int (-(0 + (i : Int)))]) hu
        exact ⟨_,SqL.of upd_same,_,hv,app k4 y _ (g _ _ hqx) (Px.same g) (ex.same g)⟩
      exact ite2 (fun k7=>⟨tyV_list hqx,p,_,rfl,by decide,by decide,Px,fun d H2 d0 d1 P2 e2=>⟨d,rfl,cp59,mul_l (by omega) (by omega),app k4 _ H2 (e2 _ _ nqp hqx) P2 (ex.trans e2)⟩⟩) fun k7=>⟨tyV_list hqx,p,_,rfl,by decide,by decide,Px,fun d H2 d0 d1 P2 e2=>⟨d,rfl,app k4 _ H2 (e2 _ _ nqp hqx) P2 (ex.trans e2)⟩⟩
    · rintro σ Hx ⟨ns,v6,rfl,hl,hin,hqx,Px,ex⟩
      exact hR _ _ ⟨ns,v6,rfl,by omega,(fun z j hj=>hin z j (by omega)),hqx,Px,ex⟩
  clear P1 e1 hq1 H1
  rintro σ H1 ⟨ns,v6,rfl,hl,hin,hq1,P1,e1⟩
  refine seqR (fun σ Hx=>∃ (q : Addr) (ns : List Int) (v6 : Option V),σ = [some (.ref p),some (.int most),some (.int many),some (.int kd),some (.int tn),some (.ref q),v6]∧H q = none∧(ns.length : Int) = many∧Hx q = some (.lst (ns.map V.int))∧PotAt Hx p∧Exc p H Hx) (fun R hR=>?_) ?_
  · walk_at "rd"
    refine ite2 (fun k3=>⟨by omega,by omega,?_⟩) fun k3=>hR _ _ ⟨q,ns,v6,rfl,zq,hl,hq1,P1,e1⟩
    refine comp_map (n:=many.toNat) (fun j=>V.int ((ns.idxOf ((j : Nat) : Int) : Nat) : Int)) (Nat.lt_of_le_of_lt (show _≤1000 by omega) (by decide)) (fun j Hx s hj=>hj) (fun Hx s=>Nat.le_refl _) ?_ ?_
    · rintro j x Hx Hy hj s ⟨rfl,rfl⟩
      have e0 : ((0 : Int) + (j : Int)) = (j : Int):=by omega
      rw [e0]
      walk_at "rd"
      exact ⟨tyV_list (s _ _ hq1),_,SqL.of (s _ _ hq1),by omega,hin k3 j (by omega),CW.next hj rfl s⟩
    · intro l Hx s hlx
      have em : (List.range many.toNat).map (fun j=>V.int ((ns.idxOf ((j : Nat) : Int) : Nat) : Int)) = ((List.range many.toNat).map fun j=>((ns.idxOf ((j : Nat) : Int) : Nat) : Int)).map V.int:=by rw [List.map_map]; rfl
      rw [em]
      exact hR _ _ ⟨l,_,v6,rfl,e1.free ((P1.same s).ne hlx) (s.free hlx),by simp; omega,upd_same,(P1.same s).upd hlx,(e1.same s).same ((Same.refl Hx).upd hlx)⟩
  rintro σ H2 ⟨q2,ms,v6',rfl,zq2,hl2,hq2,P2,e2⟩
  walk_at "rd"
  exact k1 q2 ms _ zq2 (by omega) hq2 P2 e2
theorem ok__law_elder {f : Addr} {fd : FuncData} (F : Fun K "_law_elder" "_law_elder" s__law_elder f fd)  (T : Txt K mg) : FnOk P w K mg base (CXE P w) 1 f fd ["row","place"] (sp__law_elder K mg):=by
  refine F.okX sc__law_elder (fun vs H Q E h=>?_) (fun cdv A outer s H vs Q E hr h=>?_)
  · obtain ⟨r,ns,i,rfl,_⟩:=h; rfl
  obtain ⟨r,ns,i,rfl,hr1,hn,hi,k1⟩:=h
  refine ⟨_,(pss_cons (ps_setCN (i:=2) ["other","row","place"] [none,some 0,some 1] sc__law_elder.nd rfl (Or.inl rfl) rfl rfl rfl (pi_range1 rfl T.b_range (pa_cons (pv 1) pa_nil)) (fun _ _ _ _ _=>(pg_name (i:=0) (show (["other","row","place"] : List Str).Nodup from by decide +kernel) rfl (Or.inl rfl))) (fun _ _ _ _ _=>pifs_one (pt_cmpR op_le (pe_ix (ix_q (K:=K) rfl) (pv 1) (pv 0) (fun _ _=>rfl)) (pe_ix (ix_q (K:=K) rfl) (pv 1) (pv 2) (fun _ _=>rfl)) (nomark _))) (fun _ _ _ _ _=>(pv 0)) only_name)
      (pss_cons (ps_setCN (i:=3) ["other","row","place"] [none,some 0,some 1] sc__law_elder.nd rfl (Or.inl rfl) rfl rfl rfl (pi_range2 rfl T.b_range (pa_cons (pe_op op_add (pv 1) pe_int) (pa_cons (pe_callB (call_lenK (K:=K) rfl) rfl T.b_len PySem.boot_len (pa_cons (pv 0) pa_nil)) pa_nil))) (fun _ _ _ _ _=>(pg_name (i:=0) (show (["other","row","place"] : List Str).Nodup from by decide +kernel) rfl (Or.inl rfl))) (fun _ _ _ _ _=>pifs_one (pt_cmpR op_lt (pe_ix (ix_q (K:=K) rfl) (pv 1) (pv 0) (fun _ _=>rfl)) (pe_ix (ix_q (K:=K) rfl) (pv 1) (pv 2) (fun _ _=>rfl)) (nomark _))) (fun _ _ _ _ _=>(pv 0)) only_name)
      (pss_cons (ps_if (PW.pt (pw_or (pt_cmpR (op_eqD (K:=K) rfl hr) (pv 2) (pe_lst pa_nil) (nomark _)) (pw_or1 (pt_cmpR (op_eqD (K:=K) rfl hr) (pv 3) (pe_lst pa_nil) (nomark _))))) (pss_one (ps_ret (pe_ix ix_list (pe_op op_cat (pe_op op_cat (pe_slice sl_list (pv 2) (po_some (pe_un un_neg pe_int)) po_none) (pe_slice sl_list (pv 3) po_none (po_some pe_int))) (pe_lst (pa_cons (pe_un un_neg pe_int) pa_nil))) pe_int (fun _ _=>rfl)))) pss_nil)
      (pss_cons (ps_if (pt_cmpR op_gt (pe_ix (ix_q (K:=K) rfl) (pv 0) (pe_ix ix_list (pv 2) (pe_un un_neg pe_int) (fun _ _=>rfl)) (fun _ _=>rfl)) (pe_ix (ix_q (K:=K) rfl) (pv 0) (pe_ix ix_list (pv 3) pe_int (fun _ _=>rfl)) (fun _ _=>rfl)) (nomark _)) (pss_one (ps_ret (pe_ix ix_list (pv 2) (pe_un un_neg pe_int) (fun _ _=>rfl)))) pss_nil)
      (pss_one (ps_ret (pe_ix ix_list (pv 3) pe_int (fun _ _=>rfl)))))))),?_⟩
  have eL : (ns.map V.int).length = ns.length:=List.length_map ..
  have EE:=elder_lists (f:=nth ns) hi
  generalize hA : ((List.range i).filter fun q=>decide (nth ns q≤nth ns i)) = A at EE
  generalize hB : ((List.range (ns.length - (i + 1))).filter fun j=>decide (nth ns (i + 1 + j) < nth ns i)) = B at EE
  have hqa : ∀ q ∈ A,q < ns.length:=fun q hq=>by
    rw [← hA] at hq
    have:=List.mem_range.mp (List.mem_filter.mp hq).1; omega
  have hqb : ∀ j ∈ B,i + 1 + j < ns.length:=fun j hq=>by
    rw [← hB] at hq
    have:=List.mem_range.mp (List.mem_filter.mp hq).1; omega
  refine seqR (fun σ Hz=>∃ a,σ = [some (.ref r),some (.int (i : Int)),some (.ref a),none]∧Same H Hz∧Hz a = some (.lst (natsV A))) (fun R hR=>?_) ?_
  · walk_at "rd"
    refine ⟨by omega,by omega,?_⟩
    have e1 : ((i : Int)).toNat = i:=by omega
    rw [e1]
    refine comp_filt (n:=i) (fun q=>decide (nth ns q≤nth ns i)) (fun q=>V.int ((q : Nat) : Int)) (Nat.lt_of_le_of_lt (show _≤1000 by omega) (by decide)) (fun j Hx s hj=>hj) (fun Hx s=>Nat.le_refl _) ?_ ?_
    · rintro j x Hx Hz hj s ⟨rfl,rfl⟩
      have e0 : ((0 : Int) + (j : Int)) = (j : Int):=by omega
      rw [e0]
      walk_at "rd"
      exact ⟨_,s.q hr1,_,nth_at (by omega),_,s.q hr1,_,nth_at (by omega),_,rfl,_,rfl,ite2 (fun h=>CF.take hj (decide_eq_true h) rfl s) (fun h=>CF.skip hj (decide_eq_false h) s)⟩
    · intro l1 H1 s1 hl1
      exact hR _ _ ⟨l1,rfl,s1.upd' hl1,by rw [upd_same,hA]; rfl⟩
  rintro σ Hx ⟨a,rfl,sx,hxa⟩
  refine seqR (fun σ Hy=>∃ b,σ = [some (.ref r),some (.int (i : Int)),some (.ref a),some (.ref b)]∧Same H Hy∧Hy a = some (.lst (natsV A))∧Hy b = some (.lst (natsV (B.map fun j=>i + 1 + j)))) (fun R hR=>?_) ?_
  · walk_at "rd"
    refine ⟨_,(sx.q hr1),by omega,by omega,by omega,by rw [eL]; omega,?_⟩
    have e1 : ((((ns.map V.int).length : Nat) : Int) - ((i : Int) + 1)).toNat = ns.length - (i + 1):=by rw [eL]; omega
    rw [e1]
    refine comp_filt (n:=ns.length - (i + 1)) (fun q=>decide (nth ns (i + 1 + q) < nth ns i)) (fun q=>V.int ((i + 1 + q : Nat) : Int)) (Nat.lt_of_le_of_lt (show _≤1000 by omega) (by decide)) (fun j Hx s hj=>hj) (fun Hx s=>Nat.le_refl _) ?_ ?_
    · rintro j x Hy Hz hj s ⟨rfl,rfl⟩
      have e0 : ((i : Int) + 1 + (j : Int)) = ((i + 1 + j : Nat) : Int):=by omega
      rw [e0]
      walk_at "rd"
      exact ⟨_,(sx.trans s).q hr1,_,nth_at (by omega),_,(sx.trans s).q hr1,_,nth_at (by omega),_,rfl,_,rfl,ite2 (fun h=>CF.take hj (decide_eq_true h) rfl s) (fun h=>CF.skip hj (decide_eq_false h) s)⟩
    · intro l1 H1 s1 hl1
      exact hR _ _ ⟨l1,rfl,(sx.trans s1).upd' hl1,(s1.upd' hl1) _ _ hxa,by rw [upd_same,hB]; simp [natsV,Function.comp_def]⟩
  clear sx hxa Hx
  rintro σ Hx ⟨b,rfl,sx,hxa,hxb⟩
  have ka : cutV (natsV A) (some (-1)) none = natsV (A.drop (A.length - 1)):=by rw [cut_m1,natsV_len]; simp [natsV,List.map_drop]
  have kb : cutV (natsV (B.map fun j=>i + 1 + j)) none (some 1) = natsV ((B.take 1).map fun j=>i + 1 + j):=by rw [cut_to1]; simp [natsV,List.map_take]
  have lA : A.length≤1000:=by rw [← hA]; exact Nat.le_trans (List.length_filter_le _ _) (by simp; omega)
  refine seqR (fun σ Hy=>σ = [some (.ref r),some (.int (i : Int)),some (.ref a),some (.ref b)]∧Same Hx Hy∧A≠[]∧B≠[]) (fun R hR=>?_) ?_
  · refine ifR (fun H1=>Same Hx H1∧(A = []∨B = [])) (fun H1=>Same Hx H1∧A≠[]∧B≠[]) ?_ ?_ ?_
    · rintro H1 ⟨s1,hc⟩
      have key : ∃ e : Int,atI (natsV (A.drop (A.length - 1)) ++ natsV ((B.take 1).map fun j=>i + 1 + j) ++ [V.int (-1)]) 0 = some (V.int e)∧ElderIs (nth ns) ns.length i e:=by
        rcases hc with rfl | rfl
        · cases B with
          | nil=>exact ⟨-1,rfl,by simpa using EE⟩
          | cons j B'=>exact ⟨((i + 1 + j : Nat) : Int),rfl,by simpa using EE⟩
        · rcases snoc_cases A with rfl | ⟨ys,y,rfl⟩
          · exact ⟨-1,rfl,by simpa using EE⟩
          · refine ⟨(y : Int),?_,by simpa using EE⟩
            have : (ys ++ [y]).drop ((ys ++ [y]).length - 1) = [y]:=by simp
            rw [this]; rfl
      obtain ⟨e,he,hE⟩:=key
      have m1:=s1 _ _ hxa
      have m2:=s1 _ _ hxb
      walk_at "rd"
      refine ⟨_,SqL.of m1,fun c1 z1=>?_⟩
      rw [ka]
      have u1:=(Same.refl H1).upd (o:=.lst (natsV (A.drop (A.length - 1)))) z1
      refine ⟨_,SqL.of (u1 _ _ m2),fun c2 z2=>?_⟩
      rw [kb]
      have u2:=(Same.refl _).upd (o:=.lst (natsV ((B.take 1).map fun j=>i + 1 + j))) z2
      refine ⟨_,u2 _ _ upd_same,_,upd_same,Nat.le_trans (show _≤1001 by rw [natsV_len,natsV_len]; simp; omega) (by decide),fun c3 z3=>⟨by decide,fun c4 z4=>?_⟩⟩
      have u4:=(Same.refl _).upd (o:=.lst [V.int (-1)]) z4
      refine ⟨_,u4 _ _ upd_same,_,upd_same,Nat.le_trans (show _≤1003 by rw [List.length_append,natsV_len,natsV_len]; simp; omega) (by decide),fun c5 z5=>⟨_,SqL.of upd_same,_,he,k1 e _ hE (((((((sx.trans s1).trans u1).trans u2).upd' z3).trans u4).upd' z5))⟩⟩
    · rintro H1 ⟨s1,hc⟩
      walk_at "rd"
      exact hR _ _ ⟨rfl,s1,hc⟩
    · intro B0 hT hU
      walk_at "rd"
      refine ⟨Nat.zero_le _,fun c hc=>?_⟩
      have u1:=(Same.refl Hx).upd (o:=.lst []) hc
      refine ⟨_,eqd_nil (u1 _ _ hxa) upd_same,?_⟩
      by_cases zA : A = []
      · exact ite2 (fun _=>hT _ ⟨u1,.inl zA⟩) fun z=>absurd (decide_eq_true zA) z
      refine ite2 (fun z=>absurd (of_decide_eq_true z) zA) fun _=>⟨Nat.zero_le _,fun d hd=>?_⟩
      have u2:=u1.upd' (o:=.lst []) hd
      refine ⟨_,eqd_nil (u2 _ _ hxb) upd_same,?_⟩
      by_cases zB : B = []
      · have : decide (B.map (fun j=>i + 1 + j) = []) = true:=decide_eq_true (by rw [zB]; rfl)
        rw [this]; exact hT _ ⟨u2,.inr zB⟩
      · have : decide (B.map (fun j=>i + 1 + j) = []) = false:=decide_eq_false (by simpa using zB)
        rw [this]; exact hU _ ⟨u2,zA,zB⟩
  rintro σ Hy ⟨rfl,sy,nA,nB⟩
  replace hxa:=sy _ _ hxa
  replace hxb:=sy _ _ hxb
  replace sx:=sx.trans sy
  rcases snoc_cases A with rfl | ⟨ys,y,rfl⟩
  · exact absurd rfl nA
  cases B with
  | nil=>exact absurd rfl nB
  | cons j B' =>
    have hy : y < ns.length:=hqa y (by simp)
    have hj : i + 1 + j < ns.length:=hqb j (by simp)
    have el : atI (natsV (ys ++ [y])) (-1) = some (V.int (y : Int)):=by rw [natsV_app]; exact atI_last _ _
    have ej : atI (natsV ((j :: B').map fun j=>i + 1 + j)) 0 = some (V.int ((i + 1 + j : Nat) : Int)):=natsV_at (j:=0) rfl
    have eg : (ys ++ [y]).getLast? = some y:=by simp
    rw [eg] at EE
    walk_at "rd"
    refine ⟨_,SqL.of hxa,_,el,_,_,rfl,sx.q hr1,_,nth_at hy,_,SqL.of hxb,_,ej,_,_,rfl,sx.q hr1,_,nth_at hj,_,rfl,_,rfl,ite2 (fun z=>⟨_,SqL.of hxa,_,el,k1 _ _ ?_ sx⟩) fun z=>⟨_,SqL.of hxb,_,ej,k1 _ _ ?_ sx⟩⟩
    · simp only [List.head?_cons,if_neg (show ¬ nth ns y≤nth ns (i + 1 + j) by omega)] at EE
      exact EE
    · simp only [List.head?_cons,if_pos (show nth ns y≤nth ns (i + 1 + j) by omega)] at EE
      exact EE
theorem ok__law_tree {f : Addr} {fd : FuncData} (F : Fun K "_law_tree" "_law_tree" s__law_tree f fd) (G__law_elder : Callee P w K mg base "_law_elder" 1 ["row","place"] (sp__law_elder K mg)) (T : Txt K mg) : FnOk P w K mg base (CXE P w) 2 f fd ["row"] (sp__law_tree K mg):=by
  refine F.okX sc__law_tree (fun vs H Q E h=>?_) (fun cdv A outer s H vs Q E hr h=>?_)
  · obtain ⟨r,ns,rfl,_⟩:=h; rfl
  obtain ⟨r,ns,rfl,hr0,hn,k1⟩:=h
  refine ⟨_,(pss_one (ps_ret (pe_callTy (call_tupK (K:=K) rfl) rfl T.b_tuple bt_tuple (pa_cons (pe_compN ["place","row"] [none,some 0] rfl rfl rfl (pi_range1 rfl T.b_range (pa_cons (pe_callB (call_lenK (K:=K) rfl) rfl T.b_len PySem.boot_len (pa_cons (pv 0) pa_nil)) pa_nil)) (fun _ _ _ _ _=>(pg_name (i:=0) (show (["place","row"] : List Str).Nodup from by decide +kernel) rfl (Or.inl rfl))) (fun _ _ _ _ _=>pifs_nil) (fun _ _ _ _ _=>(pe_callF G__law_elder (hr.mono (by decide)) rfl passE (pa_cons (pv 1) (pa_cons (pv 0) pa_nil)))) only_name) pa_nil)))),?_⟩
  walk_at "rd"
  have eL : (ns.map V.int).length = ns.length:=List.length_map ..
  refine ⟨_,hr0,by omega,by omega,?_⟩
  have e1 : (((ns.map V.int).length : Nat) : Int).toNat = ns.length:=by rw [eL]; omega
  rw [e1]
  refine comp_inv (n:=ns.length) (fun i acc Hx=>∃ es : List Int,acc = es.map V.int∧es.length = i∧(∀ p,p < i→ElderIs (nth ns) ns.length p (es.getD p 0))∧Same H Hx) (Nat.lt_of_le_of_lt (show _≤1000 by omega) (by decide)) ⟨[],rfl,rfl,(fun p hp=>absurd hp (by omega)),Same.refl _⟩ (fun i acc Hx _ hi=>hi) (fun acc Hx _=>Nat.le_refl _) ?_ ?_
  · rintro i x acc Hx Hy hi hla ⟨es,rfl,hl,hE,sx⟩ ⟨rfl,rfl⟩
    walk_at "rd"
    refine ⟨r,ns,i,by rw [Int.zero_add],sx.q hr0,hn,hi,fun e H2 he s2=>CA.take hi hla ⟨es ++ [e],by simp,by simp [hl],fun p hp=>?_,sx.trans s2⟩⟩
    by_cases z : p < es.length
    · rw [show (es ++ [e]).getD p 0 = es.getD p 0 by simp [List.getD_eq_getElem?_getD,List.getElem?_append_left z]]
      exact hE p (by omega)
    · have ep : p = es.length:=by omega
      rw [show (es ++ [e]).getD p 0 = e by rw [ep]; simp [List.getD_eq_getElem?_getD],ep,hl]
      exact he
  · rintro l acc Hx ⟨es,rfl,hl,hE,sx⟩ _ hlx
    refine ⟨l,rfl,_,.inl ⟨SqL.of upd_same,fun t ht=>k1 t es _ ⟨hl,hE⟩ ((sx.upd' hlx).upd' ht) upd_same⟩⟩
theorem ok_settle {f : Addr} {fd : FuncData} (F : Fun K "settle" "settle" s_settle f fd)  (T : Txt K mg) : FnOk P w K mg base (CXE P w) 1 f fd ["elders","spine","place","keep"] (sp_settle K mg):=by
  refine F.okX sc_settle (fun vs H Q E h=>?_) (fun cdv A outer s H vs Q E hr h=>?_)
  · obtain ⟨el,sp,es,A,B,i,rfl,_⟩:=h; rfl
  obtain ⟨el,sp,es,A',B,i,rfl,hel,hsp,hne,hi,hq,hlen,k1⟩:=h
  refine ⟨_,(pss_cons (ps_if (pt_cmpR op_lt (pv 3) (pe_callB (call_lenK (K:=K) rfl) rfl T.b_len PySem.boot_len (pa_cons (pv 1) pa_nil)) (nomark _)) (pss_one (ps_asg (pv 2) (pg_sub (pv 0) (pe_ix ix_list (pv 1) (pv 3) (fun _ _=>rfl)) set_list (fun _=>rfl)))) pss_nil)
      (pss_cons (ps_if (pt_cmpR op_gt (pv 3) pe_int (nomark _)) (pss_one (ps_asg (pe_ix ix_list (pv 1) (pe_op op_sub (pv 3) pe_int) (fun _ _=>rfl)) (pg_sub (pv 0) (pv 2) set_list (fun _=>rfl)))) pss_nil)
      (pss_cons (ps_delTail (pv 1) (pv 3))
      (pss_one (ps_expr (pe_bm PySem.F.plainAttrs_list PySem.F.slot_list_append PySem.F.type_list_append mt_append (pv 1) (pa_cons (pv 2) pa_nil))))))),?_⟩
  walk_at "rd"
  have hb1 : (natsV A').length < sizeLine:=by
    rw [natsV_len]
    rw [List.length_append] at hlen
    exact Nat.lt_of_le_of_lt (show _≤1000 by omega) (by decide)
  have etk : List.take A'.length (natsV (A' ++ B)) = natsV A':=by
    rw [natsV_app]
    have : A'.length = (natsV A').length:=(natsV_len A').symm
    rw [this,List.take_left]
  have hle : A'.length≤(natsV (A' ++ B)).length:=by rw [natsV_len,List.length_append]; omega
  have esn : natsV A' ++ [V.int (i : Nat)] = natsV (A' ++ [i]):=by rw [natsV_app]; rfl
  refine ⟨_,.inl (SqL.of hsp),?_⟩
  rw [natsV_len,List.length_append]
  -- the end: behind the two stores
  have fin : ∀ (es1 : List Int) (Hx : Hp),(∀ b o,b≠el→b≠sp→H b = some o→Hx b = some o)→Hx el = some (.lst (es1.map V.int))→Hx sp = some (.lst (natsV (A' ++ B)))→es1 = setE es A' B i →
      ∃ (xs : List V) (k : Nat),(A'.length : Int) = (k : Int)∧Hx sp = some (HO.lst xs)∧k≤xs.length∧tyV K "list" (V.ref sp) (upd Hx sp (HO.lst (List.take k xs)))∧∃ x,upd Hx sp (HO.lst (List.take k xs)) sp = some (HO.lst x)∧x.length < sizeLine∧Q V.non (upd (upd Hx sp (HO.lst (List.take k xs))) sp (HO.lst (x ++ [V.int (i : Nat)]))):=by
    intro es1 Hx h1 h2 h3 h4
    refine ⟨_,A'.length,rfl,h3,hle,tyV_list upd_same,_,upd_same,by rw [etk]; exact hb1,k1 _ (fun b o n1 n2 z=>by rw [upd_ne n2,upd_ne n2]; exact h1 b o n1 n2 z) (by rw [upd_ne hne,upd_ne hne,h2,h4]) (by rw [upd_same,etk,esn])⟩
  -- elders[place] = spine[keep - 1]
  have mid : ∀ (es1 : List Int) (Hx : Hp),(∀ b o,b≠el→b≠sp→H b = some o→Hx b = some o)→Hx el = some (.lst (es1.map V.int))→es1.length = es.length→Hx sp = some (.lst (natsV (A' ++ B)))→∀ q,A'.getLast? = some q→es1.set i (q : Int) = setE es A' B i →
      ∃ x,SqL K Hx sp x∧∃ x_1,atI x ((A'.length : Int) - 1) = some x_1∧∃ x,Hx el = some (HO.lst x)∧∃ x_2,ixN x.length (i : Int) = some x_2∧∃ (xs : List V) (k : Nat),(A'.length : Int) = (k : Int)∧upd Hx el (HO.lst (x.set x_2 x_1)) sp = some (HO.lst xs)∧k≤xs.length∧tyV K "list" (V.ref sp) (upd (upd Hx el (HO.lst (x.set x_2 x_1))) sp (HO.lst (List.take k xs))) ∧
        ∃ x_3,upd (upd Hx el (HO.lst (x.set x_2 x_1))) sp (HO.lst (List.take k xs)) sp = some (HO.lst x_3)∧x_3.length < sizeLine∧Q V.non (upd (upd (upd Hx el (HO.lst (x.set x_2 x_1))) sp (HO.lst (List.take k xs))) sp (HO.lst (x_3 ++ [V.int (i : Nat)]))):=by
    intro es1 Hx h1 h2 hl1 h3 q hq h4
    have hpos : 0 < A'.length:=by
      cases A' with
      | nil=>cases hq
      | cons _ _=>simp
    have hat : (A' ++ B)[A'.length - 1]? = some q:=by
      rw [List.getElem?_append_left (by omega)]
      rw [List.getLast?_eq_getElem?] at hq; exact hq
    have ei : ((A'.length : Int) - 1) = ((A'.length - 1 : Nat) : Int):=by omega
    refine ⟨_,SqL.of h3,_,by rw [ei]; exact natsV_at hat,_,h2,i,by rw [List.length_map,hl1]; exact ixN_nat hi,?_⟩
    have em : (es1.map V.int).set i (V.int (q : Nat)) = (es1.set i (q : Int)).map V.int:=by rw [List.map_set]
    rw [em]
    exact fin _ _ (fun b o n1 n2 z=>by rw [upd_ne n1]; exact h1 b o n1 n2 z) upd_same (by rw [upd_ne hne.symm]; exact h3) h4
  cases B with
  | nil =>
    rw [if_neg (by simp)]
    cases hq : A'.getLast? with
    | none =>
      have : A' = []:=List.getLast?_eq_none_iff.mp hq
      rw [if_neg (by rw [this]; simp)]
      exact fin es H (fun b o _ _ z=>z) hel hsp (by unfold setE; rw [hq]; rfl)
    | some q =>
      have : A'≠[]:=fun z=>by rw [z] at hq; cases hq
      rw [if_pos (by have:=List.length_pos_iff.mpr this; omega)]
      exact mid es H (fun b o _ _ z=>z) hel rfl hsp q hq (by unfold setE; rw [hq]; rfl)
  | cons b Br =>
    rw [if_pos (by simp; omega)]
    have hat : (A' ++ b :: Br)[A'.length]? = some b:=by rw [List.getElem?_append_right (Nat.le_refl _)]; simp
    have hbn : b < es.length:=hq b (by simp)
    refine ⟨_,SqL.of hsp,_,natsV_at hat,_,_,rfl,hel,b,by rw [List.length_map]; exact ixN_nat hbn,?_⟩
    have em : (es.map V.int).set b (V.int (i : Nat)) = (es.set b (i : Int)).map V.int:=by rw [List.map_set]
    rw [em]
    cases hq2 : A'.getLast? with
    | none =>
      have : A' = []:=List.getLast?_eq_none_iff.mp hq2
      rw [if_neg (by rw [this]; simp)]
      exact fin (es.set b i) _ (fun c o n1 n2 z=>by rw [upd_ne n1]; exact z) upd_same (by rw [upd_ne hne.symm]; exact hsp) (by unfold setE; rw [hq2]; rfl)
    | some q =>
      have : A'≠[]:=fun z=>by rw [z] at hq2; cases hq2
      rw [if_pos (by have:=List.length_pos_iff.mpr this; omega)]
      exact mid (es.set b i) _ (fun c o n1 n2 z=>by rw [upd_ne n1]; exact z) upd_same (by simp) (by rw [upd_ne hne.symm]; exact hsp) q hq2 (by unfold setE; rw [hq2]; rfl)
theorem ok_tree_of {f : Addr} {fd : FuncData} (F : Fun K "tree_of" "tree_of" s_tree_of f fd) (G_settle : Callee P w K mg base "settle" 1 ["elders","spine","place","keep"] (sp_settle K mg)) (T : Txt K mg) : FnOk P w K mg base (CXE P w) 2 f fd ["row"] (sp_tree_of K mg):=by
  refine F.okX sc_tree_of (fun vs H Q E h=>?_) (fun cdv A outer s H vs Q E hr h=>?_)
  · obtain ⟨r,ns,rfl,_⟩:=h; rfl
  obtain ⟨r,ns,rfl,hS,hn,k1⟩:=h
  refine ⟨_,(pss_cons (ps_set (i:=1) sc_tree_of.nd rfl (Or.inl rfl) (pe_op op_rep (pe_lst (pa_cons (pe_un un_neg pe_int) pa_nil)) (pe_callB (call_lenK (K:=K) rfl) rfl T.b_len PySem.boot_len (pa_cons (pv 0) pa_nil))))
      (pss_cons (ps_set (i:=2) sc_tree_of.nd rfl (Or.inl rfl) (pe_lst pa_nil))
      (pss_cons (ps_nox (ps_for PassesOwn.never rfl (pi_range1 rfl T.b_range (pa_cons (pe_callB (call_lenK (K:=K) rfl) rfl T.b_len PySem.boot_len (pa_cons (pv 0) pa_nil)) pa_nil)) (pg_name (i:=3) sc_tree_of.nd rfl (Or.inl rfl)) (pss_cons (ps_set (i:=4) sc_tree_of.nd rfl (Or.inl rfl) (pe_callB (call_lenK (K:=K) rfl) rfl T.b_len PySem.boot_len (pa_cons (pv 2) pa_nil)))
      (pss_cons (ps_nox (ps_while PassesOwn.never (PW.pt (pw_and (pt_cmpR op_gt (pv 4) pe_int (nomark _)) (pw_and1 (pt_cmpR op_gt (pe_ix (ix_q (K:=K) rfl) (pv 0) (pe_ix ix_list (pv 2) (pe_op op_sub (pv 4) pe_int) (fun _ _=>rfl)) (fun _ _=>rfl)) (pe_ix (ix_q (K:=K) rfl) (pv 0) (pv 3) (fun _ _=>rfl)) (nomark _))))) (pss_one (ps_aug (i:=4) sc_tree_of.nd rfl (Or.inl rfl) pe_int ip_sub))))
      (pss_one (ps_expr (pe_callF G_settle (hr.mono (by decide)) rfl passE (pa_cons (pv 1) (pa_cons (pv 2) (pa_cons (pv 3) (pa_cons (pv 4) pa_nil)))))))))))
      (pss_one (ps_ret (pe_callTy (call_tupK (K:=K) rfl) rfl T.b_tuple bt_tuple (pa_cons (pv 1) pa_nil))))))),?_⟩
  walk_at "rd"
  have eL : (ns.map V.int).length = ns.length:=List.length_map ..
  refine ⟨by decide,fun p hp=>⟨_,((Same.refl H).upd hp).q hS,_,upd_same,by omega,by rw [eL]; omega,?_,fun el hel=>⟨Nat.zero_le _,fun sp hsp=>?_⟩⟩⟩
  · exact Nat.le_trans (show _≤1000 by simp; omega) (by decide)
  have s0 : Same H (upd (upd (upd H p (.lst [V.int (-1)])) el (.lst (List.replicate (((ns.map V.int).length : Nat) : Int).toNat [V.int (-1)]).flatten)) sp (.lst [])):=(((Same.refl H).upd hp).upd' hel).upd' hsp
  refine ⟨_,s0.q hS,by omega,by rw [eL]; omega,?_⟩
  have en : (((ns.map V.int).length : Nat) : Int).toNat = ns.length:=by rw [eL]; omega
  have hel0 : (upd (upd (upd H p (.lst [V.int (-1)])) el (.lst (List.replicate (((ns.map V.int).length : Nat) : Int).toNat [V.int (-1)]).flatten)) sp (.lst [])) el = some (.lst ((List.replicate ns.length (-1 : Int)).map V.int)):=by
    have:=((Same.refl _).upd' (o:=.lst []) hsp) el _ upd_same
    rw [this,en]; simp
  have hsp0 : (upd (upd (upd H p (.lst [V.int (-1)])) el (.lst (List.replicate (((ns.map V.int).length : Nat) : Int).toNat [V.int (-1)]).flatten)) sp (.lst [])) sp = some (.lst (natsV [])):=upd_same
  have nes : el≠sp:=fun z=>by
    subst z
    rw [upd_same] at hsp; cases hsp
  have zel : H el = none:=((Same.refl H).upd hp).free hel
  have zsp : H sp = none:=(((Same.refl H).upd hp).upd' hel).free hsp
  rw [en] at hel0 hsp0 s0 ⊢
  generalize (upd (upd (upd H p (.lst [V.int (-1)])) el (.lst (List.replicate ns.length [V.int (-1)]).flatten)) sp (.lst [])) = H0 at s0 hel0 hsp0 ⊢
  refine for_range (fun i σ Hx=>∃ (es : List Int) (S : List Nat) (v3 v4 : Option V),σ = [some (.ref r),some (.ref el),some (.ref sp),v3,v4]∧Same H Hx∧Hx el = some (.lst (es.map V.int))∧Hx sp = some (.lst (natsV S))∧es.length = ns.length∧Spine (nth ns) i S∧(∀ p e,p < i→e = es.getD p 0→ElderIs (nth ns) i p e)∧∀ p,i≤p→p < ns.length→es.getD p 0 = -1)
    ⟨List.replicate ns.length (-1),[],none,none,rfl,s0,hel0,hsp0,by simp,⟨List.Pairwise.nil,fun q=>by simp⟩,fun p e hp=>by omega,fun p _ hp=>by simp [List.getD_eq_getElem?_getD,hp]⟩ ?_ ?_
  · rintro i σ Hx hi ⟨es,S,v3,v4,rfl,sx,hxe,hxs,hesl,hS2,hE,hE2⟩
    walk_at "rd"
    have hin : i < ns.length:=by omega
    have hSl : S.length≤1000:=by
      rcases pw_len S i 0 hS2.1 (fun q hq=>⟨Nat.zero_le _,((hS2.2 q).mp hq).1⟩) with z | z
      · omega
      · rw [z]; simp
    refine ⟨_,.inl (SqL.of hxs),?_⟩
    rw [natsV_len]
    refine while_i S.length (fun j σ Hy=>∃ A B,S = A ++ B∧B.length = j∧(∀ q ∈ B,nth ns i < nth ns q)∧σ = [some (.ref r),some (.ref el),some (.ref sp),some (.int (0 + (i : Int))),some (.int (A.length : Nat))]∧Hy = Hx) ⟨S,[],by simp,rfl,(fun q hq=>absurd hq (by simp)),rfl,rfl⟩ ?_
    rintro j σ Hy hj ⟨A,B,hAB,hBl,hBg,rfl,rfl⟩
    walk_at "rd"
    have hmem : ∀ q,q ∈ A ++ B→q < i:=fun q hq=>((hS2.2 q).mp (by rw [hAB]; exact hq)).1
    have hix : (0 + (i : Int)) = (i : Int):=by omega
    rw [hix]
    by_cases hA0 : A = []
    case' pos =>
      rw [if_neg (by rw [hA0]; simp)]
      have hA : ∀ q ∈ A,nth ns q≤nth ns i:=fun q hq=>absurd hq (by rw [hA0]; simp)
    case' neg =>
      obtain ⟨q,Al,rfl⟩ : ∃ q Al,A = Al ++ [q]:=⟨A.getLast hA0,A.dropLast,(List.dropLast_concat_getLast hA0).symm⟩
      have hal : (Al ++ [q]).length = Al.length + 1:=by simp
      rw [if_pos (by rw [hal]; omega)]
      have eiA : (((Al ++ [q]).length : Nat) : Int) - 1 = (Al.length : Int):=by rw [hal]; omega
      have hat : S[Al.length]? = some q:=by
        rw [hAB,List.append_assoc,List.getElem?_append_right (Nat.le_refl _)]; simp
      have hqi : q < i:=hmem q (by simp)
      refine ⟨_,SqL.of hxs,_,by rw [eiA]; exact natsV_at hat,_,_,rfl,sx.q hS,_,nth_at (by omega),_,sx.q hS,_,nth_at hin,_,rfl,_,rfl,ite2 (fun hlt=>?_) (fun hge=>?_)⟩
      · have hj2 : j + 1≤S.length:=by rw [hAB,List.length_append,hal]; omega
        refine ⟨_,WI.next,hj2,Al,q :: B,by rw [hAB]; simp,by simp [hBl],fun x hx=>?_,by rw [eiA],rfl⟩
        rcases List.mem_cons.mp hx with z | z
        · rw [z]; exact hlt
        · exact hBg x z
      have hA : ∀ x ∈ Al ++ [q],nth ns x≤nth ns i:=fun x hx=>by
        by_cases z : x = q
        · rw [z]; omega
        · have hxa : x ∈ Al:=by
            rcases List.mem_append.mp hx with y | y
            · exact y
            · exact absurd (by simpa using y) z
          have hpw:=hS2.1
          rw [hAB] at hpw
          have hxq : x < q:=(List.pairwise_append.mp (List.pairwise_append.mp hpw).1).2.2 x hxa q (by simp)
          have:=((hS2.2 x).mp (by rw [hAB]; exact List.mem_append_left _ hx)).2 q hxq hqi
          omega
      generalize Al ++ [q] = A at hA hAB hmem hA0 ⊢
    all_goals
      have SS:=spine_step (f:=nth ns) (i:=i) (A:=A) (B:=B) (by rw [← hAB]; exact hS2) hA hBg
      refine ⟨el,sp,es,A,B,i,rfl,hxe,by rw [← hAB]; exact hxs,nes,by omega,fun q hq=>by have:=hmem q hq; omega,by rw [← hAB]; exact hSl,fun H' q1 q2 q3=>?_⟩
      have hbi : ∀ b,B.head? = some b→b≠i:=fun b hb=>by
        have:=hmem b (List.mem_append_right _ (List.mem_of_head? hb)); omega
      refine ⟨fun b o z=>q1 b o (ne_of_none z zel) (ne_of_none z zsp) (sx b o z),setE es A B i,q2,A ++ [i],q3,by rw [setE_len]; exact hesl,SS.1,fun p e hp he=>?_,fun p hp1 hp2=>?_⟩
      · rw [setE_at _ _ _ _ _ (by omega) hbi] at he
        by_cases z : p = i
        · subst z
          rw [if_pos rfl,hE2 p (Nat.le_refl _) (by omega)] at he
          rw [he]; exact SS.2.1
        · rw [if_neg z] at he
          rw [he]
          exact SS.2.2 p _ (by omega) (hE p _ (by omega) rfl)
      · rw [setE_at _ _ _ _ _ (by omega) hbi,if_neg (by omega),if_neg (fun z=>?_)]
        · exact hE2 p (by omega) hp2
        · have:=hmem p (List.mem_append_right _ (List.mem_of_head? z)); omega
  · rintro σ Hx ⟨es,S,v3,v4,rfl,sx,hxe,hxs,hesl,hS2,hE,hE2⟩
    walk_at "rd"
    exact ⟨_,.inl ⟨SqL.of hxe,fun t ht=>k1 t es _ ⟨hesl,fun p hp=>hE p _ hp rfl⟩ (sx.upd' ht) upd_same⟩⟩
theorem ok_way_up {f : Addr} {fd : FuncData} (F : Fun K "way_up" "way_up" s_way_up f fd)  (T : Txt K mg) : FnOk P w K mg base (CXE P w) 1 f fd ["tree","place"] (sp_way_up K mg):=by
  refine F.okX sc_way_up (fun vs H Q E h=>?_) (fun cdv A outer s H vs Q E hr h=>?_)
  · obtain ⟨t,T,p,rfl,_⟩:=h; rfl
  obtain ⟨t,T',p,rfl,ht,hn,hp,k1⟩:=h
  have hQ : ∀ Hx,Same H Hx→(SqL K Hx t (T'.map V.int)∨SqT K Hx t (T'.map V.int)):=fun Hx sx=>ht.elim (fun z=>.inl (sx.seq z)) fun z=>.inr (sx.seqT z)
  refine ⟨_,(pss_cons (ps_set (i:=2) sc_way_up.nd rfl (Or.inl rfl) (pe_lst pa_nil))
      (pss_cons (ps_set (i:=3) sc_way_up.nd rfl (Or.inl rfl) (pe_ix (ix_q (K:=K) rfl) (pv 0) (pv 1) (fun _ _=>rfl)))
      (pss_cons (ps_nox (ps_while PassesOwn.never (PW.pt (pw_and (pt_chain op_le op_lt pe_int (pv 3) (pe_callB (call_lenK (K:=K) rfl) rfl T.b_len PySem.boot_len (pa_cons (pv 0) pa_nil))) (pw_and1 (pt_cmpR op_lt (pe_callB (call_lenK (K:=K) rfl) rfl T.b_len PySem.boot_len (pa_cons (pv 2) pa_nil)) (pe_callB (call_lenK (K:=K) rfl) rfl T.b_len PySem.boot_len (pa_cons (pv 0) pa_nil)) (nomark _))))) (pss_cons (ps_expr (pe_bm PySem.F.plainAttrs_list PySem.F.slot_list_append PySem.F.type_list_append mt_append (pv 2) (pa_cons (pv 3) pa_nil)))
      (pss_one (ps_set (i:=3) sc_way_up.nd rfl (Or.inl rfl) (pe_ix (ix_q (K:=K) rfl) (pv 0) (pv 3) (fun _ _=>rfl)))))))
      (pss_one (ps_ret (pv 2)))))),?_⟩
  walk_at "rd"
  refine ⟨Nat.zero_le _,fun l hl=>⟨_,hQ _ ((Same.refl H).upd hl),_,nth_at hp,?_⟩⟩
  refine while_i T'.length (fun j σ Hx=>Same H Hx∧Hx l = some (.lst (natsV (wayF T' j (nth T' p))))∧(wayF T' j (nth T' p)).length = j∧σ = [some (.ref t),some (.int p),some (.ref l),some (.int (wayAt T' j (nth T' p)))]) ⟨(Same.refl H).upd hl,upd_same,rfl,rfl⟩ ?_
  rintro j σ Hx hj ⟨sx,hxl,hjl,rfl⟩
  walk_at "rd"
  have hlen : (natsV (wayF T' j (nth T' p))).length = j:=by rw [natsV_len]; exact hjl
  have eL : (T'.map V.int).length = T'.length:=List.length_map ..
  have done : (j = T'.length∨¬ (0≤wayAt T' j (nth T' p)∧wayAt T' j (nth T' p) < T'.length))→Q (.ref l) Hx:=fun z=>by
    refine k1 l Hx hl sx ?_
    have : wayF T' T'.length (nth T' p) = wayF T' j (nth T' p):=by
      rcases z with z | z
      · rw [← z]
      · exact wayF_stop T' j _ _ hj hjl z
    rw [hxl]; unfold wayI; rw [this]; simp [natsV]
  refine ite2 (fun h0=>⟨_,hQ _ sx,ite2 (fun h1=>⟨_,.inl (SqL.of hxl),_,hQ _ sx,ite2 (fun h2=>?_) fun h2=>done (.inl (by rw [hlen,eL] at h2; omega))⟩) fun h1=>done (.inr (by rw [eL] at h1; omega))⟩) fun h0=>done (.inr (by omega))
  rw [eL] at h1; rw [hlen,eL] at h2
  obtain ⟨a1,a2⟩:=wayF_snoc T' j (nth T' p) h0 h1 hjl
  have ei : wayAt T' j (nth T' p) = (((wayAt T' j (nth T' p)).toNat : Nat) : Int):=by omega
  refine ⟨_,WI.next,tyV_list hxl,_,hxl,by rw [hlen]; exact Nat.lt_of_le_of_lt (show _≤1000 by omega) (by decide),_,hQ _ (sx.upd hl),_,(congrArg (atI _) ei).trans (nth_at (by omega)),by omega,sx.upd hl,?_,?_,?_⟩
  · rw [upd_same,a1,natsV_app]
    have : natsV [(wayAt T' j (nth T' p)).toNat] = [V.int (wayAt T' j (nth T' p))]:=by rw [ei]; simp [natsV]
    rw [this]
  · rw [a1]; simp [hjl]
  · rw [a2]
theorem ok_need_numbers {f : Addr} {fd : FuncData} {dV : Value} (F : FunD K "need_numbers" "need_numbers" s_need_numbers f fd dV)  (T : Txt K mg) : FnOk P w K mg base (CXE P w) 1 f fd ["row","fewest"] (sp_need_numbers K mg):=by
  refine F.okX sc_need_numbers (fun vs H Q E h=>?_) (fun cdv A outer s H vs Q E hr h=>?_)
  · obtain ⟨r,ns,k,rfl,_⟩:=h; rfl
  obtain ⟨r,ns,k,rfl,hS,hn,h0,h1,k1,k2⟩:=h
  refine ⟨_,(pss_one (ps_if (pt_cmpR op_lt (pe_callB (call_lenK (K:=K) rfl) rfl T.b_len PySem.boot_len (pa_cons (pv 0) pa_nil)) (pv 1) (nomark _)) (pss_one (ps_raise rfl rfl T.c_Empty T.x_Empty (pa_cons (pe_joined (pj_text (by decide) (pj_int (pe_callB (call_lenK (K:=K) rfl) rfl T.b_len PySem.boot_len (pa_cons (pv 0) pa_nil)) (pj_text (by decide) (pj_int (pv 1) (pj_text (by decide) pj_nil)))))) pa_nil) raisesE)) pss_nil)),?_⟩
  walk_at "rd"
  have eN : (ns.map V.int).length = ns.length:=List.length_map ..
  exact ⟨_,hS,ite2 (fun z=>⟨_,hS,by omega,by rw [eN]; omega,h0,by omega,fun y=>⟨by decide,k2 (by rw [eN] at z; exact z)⟩⟩) fun z=>k1 (by rw [eN] at z; omega)⟩
theorem ok__law_over {f : Addr} {fd : FuncData} (F : Fun K "_law_over" "_law_over" s__law_over f fd)  (T : Txt K mg) : FnOk P w K mg base (CXE P w) 1 f fd ["tree","place"] (sp__law_over K mg):=by
  refine F.okX sc__law_over (fun vs H Q E h=>?_) (fun cdv A outer s H vs Q E hr h=>?_)
  · obtain ⟨t,T,p,rfl,_⟩:=h; rfl
  obtain ⟨t,T',p,rfl,ht,hn,hp,hen,k1⟩:=h
  refine ⟨_,(pss_cons (ps_set (i:=2) sc__law_over.nd rfl (Or.inl rfl) (pe_lst pa_nil))
      (pss_cons (ps_set (i:=3) sc__law_over.nd rfl (Or.inl rfl) (pe_ix ix_tup (pv 0) (pv 1) (fun _ _=>rfl)))
      (pss_cons (ps_nox (ps_while PassesOwn.never (pt_cmpR op_ge (pv 3) pe_int (nomark _)) (pss_cons (ps_expr (pe_bm PySem.F.plainAttrs_list PySem.F.slot_list_append PySem.F.type_list_append mt_append (pv 2) (pa_cons (pv 3) pa_nil)))
      (pss_one (ps_set (i:=3) sc__law_over.nd rfl (Or.inl rfl) (pe_ix ix_tup (pv 0) (pv 3) (fun _ _=>rfl)))))))
      (pss_one (ps_ret (pv 2)))))),?_⟩
  walk_at "rd"
  have eL : (T'.map V.int).length = T'.length:=List.length_map ..
  refine ⟨Nat.zero_le _,fun l hl=>⟨_,SqT.of (((Same.refl H).upd hl) _ _ ht),_,nth_at hp,?_⟩⟩
  have nlt : t≠l:=ne_of_none ht hl
  refine while_m (fun m σ Hx=>∃ (h : Int) (L : List Nat),m + L.length = T'.length∧endsIn T' m h∧L ++ wayF T' m h = way T' p∧Same H Hx∧Hx l = some (.lst (natsV L))∧σ = [some (.ref t),some (.int p),some (.ref l),some (.int h)]) T'.length ⟨nth T' p,[],by simp,hen,rfl,(Same.refl H).upd hl,upd_same,rfl⟩ ?_
  rintro m σ Hx ⟨h,L,hm,he,hw,sx,hxl,rfl⟩
  walk_at "rd"
  refine ite2 (fun z=>?_) fun z=>?_
  · cases m with
    | zero=>exact absurd (show h = -1 from he) (by omega)
    | succ m =>
      rcases he with he | ⟨he1,he2,he3⟩
      · omega
      · obtain ⟨j,rfl⟩:=Int.eq_ofNat_of_zero_le he1
        have ej : ((j : Int)).toNat = j:=by omega
        rw [ej] at he3
        simp only [wayF,if_pos (And.intro he1 he2),ej] at hw
        refine ⟨_,fun σ' H' z=>z,tyV_list hxl,_,hxl,Nat.lt_of_le_of_lt (show _≤1000 by rw [natsV_len]; omega) (by decide),_,SqT.of (by rw [upd_ne nlt]; exact sx _ _ ht),_,nth_at (by omega),m,by omega,nth T' j,L ++ [j],by simp; omega,he3,by rw [← hw]; simp,sx.upd hl,?_,rfl⟩
        rw [upd_same,natsV_app]; rfl
  · refine k1 l Hx hl sx ?_
    have : wayF T' m h = []:=by
      cases m with
      | zero=>rfl
      | succ m=>simp only [wayF]; rw [if_neg (by omega)]
    rw [this,List.append_nil] at hw
    rw [hxl,wayI_way,hw]; simp [natsV]
theorem ok_from_below {f : Addr} {fd : FuncData} (F : Fun K "from_below" "from_below" s_from_below f fd) (G_way_up : Callee P w K mg base "way_up" 1 ["tree","place"] (sp_way_up K mg)) (L : LamD K mg "from_below" f) (B : BM mg base) (T : Txt K mg) : FnOk P w K mg base (CXE P w) 5 f fd ["tree"] (sp_from_below K mg):=by
  refine F.okL L B sc_from_below (fun vs H Q E h=>?_) (fun cdv A outer s H vs Q E LI hr h=>?_)
  · obtain ⟨t,T,rfl,_⟩:=h; rfl
  obtain ⟨t,T',rfl,ht,hG,hTb,k1⟩:=h
  refine ⟨_,(pss_one (ps_ret (pe_sortR2 (Nc:=["place","tree"]) (js:=[none,some 0]) (pn:="place") (q:=lamQ "from_below") (P:=tabP K mg "from_below") rfl hr ⟨rfl,rfl,rfl,rfl,rfl,rfl,rfl,fun _ _ _ _ _ _=>rfl⟩ (fun _ _ _ _ _ _=>(pe_callB (call_lenK (K:=K) rfl) rfl T.b_len PySem.boot_len (pa_cons (pe_callF G_way_up ((hr.in1.in1.deeper _).mono (by decide)) rfl passE (pa_cons (pv 1) (pa_cons (pv 0) pa_nil))) pa_nil))) rfl T.b_sorted (pa_cons (pe_range1 rfl T.b_range (pa_cons (pe_callB (call_lenK (K:=K) rfl) rfl T.b_len PySem.boot_len (pa_cons (pv 0) pa_nil)) pa_nil)) pa_nil) (pk_cons (pe_lam ⟨LI.code,LI.bm,LI.ql⟩ rfl) (pk_cons pe_bl pk_nil))))),?_⟩
  walk_at "rd"
  have eL : (T'.map V.int).length = T'.length:=List.length_map ..
  have h40:=hG.1
  refine ⟨_,.inr (SqT.of ht),by omega,by omega,fun p1 hp1=>?_⟩
  rw [eL]
  have g1:=(Same.refl H).upd' (o:=.rng 0 (T'.length : Int)) hp1
  have h1:=upd_same (H:=H) (a:=p1) (o:=.rng 0 (T'.length : Int))
  generalize upd H p1 (.rng 0 (T'.length : Int)) = H4 at g1 h1 ⊢
  refine ⟨g1 _ _ hTb,fun f1 H5 zf s5 LO=>⟨_,s5 _ _ h1,by omega,by omega,LO,dpI T',fun i H6 i0 i1 s6=>?_,fun ps l H6 hpm hpw s6 zl hl=>k1 l ps H6 ((g1.trans s5).free zl) ((g1.trans s5).trans s6) hpm hpw hl⟩⟩
  obtain ⟨j,rfl⟩:=Int.eq_ofNat_of_zero_le i0
  have g6:=(g1.trans s5).trans s6
  exact ⟨t,T',j,rfl,.inr (SqT.of (g6 _ _ ht)),by omega,by omega,fun w H7 zw s7 hw=>⟨w,rfl,_,.inl (SqL.of hw),by rw [List.length_map]; rfl,s7⟩⟩
theorem nthV {ns : List Int} {i : Nat} (h : i < ns.length) : (ns.map V.int)[i]? = some (V.int (nth ns i)):=by
  unfold nth
  rw [List.getElem?_map,List.getElem?_eq_getElem h,List.getD_eq_getElem?_getD,List.getElem?_eq_getElem h]; rfl
theorem hgt_len (F ns : List Int) : (hgt F ns).length = F.length:=by unfold hgt; simp
theorem hgt_nth {F ns : List Int} {i : Nat} (h : i < F.length) : nth (hgt F ns) i = nth ns i - nth F i:=by
  show List.getD ((List.range F.length).map fun i=>nth ns i - nth F i) i 0 = _
  rw [List.getD_eq_getElem?_getD,List.getElem?_map,List.getElem?_range h]; rfl
instance (ts : List Int) (ps : List Pt) (i j : Nat) : Decidable (fitsA ts ps i j):=by unfold fitsA; exact inferInstance
instance (ts : List Int) (ps : List Pt) (i j : Nat) : Decidable (fitsB ts ps i j):=by unfold fitsB; exact inferInstance
theorem PairAt.same {H H' : Hp} {v : V} {pr : Pt} (h : PairAt H v pr) (s : Same H H') : PairAt H' v pr:=by
  cases pr with
  | none=>exact h
  | some z=>obtain ⟨a,e,h⟩:=h; exact ⟨a,e,s _ _ h⟩
theorem PtsAt.same {H H' : Hp} {a : Addr} {ps : List Pt} (h : PtsAt H a ps) (s : Same H H') : PtsAt H' a ps:=by
  obtain ⟨vals,h1,h2,h3⟩:=h
  exact ⟨vals,s _ _ h1,h2,fun i v p e1 e2=>(h3 i v p e1 e2).same s⟩
theorem TblAt.same {H H' : Hp} {a : Addr} {tab : List (List Pt)} (h : TblAt H a tab) (s : Same H H') : TblAt H' a tab:=by
  obtain ⟨as,h1,h0,h2,h3⟩:=h
  exact ⟨as,s _ _ h1,h0,h2,fun i v p e1 e2=>(h3 i v p e1 e2).same s⟩
theorem pt_get {H : Hp} {vals : List V} {ps : List Pt} (hl : vals.length = ps.length) (h : ∀ (i : Nat) (v : V) (p : Pt),vals[i]? = some v→ps[i]? = some p→PairAt H v p) {j : Nat} (hj : j < ps.length) : ∃ v,atI vals (j : Int) = some v∧PairAt H v (ps.getD j none):=by
  refine ⟨vals[j]'(by omega),atI_at rfl (by omega),h j _ _ (List.getElem?_eq_getElem (by omega)) ?_⟩
  rw [List.getD_eq_getElem?_getD,List.getElem?_eq_getElem hj]; rfl
theorem pt_some {H : Hp} {v : V} {ps : List Pt} {j : Nat} (h : PairAt H v (ps.getD j none)) (hs : (ps.getD j none).isSome = true) : ∃ a,v = .ref a∧H a = some (.tup [.int (ptAt ps j).1,.int (ptAt ps j).2]):=by
  unfold ptAt
  cases e : ps.getD j none with
  | none=>rw [e] at hs; cases hs
  | some z=>rw [e] at h; exact h
theorem pt_non {H : Hp} {v : V} {ps : List Pt} {j : Nat} (h : PairAt H v (ps.getD j none)) : v = .non↔(ps.getD j none).isSome = false:=by
  cases e : ps.getD j none with
  | none=>rw [e] at h; exact ⟨fun _=>rfl,fun _=>h⟩
  | some z=>rw [e] at h; obtain ⟨a,rfl,_⟩:=h; exact ⟨fun z=>absurd z (fun y=>by cases y),fun z=>absurd z (by simp)⟩
theorem best_of {ps : List Pt} {ns : List Int} {i : Nat} {P : Nat→Prop} (hm : ∀ x,x ∈ ns↔∃ j : Nat,x = j∧P j) (hi : i < ns.length) : ∃ j : Nat,nth ns i = j∧P j:=(hm _).mp (by unfold nth; rw [List.getD_eq_getElem?_getD,List.getElem?_eq_getElem hi]; exact List.getElem_mem hi)
theorem max_ex (P : Nat→Prop) (f : Nat→Int) : ∀ n,(∀ j,j < n→¬ P j)∨∃ j,(j < n∧P j)∧∀ j',j' < n→P j'→f j'≤f j
  | 0=>.inl fun j h=>absurd h (by omega)
  | n + 1=>by
    classical
    rcases max_ex P f n with h | ⟨j,hj,h⟩
    · by_cases c : P n
      · refine .inr ⟨n,⟨by omega,c⟩,fun j' h1 h2=>?_⟩
        by_cases e : j' = n
        · subst e; exact Int.le_refl _
        · exact absurd h2 (h j' (by omega))
      · refine .inl fun j' h1 h2=>?_
        by_cases e : j' = n
        · subst e; exact c h2
        · exact h j' (by omega) h2
    · by_cases c : P n∧f j < f n
      · refine .inr ⟨n,⟨by omega,c.1⟩,fun j' h1 h2=>?_⟩
        by_cases e : j' = n
        · subst e; exact Int.le_refl _
        · have:=h j' (by omega) h2; omega
      · refine .inr ⟨j,⟨by omega,hj.2⟩,fun j' h1 h2=>?_⟩
        by_cases e : j' = n
        · subst e
          exact Int.not_lt.mp fun z=>c ⟨h2,z⟩
        · exact h j' (by omega) h2
theorem first_ex (ts : List Int) (tab : List (List Pt)) (i : Nat) (ah : Option Nat) : ∃ r,FirstIs ts tab i ah r:=by
  cases ah with
  | none=>exact ⟨_,rfl⟩
  | some c =>
    rcases max_ex (fitsA ts (tab.getD c []) i) (fun j=>(ptAt (tab.getD c []) j).1) i with h | ⟨j,hj,h⟩
    · exact ⟨none,fun j hj=>h j hj.1 hj⟩
    · exact ⟨some _,⟨j,hj.2,rfl⟩,fun j' hj'=>h j' hj'.1 hj'⟩
theorem last_ex (ts : List Int) (tab : List (List Pt)) (i : Nat) (bh : Option Nat) : ∃ r,LastIs ts tab i bh r:=by
  cases bh with
  | none=>exact ⟨_,rfl⟩
  | some c =>
    rcases max_ex (fitsB ts (tab.getD c []) i) (fun j=>-(ptAt (tab.getD c []) j).2) ts.length with h | ⟨j,hj,h⟩
    · exact ⟨none,fun j hj=>h j hj.2.1 hj⟩
    · exact ⟨some _,⟨j,hj.2,rfl⟩,fun j' hj'=>by have:=h j' hj'.2.1 hj'; omega⟩
theorem tbl_get {H : Hp} {as : List Addr} {tab : List (List Pt)} (hl : as.length = tab.length) (h : ∀ (i : Nat) (a : Addr) (ps : List Pt),as[i]? = some a→tab[i]? = some ps→PtsAt H a ps) {c : Nat} (hc : c < tab.length) : ∃ a,atI (as.map V.ref) (c : Int) = some (V.ref a)∧PtsAt H a (tab.getD c []):=by
  refine ⟨as[c]'(by omega),?_,h c _ _ (List.getElem?_eq_getElem (by omega)) ?_⟩
  · rw [atI_at rfl (by rw [List.length_map]; omega)]; simp
  · rw [List.getD_eq_getElem?_getD,List.getElem?_eq_getElem hc]; rfl
theorem getD_of {vals : List V} {j : Nat} {w : V} (h : atI vals (j : Int) = some w) : vals.getD j .non = w:=by
  by_cases hj : j < vals.length
  · unfold atI at h
    rw [ixN_nat hj] at h
    rw [List.getD_eq_getElem?_getD,show vals[j]? = some w from h]; rfl
  · obtain ⟨_,_,_,_,_,z⟩:=atI_get h
    omega
def AheadTo (T : List Int) (j v : Nat) : Option Nat→Prop
  | none=>∀ c,c < v→c < j→nth T c≠v
  | some c=>c < v∧c < j∧nth T c = v
def BehindTo (T : List Int) (j v : Nat) : Option Nat→Prop
  | none=>∀ c,v < c→c < j→nth T c≠v
  | some c=>v < c∧c < j∧nth T c = v
def YTo (H : Hp) (as : List Addr) (T : List Int) (j : Nat) : Prop:=∀ (v : Nat) (a : Addr),as[v]? = some a→∃ ah bh,AheadTo T j v ah∧BehindTo T j v bh∧H a = some (.lst [optN ah,optN bh])
theorem AheadTo.skip {T : List Int} {j v : Nat} {o : Option Nat} (h : AheadTo T j v o) (n : ¬ (j < v∧nth T j = v)) : AheadTo T (j + 1) v o:=by
  cases o with
  | none =>
    intro c c1 c2 e
    by_cases z : c = j
    · subst z; exact n ⟨c1,e⟩
    · exact h c c1 (by omega) e
  | some c=>exact ⟨h.1,by have:=h.2.1; omega,h.2.2⟩
theorem BehindTo.skip {T : List Int} {j v : Nat} {o : Option Nat} (h : BehindTo T j v o) (n : ¬ (v < j∧nth T j = v)) : BehindTo T (j + 1) v o:=by
  cases o with
  | none =>
    intro c c1 c2 e
    by_cases z : c = j
    · subst z; exact n ⟨c1,e⟩
    · exact h c c1 (by omega) e
  | some c=>exact ⟨h.1,by have:=h.2.1; omega,h.2.2⟩
theorem YTo.same {H H' : Hp} {as : List Addr} {T : List Int} {j : Nat} (h : YTo H as T j) (s : Same H H') : YTo H' as T j:=fun v a e=>by
  obtain ⟨ah,bh,h1,h2,h3⟩:=h v a e
  exact ⟨ah,bh,h1,h2,s _ _ h3⟩
theorem YTo.skip {H : Hp} {as : List Addr} {T : List Int} {j : Nat} (h : YTo H as T j) (n : ∀ v : Nat,v < as.length→nth T j≠v) : YTo H as T (j + 1):=fun v a e=>by
  obtain ⟨ah,bh,h1,h2,h3⟩:=h v a e
  have hv:=(List.getElem?_eq_some_iff.mp e).1
  exact ⟨ah,bh,h1.skip fun z=>n v hv z.2,h2.skip fun z=>n v hv z.2,h3⟩
theorem YTo.set {H : Hp} {as : List Addr} {T : List Int} {j q : Nat} {a : Addr} {ah bh : Option Nat} (h : YTo H as T j) (nd : as.Nodup) (ea : as[q]? = some a) (hA : AheadTo T (j + 1) q ah) (hB : BehindTo T (j + 1) q bh) (eq : nth T j = q) : YTo (upd H a (.lst [optN ah,optN bh])) as T (j + 1):=fun v b e=>by
  by_cases c : v = q
  · subst c
    rw [ea] at e; cases e
    exact ⟨ah,bh,hA,hB,upd_same⟩
  · have nb : b≠a:=fun z=>by
      subst z
      obtain ⟨h1,e1⟩:=List.getElem?_eq_some_iff.mp ea
      obtain ⟨h2,e2⟩:=List.getElem?_eq_some_iff.mp e
      exact c ((List.getElem_inj nd (h₀:=h2) (h₁:=h1)).mp (e2.trans e1.symm))
    obtain ⟨ah',bh',h1,h2,h3⟩:=h v b e
    exact ⟨ah',bh',h1.skip fun z=>c (by have:=z.2; omega),h2.skip fun z=>c (by have:=z.2; omega),by rw [upd_ne nb]; exact h3⟩
theorem fs_none {ts : List Int} {tab : List (List Pt)} {i : Nat} {ah : Option Nat} (h : FsOk ts tab i ah []) : FirstIs ts tab i ah none:=by
  cases ah with
  | none=>exact absurd (show ([] : List Int) = [(i : Int)] from h) (by simp)
  | some c=>exact fun j hj=>absurd ((h _).mpr ⟨j,hj,rfl⟩) (by simp)
theorem fs_some {ts fs : List Int} {tab : List (List Pt)} {i : Nat} {ah : Option Nat} {m : Int} (h : FsOk ts tab i ah fs) (hm : m ∈ fs) (hx : ∀ a ∈ fs,a≤m) : FirstIs ts tab i ah (some m):=by
  cases ah with
  | none =>
    have e : fs = [(i : Int)]:=h
    rw [e] at hm
    exact congrArg some (List.mem_singleton.mp hm)
  | some c =>
    obtain ⟨j,hj,e⟩:=(h m).mp hm
    exact ⟨⟨j,hj,e⟩,fun j' hj'=>hx _ ((h _).mpr ⟨j',hj',rfl⟩)⟩
theorem ls_none {ts : List Int} {tab : List (List Pt)} {i : Nat} {bh : Option Nat} (h : LsOk ts tab i bh []) : LastIs ts tab i bh none:=by
  cases bh with
  | none=>exact absurd (show ([] : List Int) = [(i : Int)] from h) (by simp)
  | some c=>exact fun j hj=>absurd ((h _).mpr ⟨j,hj,rfl⟩) (by simp)
theorem ls_some {ts fs : List Int} {tab : List (List Pt)} {i : Nat} {bh : Option Nat} {m : Int} (h : LsOk ts tab i bh fs) (hm : m ∈ fs) (hx : ∀ a ∈ fs,m≤a) : LastIs ts tab i bh (some m):=by
  cases bh with
  | none =>
    have e : fs = [(i : Int)]:=h
    rw [e] at hm
    exact congrArg some (List.mem_singleton.mp hm)
  | some c =>
    obtain ⟨j,hj,e⟩:=(h m).mp hm
    exact ⟨⟨j,hj,e⟩,fun j' hj'=>hx _ ((h _).mpr ⟨j',hj',rfl⟩)⟩
theorem both_left {a : Option Int} : bothPt none a = none:=by cases a <;> rfl
theorem both_right {a : Option Int} : bothPt a none = none:=by cases a <;> rfl
theorem isT_pair {K : PySem.W.Frag} {H : Hp} {a : Addr} {x y : Int} (h : H a = some (.tup [.int x,.int y])) : IsT K H IsI (.ref a) [x,y]:=isT_ints (SqT.of (show H a = some (.tup ([x,y].map V.int)) from h))
theorem eqq_pt {K : PySem.W.Frag} {H : Hp} {n : Nat} : EqQ K H (n + 1) (PairAt H):=by
  intro x y a b ha hb
  cases a with
  | none =>
    have ea : x = .non:=ha
    subst ea
    cases b with
    | none =>
      have eb : y = .non:=hb
      subst eb
      exact EqN.flat (x:=.non) (y:=.non) rfl rfl
    | some z =>
      obtain ⟨q,rfl,hq⟩:=hb
      exact EqN.nonT (SqT.of hq)
  | some w =>
    obtain ⟨p,rfl,hp⟩:=ha
    cases b with
    | none =>
      have eb : y = .non:=hb
      subst eb
      exact EqN.tNon (SqT.of hp)
    | some z =>
      obtain ⟨q,rfl,hq⟩:=hb
      have:=eqq_tup (K:=K) (H:=H) (n:=n) eqq_int (V.ref p) (V.ref q) [w.1,w.2] [z.1,z.2] (isT_pair hp) (isT_pair hq)
      rw [show decide ([w.1,w.2] = [z.1,z.2]) = decide (some w = some z) from decide_eq_decide.mpr ⟨fun e=>by
        have h1 : w.1 = z.1:=by simpa using congrArg (fun l=>l.getD 0 0) e
        have h2 : w.2 = z.2:=by simpa using congrArg (fun l=>l.getD 1 0) e
        rw [Prod.ext h1 h2],fun e=>by rw [Option.some.inj e]⟩] at this
      exact this
theorem isL_pts {K : PySem.W.Frag} {H : Hp} {a : Addr} {ps : List Pt} (h : PtsAt H a ps) : IsL K H (PairAt H) (.ref a) ps:=by
  obtain ⟨vals,h1,h2,h3⟩:=h
  exact ⟨a,vals,rfl,SqL.of h1,h2,h3⟩
theorem isL_tbl {K : PySem.W.Frag} {H : Hp} {l : Addr} {as : List Addr} {tab : List (List Pt)} (h1 : H l = some (.lst (as.map V.ref))) (h2 : as.length = tab.length) (h3 : ∀ (i : Nat) (a : Addr) (ps : List Pt),as[i]? = some a→tab[i]? = some ps→PtsAt H a ps) : IsL K H (IsL K H (PairAt H)) (.ref l) tab:=by
  refine ⟨l,_,rfl,SqL.of h1,by rw [List.length_map]; exact h2,fun j x ps e1 e2=>?_⟩
  rw [List.getElem?_map] at e1
  cases e : as[j]? with
  | none=>rw [e] at e1; cases e1
  | some a=>rw [e] at e1; cases e1; exact isL_pts (h3 j a ps e e2)
theorem tbl_eq {K : PySem.W.Frag} {H : Hp} {l m : Addr} {as bs : List Addr} {tab tb : List (List Pt)} (h1 : H l = some (.lst (as.map V.ref))) (h2 : as.length = tab.length) (h3 : ∀ (i : Nat) (a : Addr) (ps : List Pt),as[i]? = some a→tab[i]? = some ps→PtsAt H a ps) (g1 : H m = some (.lst (bs.map V.ref))) (g2 : bs.length = tb.length) (g3 : ∀ (i : Nat) (a : Addr) (ps : List Pt),bs[i]? = some a→tb[i]? = some ps→PtsAt H a ps) : EqN K H 3 (.ref l) (.ref m) (decide (tab = tb)) :=
  eqq_lst (n:=2) (eqq_lst (n:=1) (eqq_pt (n:=0))) _ _ tab tb (isL_tbl h1 h2 h3) (isL_tbl g1 g2 g3)
theorem SqPts.same {K : PySem.W.Frag} {H H' : Hp} {a : Addr} {ps : List Pt} (h : SqPts K H a ps) (s : Same H H') : SqPts K H' a ps:=by
  obtain ⟨vals,h1,h2,h3⟩:=h
  exact ⟨vals,s.q h1,h2,fun i v p e1 e2=>(h3 i v p e1 e2).same s⟩
theorem dpI_elder {ns T : List Int} (hT : TreeIs ns T) {p q : Nat} (hp : p < ns.length) (h : nth T p = q) : dpI T (p : Int) = dpI T (q : Int) + 1:=by
  unfold dpI
  simp only [Int.toNat_natCast,wayI_way,List.length_map]
  rw [way_cons hT hp h,List.length_cons]; omega
theorem nats_nodup (n : Int) : (nats n).Nodup:=by
  unfold nats
  exact List.Pairwise.map _ (fun a b (h : a≠b)=>fun (e : (a : Int) = (b : Int))=>h (by omega)) List.nodup_range
theorem kid_first {ns T qs : List Int} (hT : TreeIs ns T) (hpm : qs.Perm (nats (T.length : Int))) (hpw : qs.Pairwise fun x y=>dpI T y≤dpI T x) {k c v : Nat} (e : qs[k]? = some (v : Int)) (hc : c < T.length) (h : nth T c = v) : (c : Int) ∈ qs.take k:=by
  have eT:=hT.1
  have hd:=dpI_elder hT (p:=c) (by omega) h
  have hm : (c : Int) ∈ qs:=hpm.mem_iff.mpr (List.mem_map.mpr ⟨c,List.mem_range.mpr (by omega),rfl⟩)
  obtain ⟨m,hm1,em⟩:=List.getElem_of_mem hm
  obtain ⟨hk,ek⟩:=List.getElem?_eq_some_iff.mp e
  by_cases hlt : m < k
  · exact List.mem_take_iff_getElem.mpr ⟨m,by omega,em⟩
  · exfalso
    by_cases he : m = k
    · subst he
      rw [em] at ek
      rw [ek] at hd; omega
    · have:=List.pairwise_iff_getElem.mp hpw k m hk hm1 (by omega)
      rw [em,ek] at this
      omega
def DoneAt (T ts : List Int) (tab : List (List Pt)) (v : Nat) : Prop:=(tab.getD v []).length = ts.length∧∀ i,i < ts.length→∃ ah bh,AheadIs T v ah∧BehindIs T v bh∧RuledIs ts tab i ah bh ((tab.getD v []).getD i none)
theorem getD_set {tab : List (List Pt)} {v c : Nat} {rs : List Pt} (h : c≠v) : (tab.set v rs).getD c [] = tab.getD c []:=by
  rw [List.getD_eq_getElem?_getD,List.getD_eq_getElem?_getD,List.getElem?_set_ne (Ne.symm h)]
theorem getD_setS {tab : List (List Pt)} {v : Nat} {rs : List Pt} (h : v < tab.length) : (tab.set v rs).getD v [] = rs:=by
  rw [List.getD_eq_getElem?_getD,List.getElem?_set_self h]; rfl
theorem ruled_set {T ts : List Int} {tab : List (List Pt)} {v w i : Nat} {rs : List Pt} {ah bh : Option Nat} {p : Pt} (hA : AheadIs T w ah) (hB : BehindIs T w bh) (hk : ∀ c,c < T.length→nth T c = w→c≠v) (h : RuledIs ts tab i ah bh p) : RuledIs ts (tab.set v rs) i ah bh p:=by
  obtain ⟨a,b,h1,h2,h3⟩:=h
  refine ⟨a,b,?_,?_,h3⟩
  · cases ah with
    | none=>exact h1
    | some c =>
      unfold FirstIs at h1 ⊢
      dsimp only at h1 ⊢
      rw [getD_set (hk c hA.2.1 hA.2.2)]; exact h1
  · cases bh with
    | none=>exact h2
    | some c =>
      unfold LastIs at h2 ⊢
      dsimp only at h2 ⊢
      rw [getD_set (hk c hB.2.1 hB.2.2)]; exact h2
theorem DoneAt.set {T ts : List Int} {tab : List (List Pt)} {v w : Nat} {rs : List Pt} (h : DoneAt T ts tab w) (hw : w≠v) (hk : ∀ c,c < T.length→nth T c = w→c≠v) : DoneAt T ts (tab.set v rs) w:=by
  unfold DoneAt
  rw [getD_set hw]
  refine ⟨h.1,fun i hi=>?_⟩
  obtain ⟨ah,bh,hA,hB,hR⟩:=h.2 i hi
  exact ⟨ah,bh,hA,hB,ruled_set hA hB hk hR⟩
theorem DoneAt.new {T ts : List Int} {tab : List (List Pt)} {v : Nat} {rs : List Pt} {ah bh : Option Nat} (hv : v < tab.length) (hl : rs.length = ts.length) (hA : AheadIs T v ah) (hB : BehindIs T v bh) (hk : ∀ c,c < T.length→nth T c = v→c≠v) (h : ∀ i,i < ts.length→RuledIs ts tab i ah bh (rs.getD i none)) : DoneAt T ts (tab.set v rs) v:=by
  unfold DoneAt
  rw [getD_setS hv]
  exact ⟨hl,fun i hi=>⟨ah,bh,hA,hB,ruled_set hA hB hk (h i hi)⟩⟩
theorem PairAt.excL {H H' : Hp} {v : V} {pr : Pt} {l : Addr} {xs : List V} (h : PairAt H v pr) (hl : H l = some (.lst xs)) (s : Exc l H H') : PairAt H' v pr:=by
  cases pr with
  | none=>exact h
  | some z =>
    obtain ⟨a,e,h⟩:=h
    exact ⟨a,e,s _ _ (fun y=>by rw [y,hl] at h; cases h) h⟩
theorem lmin (f : Nat→Int) (a : Nat) : ∀ d,∃ m,a≤m∧m≤a + d∧(∀ r,a≤r→r≤a + d→f m≤f r)∧∀ r,a≤r→r < m→f m < f r
  | 0=>⟨a,by omega,by omega,fun r h1 h2=>by rw [show r = a by omega]; exact Int.le_refl _,fun r h1 h2=>absurd h2 (by omega)⟩
  | d + 1=>by
    obtain ⟨m,h1,h2,h3,h4⟩:=lmin f a d
    by_cases c : f (a + (d + 1)) < f m
    · refine ⟨a + (d + 1),by omega,by omega,fun r r1 r2=>?_,fun r r1 r2=>?_⟩
      · by_cases e : r = a + (d + 1)
        · rw [e]; exact Int.le_refl _
        · have:=h3 r r1 (by omega); omega
      · have:=h3 r r1 (by omega); omega
    · refine ⟨m,h1,by omega,fun r r1 r2=>?_,h4⟩
      by_cases e : r = a + (d + 1)
      · rw [e]; omega
      · exact h3 r r1 (by omega)
/-- two places of one side with one elder are one -/
theorem kid_ahead {ns T : List Int} (hT : TreeIs ns T) {c1 c2 v : Nat} (h12 : c1 < c2) (h2v : c2 < v) (hv : v < ns.length) (e1 : nth T c1 = v) (e2 : nth T c2 = v) : False:=by
  obtain ⟨m,m1,m2,m3,m4⟩:=lmin (nth ns) c1 (c2 - c1)
  have E1 : ElderIs (nth ns) ns.length c1 (v : Int):=e1 ▸ hT.2 c1 (by omega)
  have E2 : ElderIs (nth ns) ns.length c2 (v : Int):=e2 ▸ hT.2 c2 (by omega)
  have hv1 : Over (nth ns) v c1:=(over_iff (by omega) hv E1).mpr (.inl rfl)
  have lt : nth ns v < nth ns m:=by
    rcases hv1 with h | h
    · omega
    · exact h.2 m (by omega) (by omega)
  have hm : Over (nth ns) m v:=by
    by_cases c : m = c1
    · have : Over (nth ns) m c2:=.inl ⟨by omega,fun r r1 r2=>m3 r (by omega) (by omega)⟩
      exact ((over_iff (by omega) (by omega) E2).mp this).resolve_left (by omega)
    · have : Over (nth ns) m c1:=.inr ⟨by omega,fun r r1 r2=>m4 r r1 r2⟩
      exact ((over_iff (by omega) (by omega) E1).mp this).resolve_left (by omega)
  rcases hm with h | h
  · have:=h.2 v (by omega) (by omega); omega
  · omega
theorem kid_behind {ns T : List Int} (hT : TreeIs ns T) {c1 c2 v : Nat} (hv1 : v < c1) (h12 : c1 < c2) (hc : c2 < ns.length) (e1 : nth T c1 = v) (e2 : nth T c2 = v) : False:=by
  obtain ⟨m,m1,m2,m3,m4⟩:=lmin (nth ns) c1 (c2 - c1)
  have E1 : ElderIs (nth ns) ns.length c1 (v : Int):=e1 ▸ hT.2 c1 (by omega)
  have E2 : ElderIs (nth ns) ns.length c2 (v : Int):=e2 ▸ hT.2 c2 (by omega)
  have hv2 : Over (nth ns) v c2:=(over_iff (by omega) (by omega) E2).mpr (.inl rfl)
  have le : nth ns v≤nth ns m:=by
    rcases hv2 with h | h
    · exact h.2 m (by omega) (by omega)
    · omega
  have hm : Over (nth ns) m v:=by
    by_cases c : m = c1
    · have : Over (nth ns) m c2:=.inl ⟨by omega,fun r r1 r2=>m3 r (by omega) (by omega)⟩
      exact ((over_iff (by omega) (by omega) E2).mp this).resolve_left (by omega)
    · have : Over (nth ns) m c1:=.inr ⟨by omega,fun r r1 r2=>m4 r r1 r2⟩
      exact ((over_iff (by omega) (by omega) E1).mp this).resolve_left (by omega)
  rcases hm with h | h
  · omega
  · have:=h.2 v (by omega) (by omega); omega
theorem ahead_uniq {T : List Int} (hG : GoodT T) {v : Nat} {o1 o2 : Option Nat} (hv : v < T.length) (h1 : AheadIs T v o1) (h2 : AheadIs T v o2) : o1 = o2:=by
  obtain ⟨_,ns,hT⟩:=hG
  have eT:=hT.1
  cases o1 with
  | none =>
    cases o2 with
    | none=>rfl
    | some c=>exact absurd h2.2.2 (h1 c h2.1 h2.2.1)
  | some c =>
    cases o2 with
    | none=>exact absurd h1.2.2 (h2 c h1.1 h1.2.1)
    | some d =>
      by_cases z : c = d
      · rw [z]
      · exfalso
        rcases Nat.lt_or_gt_of_ne z with z | z
        · exact kid_ahead hT z h2.1 (by omega) h1.2.2 h2.2.2
        · exact kid_ahead hT z h1.1 (by omega) h2.2.2 h1.2.2
theorem behind_uniq {T : List Int} (hG : GoodT T) {v : Nat} {o1 o2 : Option Nat} (h1 : BehindIs T v o1) (h2 : BehindIs T v o2) : o1 = o2:=by
  obtain ⟨_,ns,hT⟩:=hG
  have eT:=hT.1
  cases o1 with
  | none =>
    cases o2 with
    | none=>rfl
    | some c=>exact absurd h2.2.2 (h1 c h2.1 h2.2.1)
  | some c =>
    cases o2 with
    | none=>exact absurd h1.2.2 (h2 c h1.1 h1.2.1)
    | some d =>
      by_cases z : c = d
      · rw [z]
      · exfalso
        rcases Nat.lt_or_gt_of_ne z with z | z
        · exact kid_behind hT h1.1 z (by have:=h2.2.1; omega) h1.2.2 h2.2.2
        · exact kid_behind hT h2.1 z (by have:=h1.2.1; omega) h2.2.2 h1.2.2
theorem first_uniq {ts : List Int} {t1 t2 : List (List Pt)} {i : Nat} {ah : Option Nat} {r1 r2 : Option Int} (he : ∀ c,ah = some c→t1.getD c [] = t2.getD c []) (h1 : FirstIs ts t1 i ah r1) (h2 : FirstIs ts t2 i ah r2) : r1 = r2:=by
  cases ah with
  | none=>exact (show r1 = _ from h1).trans (show r2 = _ from h2).symm
  | some c =>
    unfold FirstIs at h1 h2
    dsimp only at h1 h2
    rw [he c rfl] at h1
    cases r1 with
    | none =>
      cases r2 with
      | none=>rfl
      | some b=>obtain ⟨⟨j,hj,_⟩,_⟩:=h2; exact absurd hj (h1 j)
    | some a =>
      cases r2 with
      | none=>obtain ⟨⟨j,hj,_⟩,_⟩:=h1; exact absurd hj (h2 j)
      | some b =>
        obtain ⟨⟨j,hj,ej⟩,hj'⟩:=h1
        obtain ⟨⟨k,hk,ek⟩,hk'⟩:=h2
        have x1:=hj' k hk
        have x2:=hk' j hj
        rw [show a = b by omega]
theorem last_uniq {ts : List Int} {t1 t2 : List (List Pt)} {i : Nat} {ah : Option Nat} {r1 r2 : Option Int} (he : ∀ c,ah = some c→t1.getD c [] = t2.getD c []) (h1 : LastIs ts t1 i ah r1) (h2 : LastIs ts t2 i ah r2) : r1 = r2:=by
  cases ah with
  | none=>exact (show r1 = _ from h1).trans (show r2 = _ from h2).symm
  | some c =>
    unfold LastIs at h1 h2
    dsimp only at h1 h2
    rw [he c rfl] at h1
    cases r1 with
    | none =>
      cases r2 with
      | none=>rfl
      | some b=>obtain ⟨⟨j,hj,_⟩,_⟩:=h2; exact absurd hj (h1 j)
    | some a =>
      cases r2 with
      | none=>obtain ⟨⟨j,hj,_⟩,_⟩:=h1; exact absurd hj (h2 j)
      | some b =>
        obtain ⟨⟨j,hj,ej⟩,hj'⟩:=h1
        obtain ⟨⟨k,hk,ek⟩,hk'⟩:=h2
        have x1:=hj' k hk
        have x2:=hk' j hj
        rw [show a = b by omega]
/-- the table of a tree and a text is one -/
theorem tab_uniq {T ts : List Int} {t1 t2 : List (List Pt)} (hG : GoodT T) (h1 : TabIs T ts t1) (h2 : TabIs T ts t2) : t1 = t2:=by
  obtain ⟨h40,ns,hT⟩:=id hG
  have eT:=hT.1
  have row : ∀ n v : Nat,v < T.length→T.length < dpI T (v : Int) + n→t1.getD v [] = t2.getD v []:=fun n=>by
    induction n with
    | zero =>
      intro v hv hn
      exfalso
      have:=wayF_len T T.length (nth T v)
      unfold dpI at hn
      rw [Int.toNat_natCast,wayI_way,List.length_map] at hn
      unfold way at hn
      omega
    | succ n ih =>
      intro v hv hn
      have kid : ∀ c,c < T.length→nth T c = v→t1.getD c [] = t2.getD c []:=fun c hc e=>by
        have:=dpI_elder hT (p:=c) (by omega) e
        exact ih c hc (by omega)
      obtain ⟨l1,q1⟩:=h1.2 v hv
      obtain ⟨l2,q2⟩:=h2.2 v hv
      refine List.ext_getElem (by omega) fun i i1 i2=>?_
      obtain ⟨a1,b1,A1,B1,f1,g1,F1,G1,e1⟩:=q1 i (by omega)
      obtain ⟨a2,b2,A2,B2,f2,g2,F2,G2,e2⟩:=q2 i (by omega)
      have ea:=ahead_uniq hG hv A1 A2
      have eb:=behind_uniq hG B1 B2
      subst ea eb
      have ef:=first_uniq (fun c z=>by subst z; exact kid c A1.2.1 A1.2.2) F1 F2
      have eg:=last_uniq (fun c z=>by subst z; exact kid c B1.2.1 B1.2.2) G1 G2
      subst ef eg
      have:=e1.trans e2.symm
      rw [List.getD_eq_getElem?_getD,List.getD_eq_getElem?_getD (l:=t2.getD v []),List.getElem?_eq_getElem i1,List.getElem?_eq_getElem i2] at this
      exact this
  refine List.ext_getElem (by rw [h1.1,h2.1]) fun v v1 v2=>?_
  have hv : v < T.length:=by rw [← h1.1]; exact v1
  have:=row (T.length + 1) v hv (by unfold dpI; omega)
  rw [List.getD_eq_getElem?_getD,List.getD_eq_getElem?_getD,List.getElem?_eq_getElem v1,List.getElem?_eq_getElem v2] at this
  exact this
theorem ok_best_ahead {f : Addr} {fd : FuncData} (F : Fun K "best_ahead" "best_ahead" s_best_ahead f fd)  (L : LamD K mg "best_ahead" f) (B : BM mg base) (T : Txt K mg) : FnOk P w K mg base (CXE P w) 1 f fd ["text","pairs","i"] (sp_best_ahead K mg):=by
  refine F.okL L B sc_best_ahead (fun vs H Q E h=>?_) (fun cdv A outer s H vs Q E LI hr h=>?_)
  · obtain ⟨x,q,ts,ps,i,rfl,_⟩:=h; rfl
  obtain ⟨x,q,ts,ps,i,rfl,hx,hq,hl,h16,hi,hTb,k1⟩:=h
  refine ⟨_,(pss_cons (ps_setCN (i:=3) ["j","i","pairs","text"] [none,some 2,some 1,some 0] sc_best_ahead.nd rfl (Or.inl rfl) rfl rfl rfl (pi_range1 rfl T.b_range (pa_cons (pv 2) pa_nil)) (fun _ _ _ _ _=>(pg_name (i:=0) (show (["j","i","pairs","text"] : List Str).Nodup from by decide +kernel) rfl (Or.inl rfl))) (fun _ _ _ _ _=>pifs_one (PW.pt (pw_and (pt_cmpR op_notN (pe_ix (r:=rIxL K) ix_list (pv 2) (pv 0) (fun _ _=>rfl)) pe_non (nomark _)) (pw_and (pt_cmpR op_gt (pe_ix (ix_q (K:=K) rfl) (pv 3) (pv 0) (fun _ _=>rfl)) (pe_ix (ix_q (K:=K) rfl) (pv 3) (pv 1) (fun _ _=>rfl)) (nomark _)) (pw_and1 (pt_cmpR op_lt (pe_ix (r:=rIxT K) ix_tup (pe_ix (r:=rIxL K) ix_list (pv 2) (pv 0) (fun _ _=>rfl)) pe_int (fun _ _=>rfl)) (pv 1) (nomark _))))))) (fun _ _ _ _ _=>(pv 0)) only_name)
      (pss_one (ps_ret (pe_maxKD (Nc:=["j","pairs"]) (js:=[none,some 1]) (pn:="j") (q:=lamQ "best_ahead") (P:=tabP K mg "best_ahead") rfl hr ⟨rfl,rfl,rfl,rfl,rfl,rfl,rfl,fun _ _ _ _ _ _=>rfl⟩ (fun _ _ _ _ _ _=>(pe_ix (r:=rIxT K) ix_tup (pe_ix (r:=rIxL K) ix_list (pv 1) (pv 0) (fun _ _=>rfl)) pe_int (fun _ _=>rfl))) rfl T.b_max (pa_cons (pv 3) pa_nil) (pk_cons (pe_lam ⟨LI.code,LI.bm,LI.ql⟩ rfl) (pk_cons pe_non pk_nil)))))),?_⟩
  walk_at "rd"
  obtain ⟨vals,hqv,hvl,hvp⟩:=hq
  refine ⟨by omega,by omega,?_⟩
  rw [show ((i : Nat) : Int).toNat = i by omega]
  refine comp_filt (n:=i) (fun j=>decide (fitsA ts ps i j)) (fun j=>V.int (j : Int)) (Nat.lt_of_le_of_lt (show _≤1000 by omega) (by decide)) (fun j Hz s hj=>hj) (fun Hz s=>Nat.le_refl _) ?_ ?_
  · rintro j y Hz Hw hj sz ⟨rfl,rfl⟩
    rw [show (0 : Int) + (j : Int) = ((j : Nat) : Int) by omega]
    walk_at "rd"
    obtain ⟨v,ev,hv⟩:=pt_get hvl hvp (show j < ps.length by omega)
    have hv:=hv.same sz
    refine ⟨_,SqL.of (sz _ _ hqv),_,ev,ite2 (fun c=>?_) fun c=>?_⟩
    · have hs : (ps.getD j none).isSome = true:=by
        cases e : (ps.getD j none).isSome with
        | true=>rfl
        | false=>exact absurd ((pt_non hv).mpr e) c
      obtain ⟨a,rfl,ha⟩:=pt_some hv hs
      refine ⟨_,sz.q hx,_,nth_at (by omega),_,sz.q hx,_,nth_at (by omega),_,rfl,_,rfl,ite2 (fun c2=>?_) fun c2=>CF.skip hj (decide_eq_false fun z=>c2 z.2.2.1) sz⟩
      refine ⟨_,SqL.of (sz _ _ hqv),_,ev,a,rfl,_,SqT.of ha,_,rfl,_,rfl,?_⟩
      exact ite2 (fun c3=>CF.take hj (decide_eq_true ⟨hj,hs,c2,c3⟩) rfl sz) fun c3=>CF.skip hj (decide_eq_false fun z=>c3 z.2.2.2) sz
    · refine CF.skip hj (decide_eq_false fun z=>?_) sz
      have z1:=z.2.1
      rw [(pt_non hv).mp (Decidable.of_not_not c)] at z1
      cases z1
  · intro lf Hz sz hlf
    have eN : (((List.range i).filter fun j=>decide (fitsA ts ps i j)).map fun (j : Nat)=>V.int (j : Int)) = (((List.range i).filter fun j=>decide (fitsA ts ps i j)).map fun (j : Nat)=>(j : Int)).map V.int:=by rw [List.map_map]; rfl
    rw [eN]
    have hmem : ∀ y,y ∈ (((List.range i).filter fun j=>decide (fitsA ts ps i j)).map fun (j : Nat)=>(j : Int))↔∃ j : Nat,y = j∧fitsA ts ps i j:=fun y=>by
      rw [List.mem_map]
      constructor
      · rintro ⟨j,hj,rfl⟩
        exact ⟨j,rfl,of_decide_eq_true (List.mem_filter.mp hj).2⟩
      · rintro ⟨j,rfl,hj⟩
        exact ⟨j,List.mem_filter.mpr ⟨List.mem_range.mpr hj.1,decide_eq_true hj⟩,rfl⟩
    generalize (((List.range i).filter fun j=>decide (fitsA ts ps i j)).map fun (j : Nat)=>(j : Int)) = ns at hmem ⊢
    have g1:=sz.upd' (o:=.lst (ns.map V.int)) hlf
    have h1:=upd_same (H:=Hz) (a:=lf) (o:=.lst (ns.map V.int))
    generalize upd Hz lf (.lst (ns.map V.int)) = H1 at g1 h1 ⊢
    refine ⟨TabH.same hTb g1,fun f1 H5 zf s5 LO=>⟨lf,rfl,ns,s5 _ _ h1,LO,fun n=>(ptAt ps n.toNat).1,fun n H6 hn s6=>?_,fun hns H6 s6=>?_,fun a H6 ha hB s6=>?_⟩⟩
    · obtain ⟨j,rfl,hj⟩:=(hmem n).mp hn
      obtain ⟨v,ev,hv⟩:=pt_get hvl hvp (show j < ps.length by have:=hj.1; omega)
      have sA:=g1.trans (s5.trans s6)
      obtain ⟨a,rfl,ha⟩:=pt_some (hv.same sA) hj.2.1
      exact ⟨_,SqL.of (sA _ _ hqv),_,ev,a,rfl,_,SqT.of ha,_,rfl,by simp,Same.refl _⟩
    · exact k1 none H6 (g1.trans (s5.trans s6)) fun j hj=>by
        have:=(hmem (j : Int)).mpr ⟨j,rfl,hj⟩
        rw [hns] at this; cases this
    · obtain ⟨j,e,hj⟩:=best_of (ps:=ps) hmem ha
      rw [e]
      refine k1 (some j) H6 (g1.trans (s5.trans s6)) ⟨hj,fun j' hj'=>?_⟩
      obtain ⟨b,hb,eb⟩:=List.getElem_of_mem ((hmem (j' : Int)).mpr ⟨j',rfl,hj'⟩)
      have:=(hB b hb).1
      rw [e,show nth ns b = (j' : Int) by unfold nth; rw [List.getD_eq_getElem?_getD,List.getElem?_eq_getElem hb,eb]; rfl] at this
      simpa using this
theorem ok_best_behind {f : Addr} {fd : FuncData} (F : Fun K "best_behind" "best_behind" s_best_behind f fd)  (L : LamD K mg "best_behind" f) (B : BM mg base) (T : Txt K mg) : FnOk P w K mg base (CXE P w) 1 f fd ["text","pairs","i"] (sp_best_behind K mg):=by
  refine F.okL L B sc_best_behind (fun vs H Q E h=>?_) (fun cdv A outer s H vs Q E LI hr h=>?_)
  · obtain ⟨x,q,ts,ps,i,rfl,_⟩:=h; rfl
  obtain ⟨x,q,ts,ps,i,rfl,hx,hq,hl,h16,hi,hTb,k1⟩:=h
  refine ⟨_,(pss_cons (ps_setCN (i:=3) ["j","i","pairs","text"] [none,some 2,some 1,some 0] sc_best_behind.nd rfl (Or.inl rfl) rfl rfl rfl (pi_range2 rfl T.b_range (pa_cons (pe_op op_add (pv 2) pe_int) (pa_cons (pe_callB (call_lenK (K:=K) rfl) rfl T.b_len PySem.boot_len (pa_cons (pv 0) pa_nil)) pa_nil))) (fun _ _ _ _ _=>(pg_name (i:=0) (show (["j","i","pairs","text"] : List Str).Nodup from by decide +kernel) rfl (Or.inl rfl))) (fun _ _ _ _ _=>pifs_one (PW.pt (pw_and (pt_cmpR op_notN (pe_ix (r:=rIxL K) ix_list (pv 2) (pv 0) (fun _ _=>rfl)) pe_non (nomark _)) (pw_and (pt_cmpR op_ge (pe_ix (ix_q (K:=K) rfl) (pv 3) (pv 0) (fun _ _=>rfl)) (pe_ix (ix_q (K:=K) rfl) (pv 3) (pv 1) (fun _ _=>rfl)) (nomark _)) (pw_and1 (pt_cmpR op_gt (pe_ix (r:=rIxT K) ix_tup (pe_ix (r:=rIxL K) ix_list (pv 2) (pv 0) (fun _ _=>rfl)) pe_int (fun _ _=>rfl)) (pv 1) (nomark _))))))) (fun _ _ _ _ _=>(pv 0)) only_name)
      (pss_one (ps_ret (pe_minKD (Nc:=["j","pairs"]) (js:=[none,some 1]) (pn:="j") (q:=lamQ "best_behind") (P:=tabP K mg "best_behind") rfl hr ⟨rfl,rfl,rfl,rfl,rfl,rfl,rfl,fun _ _ _ _ _ _=>rfl⟩ (fun _ _ _ _ _ _=>(pe_ix (r:=rIxT K) ix_tup (pe_ix (r:=rIxL K) ix_list (pv 1) (pv 0) (fun _ _=>rfl)) pe_int (fun _ _=>rfl))) rfl T.b_min (pa_cons (pv 3) pa_nil) (pk_cons (pe_lam ⟨LI.code,LI.bm,LI.ql⟩ rfl) (pk_cons pe_non pk_nil)))))),?_⟩
  walk_at "rd"
  obtain ⟨vals,hqv,hvl,hvp⟩:=hq
  have eX : (ts.map V.int).length = ts.length:=List.length_map ..
  refine ⟨_,hx,by omega,by omega,by omega,by omega,?_⟩
  rw [eX,show (((ts.length : Nat) : Int) - ((i : Int) + 1)).toNat = ts.length - (i + 1) by omega]
  refine comp_filt (n:=ts.length - (i + 1)) (fun k=>decide (fitsB ts ps i (i + 1 + k))) (fun k=>V.int ((i + 1 + k : Nat) : Int)) (Nat.lt_of_le_of_lt (show _≤1000 by omega) (by decide)) (fun j Hz s hj=>hj) (fun Hz s=>Nat.le_refl _) ?_ ?_
  · rintro k y Hz Hw hk sz ⟨rfl,rfl⟩
    rw [show (i : Int) + 1 + (k : Int) = ((i + 1 + k : Nat) : Int) by omega]
    have hj1 : i < i + 1 + k:=by omega
    have hj2 : i + 1 + k < ts.length:=by omega
    generalize hjg : i + 1 + k = j at hj1 hj2 ⊢
    walk_at "rd"
    obtain ⟨v,ev,hv⟩:=pt_get hvl hvp (show j < ps.length by omega)
    have hv:=hv.same sz
    refine ⟨_,SqL.of (sz _ _ hqv),_,ev,ite2 (fun c=>?_) fun c=>?_⟩
    · have hs : (ps.getD j none).isSome = true:=by
        cases e : (ps.getD j none).isSome with
        | true=>rfl
        | false=>exact absurd ((pt_non hv).mpr e) c
      obtain ⟨a,rfl,ha⟩:=pt_some hv hs
      refine ⟨_,sz.q hx,_,nth_at (by omega),_,sz.q hx,_,nth_at (by omega),_,rfl,_,rfl,ite2 (fun c2=>?_) fun c2=>CF.skip hk (decide_eq_false fun z=>c2 (hjg ▸ z).2.2.2.1) sz⟩
      refine ⟨_,SqL.of (sz _ _ hqv),_,ev,a,rfl,_,SqT.of ha,_,rfl,_,rfl,?_⟩
      exact ite2 (fun c3=>CF.take hk (decide_eq_true (by rw [hjg]; exact ⟨hj1,hj2,hs,c2,c3⟩)) (by rw [hjg]) sz) fun c3=>CF.skip hk (decide_eq_false fun z=>c3 (hjg ▸ z).2.2.2.2) sz
    · refine CF.skip hk (decide_eq_false fun z=>?_) sz
      rw [hjg] at z
      have z1:=z.2.2.1
      rw [(pt_non hv).mp (Decidable.of_not_not c)] at z1
      cases z1
  · intro lf Hz sz hlf
    have eN : (((List.range (ts.length - (i + 1))).filter fun k=>decide (fitsB ts ps i (i + 1 + k))).map fun (k : Nat)=>V.int ((i + 1 + k : Nat) : Int)) = (((List.range (ts.length - (i + 1))).filter fun k=>decide (fitsB ts ps i (i + 1 + k))).map fun (k : Nat)=>((i + 1 + k : Nat) : Int)).map V.int:=by rw [List.map_map]; rfl
    rw [eN]
    have hmem : ∀ y,y ∈ (((List.range (ts.length - (i + 1))).filter fun k=>decide (fitsB ts ps i (i + 1 + k))).map fun (k : Nat)=>((i + 1 + k : Nat) : Int))↔∃ j : Nat,y = j∧fitsB ts ps i j:=fun y=>by
      rw [List.mem_map]
      constructor
      · rintro ⟨k,hk,rfl⟩
        exact ⟨i + 1 + k,rfl,of_decide_eq_true (List.mem_filter.mp hk).2⟩
      · rintro ⟨j,rfl,hj⟩
        have h1:=hj.1
        have h2:=hj.2.1
        refine ⟨j - (i + 1),List.mem_filter.mpr ⟨List.mem_range.mpr (by omega),decide_eq_true ?_⟩,by omega⟩
        rw [show i + 1 + (j - (i + 1)) = j by omega]; exact hj
    generalize (((List.range (ts.length - (i + 1))).filter fun k=>decide (fitsB ts ps i (i + 1 + k))).map fun (k : Nat)=>((i + 1 + k : Nat) : Int)) = ns at hmem ⊢
    have g1:=sz.upd' (o:=.lst (ns.map V.int)) hlf
    have h1:=upd_same (H:=Hz) (a:=lf) (o:=.lst (ns.map V.int))
    generalize upd Hz lf (.lst (ns.map V.int)) = H1 at g1 h1 ⊢
    refine ⟨TabH.same hTb g1,fun f1 H5 zf s5 LO=>⟨lf,rfl,ns,s5 _ _ h1,LO,fun n=>(ptAt ps n.toNat).2,fun n H6 hn s6=>?_,fun hns H6 s6=>?_,fun a H6 ha hB s6=>?_⟩⟩
    · obtain ⟨j,rfl,hj⟩:=(hmem n).mp hn
      obtain ⟨v,ev,hv⟩:=pt_get hvl hvp (show j < ps.length by have:=hj.2.1; omega)
      have sA:=g1.trans (s5.trans s6)
      obtain ⟨a,rfl,ha⟩:=pt_some (hv.same sA) hj.2.2.1
      exact ⟨_,SqL.of (sA _ _ hqv),_,ev,a,rfl,_,SqT.of ha,_,rfl,by simp,Same.refl _⟩
    · exact k1 none H6 (g1.trans (s5.trans s6)) fun j hj=>by
        have:=(hmem (j : Int)).mpr ⟨j,rfl,hj⟩
        rw [hns] at this; cases this
    · obtain ⟨j,e,hj⟩:=best_of (ps:=ps) hmem ha
      rw [e]
      refine k1 (some j) H6 (g1.trans (s5.trans s6)) ⟨hj,fun j' hj'=>?_⟩
      obtain ⟨b,hb,eb⟩:=List.getElem_of_mem ((hmem (j' : Int)).mpr ⟨j',rfl,hj'⟩)
      have:=(hB b hb).1
      rw [e,show nth ns b = (j' : Int) by unfold nth; rw [List.getD_eq_getElem?_getD,List.getElem?_eq_getElem hb,eb]; rfl] at this
      simpa using this
theorem ok_pair_at {f : Addr} {fd : FuncData} (F : Fun K "pair_at" "pair_at" s_pair_at f fd) (G_best_ahead : Callee P w K mg base "best_ahead" 1 ["text","pairs","i"] (sp_best_ahead K mg)) (G_best_behind : Callee P w K mg base "best_behind" 1 ["text","pairs","i"] (sp_best_behind K mg)) (T : Txt K mg) : FnOk P w K mg base (CXE P w) 2 f fd ["text","table","young","i"] (sp_pair_at K mg):=by
  refine F.okX sc_pair_at (fun vs H Q E h=>?_) (fun cdv A outer s H vs Q E hr h=>?_)
  · obtain ⟨x,l,y,ts,tab,ah,bh,i,rfl,_⟩:=h; rfl
  obtain ⟨x,l,y,ts,tab,ah,bh,i,rfl,hx,hl,hy,ka,kb,h16,hi,hT1,hT2,k1⟩:=h
  refine ⟨_,(pss_cons (ps_asg (pv 2) (pg_lst (K:=K) rfl (n:=2) rfl (pgs_cons (pg_name (i:=4) sc_pair_at.nd rfl (Or.inl rfl)) (pgs_cons (pg_name (i:=5) sc_pair_at.nd rfl (Or.inl rfl)) pgs_nil))))
      (pss_cons (ps_asg2 (pv 3) (pg_name (i:=6) sc_pair_at.nd rfl (Or.inl rfl)) (pg_name (i:=7) sc_pair_at.nd rfl (Or.inl rfl)))
      (pss_cons (ps_if (pt_cmpR op_notN (pv 4) pe_non (nomark _)) (pss_cons (ps_set (i:=8) sc_pair_at.nd rfl (Or.inl rfl) (pe_callF G_best_ahead (hr.mono (by decide)) rfl passE (pa_cons (pv 0) (pa_cons (pe_ix ix_list (pv 1) (pv 4) (fun _ _=>rfl)) (pa_cons (pv 3) pa_nil)))))
      (pss_cons (ps_if (pt_cmpR op_isN (pv 8) pe_non (nomark _)) (pss_one (ps_ret pe_non)) pss_nil)
      (pss_one (ps_set (i:=6) sc_pair_at.nd rfl (Or.inl rfl) (pe_ix ix_tup (pe_ix ix_list (pe_ix ix_list (pv 1) (pv 4) (fun _ _=>rfl)) (pv 8) (fun _ _=>rfl)) pe_int (fun _ _=>rfl)))))) pss_nil)
      (pss_cons (ps_if (pt_cmpR op_notN (pv 5) pe_non (nomark _)) (pss_cons (ps_set (i:=8) sc_pair_at.nd rfl (Or.inl rfl) (pe_callF G_best_behind (hr.mono (by decide)) rfl passE (pa_cons (pv 0) (pa_cons (pe_ix ix_list (pv 1) (pv 5) (fun _ _=>rfl)) (pa_cons (pv 3) pa_nil)))))
      (pss_cons (ps_if (pt_cmpR op_isN (pv 8) pe_non (nomark _)) (pss_one (ps_ret pe_non)) pss_nil)
      (pss_one (ps_set (i:=7) sc_pair_at.nd rfl (Or.inl rfl) (pe_ix ix_tup (pe_ix ix_list (pe_ix ix_list (pv 1) (pv 5) (fun _ _=>rfl)) (pv 8) (fun _ _=>rfl)) pe_int (fun _ _=>rfl)))))) pss_nil)
      (pss_one (ps_ret (pe_tup (pa_cons (pv 6) (pa_cons (pv 7) pa_nil))))))))),?_⟩
  obtain ⟨as,hla,_,hal,hap⟩:=hl
  refine seqR (fun σ Hx=>σ = [some (.ref x),some (.ref l),some (.ref y),some (.int (i : Int)),some (optN ah),some (optN bh),none,none,none]∧Hx = H) (fun R hR=>?_) ?_
  · walk_at "rd"
    exact ⟨_,SqL.of hy,rfl,_,_,rfl,_,_,rfl,rfl,hR _ _ ⟨rfl,rfl⟩⟩
  rintro σ Hx ⟨rfl,rfl⟩
  refine seqR (fun σ Hy=>σ = [some (.ref x),some (.ref l),some (.ref y),some (.int (i : Int)),some (optN ah),some (optN bh),some (.int (i : Int)),some (.int (i : Int)),none]∧Hy = Hx) (fun R hR=>?_) ?_
  · walk_at "rd"
    exact hR _ _ ⟨rfl,rfl⟩
  rintro σ Hz ⟨rfl,rfl⟩
  refine seqR (fun σ Hy=>∃ (a : Int) (v8 : Option V),σ = [some (.ref x),some (.ref l),some (.ref y),some (.int (i : Int)),some (optN ah),some (optN bh),some (.int a),some (.int (i : Int)),v8]∧FirstIs ts tab i ah (some a)∧Same Hz Hy) (fun R hR=>?_) ?_
  · walk_at "rd"
    cases ah with
    | none=>exact ite2 (fun z=>absurd rfl z) fun _=>hR _ _ ⟨_,none,rfl,rfl,Same.refl Hz⟩
    | some c =>
      obtain ⟨a,ea,ha⟩:=tbl_get hal hap ka.1
      refine ite2 (fun _=>⟨_,_,rfl,SqL.of hla,_,ea,x,a,ts,tab.getD c [],i,rfl,hx,ha,ka.2,h16,hi,hT1,fun r H1 s1 hB=>?_⟩) fun z=>absurd z (by simp [optN])
      cases r with
      | none =>
        refine ite2 (fun _=>?_) fun z=>absurd rfl z
        obtain ⟨b,hb⟩:=last_ex ts tab i bh
        exact k1 .non none H1 s1 ⟨none,b,hB,hb,by cases b <;> rfl⟩ rfl
      | some j =>
        refine ite2 (fun z=>by cases z) fun _=>?_
        have ha1:=ha.same s1
        obtain ⟨vals,hqv,hvl,hvp⟩:=ha1
        obtain ⟨v,ev,hv⟩:=pt_get hvl hvp (show j < (tab.getD c []).length by have:=hB.1.1; have:=ka.2; omega)
        obtain ⟨u,rfl,hu⟩:=pt_some hv hB.1.2.1
        exact ⟨_,_,rfl,SqL.of (s1 _ _ hla),_,ea,a,rfl,_,_,rfl,SqL.of hqv,_,ev,u,rfl,_,SqT.of hu,_,rfl,hR _ _ ⟨_,_,rfl,⟨⟨j,hB.1,rfl⟩,hB.2⟩,s1⟩⟩
  rintro σ H1 ⟨a,v8,rfl,hFa,s1⟩
  refine seqR (fun σ Hy=>∃ (b : Int) (v8 : Option V),σ = [some (.ref x),some (.ref l),some (.ref y),some (.int (i : Int)),some (optN ah),some (optN bh),some (.int a),some (.int b),v8]∧LastIs ts tab i bh (some b)∧Same Hz Hy) (fun R hR=>?_) ?_
  · walk_at "rd"
    cases bh with
    | none=>exact ite2 (fun z=>absurd rfl z) fun _=>hR _ _ ⟨_,v8,rfl,rfl,s1⟩
    | some c =>
      obtain ⟨d,ea,ha⟩:=tbl_get hal hap kb.1
      refine ite2 (fun _=>⟨_,_,rfl,SqL.of (s1 _ _ hla),_,ea,x,d,ts,tab.getD c [],i,rfl,s1.q hx,ha.same s1,kb.2,h16,hi,TabH.same hT2 s1,fun r H2 s2 hB=>?_⟩) fun z=>absurd z (by simp [optN])
      cases r with
      | none =>
        refine ite2 (fun _=>?_) fun z=>absurd rfl z
        exact k1 .non none H2 (s1.trans s2) ⟨some a,none,hFa,hB,rfl⟩ rfl
      | some j =>
        refine ite2 (fun z=>by cases z) fun _=>?_
        have ha1:=(ha.same s1).same s2
        obtain ⟨vals,hqv,hvl,hvp⟩:=ha1
        obtain ⟨v,ev,hv⟩:=pt_get hvl hvp (show j < (tab.getD c []).length by have:=hB.1.2.1; have:=kb.2; omega)
        obtain ⟨u,rfl,hu⟩:=pt_some hv hB.1.2.2.1
        exact ⟨_,_,rfl,SqL.of ((s1.trans s2) _ _ hla),_,ea,d,rfl,_,_,rfl,SqL.of hqv,_,ev,u,rfl,_,SqT.of hu,_,rfl,hR _ _ ⟨_,_,rfl,⟨⟨j,hB.1,rfl⟩,hB.2⟩,s1.trans s2⟩⟩
  rintro σ H2 ⟨b,v8',rfl,hLb,s2⟩
  walk_at "rd"
  exact ⟨by decide,fun q zq=>k1 (.ref q) (some (a,b)) _ (s2.upd' zq) ⟨some a,some b,hFa,hLb,rfl⟩ ⟨q,rfl,upd_same⟩⟩
theorem ok_young_of {f : Addr} {fd : FuncData} (F : Fun K "young_of" "young_of" s_young_of f fd)  (T : Txt K mg) : FnOk P w K mg base (CXE P w) 1 f fd ["tree"] (sp_young_of K mg):=by
  refine F.okX sc_young_of (fun vs H Q E h=>?_) (fun cdv A outer s H vs Q E hr h=>?_)
  · obtain ⟨t,T,rfl,_⟩:=h; rfl
  obtain ⟨t,T',rfl,ht,hG,k1⟩:=h
  refine ⟨_,(pss_cons (ps_setCN (i:=1) ["place"] [none] sc_young_of.nd rfl (Or.inl rfl) rfl rfl rfl (pi_tup (pv 0)) (fun _ _ _ _ _=>(pg_name (i:=0) (show (["place"] : List Str).Nodup from by decide +kernel) rfl (Or.inl rfl))) (fun _ _ _ _ _=>pifs_nil) (fun _ _ _ _ _=>(pe_lst (pa_cons pe_non (pa_cons pe_non pa_nil)))) only_name)
      (pss_cons (ps_nox (ps_for PassesOwn.never rfl (pi_enumT (K:=K) rfl rfl T.b_enumerate (pa_cons (pv 0) pa_nil)) (pg_tup (n:=2) rfl (pgs_cons (pg_name (i:=2) sc_young_of.nd rfl (Or.inl rfl)) (pgs_cons (pg_name (i:=3) sc_young_of.nd rfl (Or.inl rfl)) pgs_nil))) (pss_one (ps_if (pt_cmpR op_ge (pv 3) pe_int (nomark _)) (pss_one (ps_asg (pv 2) (pg_sub (pe_ix ix_list (pv 1) (pv 3) (fun _ _=>rfl)) (pe_ifExp (pt_cmpR op_gt (pv 2) (pv 3) (nomark _)) pe_int pe_int) set_list (fun _=>rfl)))) pss_nil))))
      (pss_one (ps_ret (pv 1))))),?_⟩
  have h40:=hG.1
  obtain ⟨_,nsT,hT⟩:=id hG
  have eT:=hT.1
  have eL : (T'.map V.int).length = T'.length:=List.length_map ..
  walk_at "rd"
  refine ⟨⟨_,SqT.of ht⟩,comp_inv (n:=T'.length) (fun j acc Hz=>∃ as : List Addr,acc = as.map V.ref∧as.length = j∧as.Nodup∧(∀ a ∈ as,Hz a = some (.lst [.non,.non])∧H a = none)∧Same H Hz) (Nat.lt_of_le_of_lt (show _≤1000 by omega) (by decide)) ⟨[],rfl,rfl,List.nodup_nil,(fun a ha=>absurd ha (by simp)),Same.refl H⟩ (fun j acc Hz ⟨_,_,_,_,_,e⟩ hj=>⟨_,_,SqT.of (e _ _ ht),nthV hj⟩) (fun acc Hz ⟨_,_,_,_,_,e⟩=>⟨_,SqT.of (e _ _ ht),Nat.le_of_eq eL⟩) ?_ ?_⟩
  · rintro j x acc Hz Hw hj hla ⟨as,rfl,hal,hnd,has,sz⟩ ⟨rfl,hx⟩
    walk_at "rd"
    refine ⟨by decide,fun p zp=>CA.take hj hla ⟨as ++ [p],by simp,by simp [hal],?_,fun a ha=>?_,sz.upd' zp⟩⟩
    · rw [List.nodup_append]
      refine ⟨hnd,by simp,fun a ha b hb=>?_⟩
      have : b = p:=by simpa using hb
      subst this
      exact fun z=>by rw [z] at ha; rw [(has _ ha).1] at zp; cases zp
    · rcases List.mem_append.mp ha with z | z
      · exact ⟨((Same.refl _).upd zp) _ _ (has a z).1,(has a z).2⟩
      · have : a = p:=by simpa using z
        subst this
        exact ⟨upd_same,sz.free zp⟩
  rintro y acc Hz ⟨as,rfl,hal,hnd,has,sz⟩ _ zy
  have gy:=(Same.refl Hz).upd (o:=.lst (as.map V.ref)) zy
  have hyy:=upd_same (H:=Hz) (a:=y) (o:=.lst (as.map V.ref))
  have s1:=sz.trans gy
  have zy0:=sz.free zy
  have ny : y ∉ as:=fun z=>by rw [(has _ z).1] at zy; cases zy
  have Y0 : YTo (upd Hz y (.lst (as.map V.ref))) as T' 0:=fun v a e=>⟨none,none,(fun c _ h=>absurd h (by omega)),(fun c _ h=>absurd h (by omega)),gy _ _ (has a (List.mem_of_getElem? e)).1⟩
  generalize upd Hz y (.lst (as.map V.ref)) = H1 at gy hyy s1 Y0 ⊢
  refine ⟨_,SqT.of (s1 _ _ ht),?_⟩
  refine for_it (n:=T'.length) (fun j σ Hx=>∃ v2 v3 : Option V,σ = [some (.ref t),some (.ref y),v2,v3]∧Hx y = some (.lst (as.map V.ref))∧YTo Hx as T' j∧Same H Hx) ⟨none,none,rfl,hyy,Y0,s1⟩ (fun j σ Hx hj ⟨_,_,_,_,_,e⟩=>⟨_,_,SqT.of (e _ _ ht),nthV hj⟩) (fun σ Hx ⟨_,_,_,_,_,e⟩=>⟨_,SqT.of (e _ _ ht),eL⟩) ?_ ?_
  · rintro j x σ Hx Hw hj ⟨v2,v3,rfl,hyx,Yx,sx⟩ ⟨p,w,zp,rfl,rfl,hx⟩
    have ex:=hx _ (SqT.of (sx _ _ ht))
    rw [nthV hj] at ex
    cases ex
    walk_at "rd"
    have gp:=(Same.refl Hx).upd (o:=.tup [V.int (j : Int),V.int (nth T' j)]) zp
    have hp:=upd_same (H:=Hx) (a:=p) (o:=.tup [V.int (j : Int),V.int (nth T' j)])
    generalize upd Hx p (.tup [V.int (j : Int),V.int (nth T' j)]) = H2 at gp hp ⊢
    refine ⟨_,SqT.of hp,rfl,_,_,rfl,_,_,rfl,rfl,_,rfl,?_⟩
    have sx2:=sx.trans gp
    have hyx2:=gp _ _ hyx
    have Yx2:=Yx.same gp
    refine ite2 (fun c0=>?_) fun c0=>⟨hyx2,Yx2.skip fun v _=>by omega,sx2⟩
    have hq : ∃ q : Nat,nth T' j = q∧q < T'.length∧q≠j:=by
      rcases elder_cases hT (p:=j) (by omega) with z | ⟨q,ez,hq,hO,hd⟩
      · omega
      · refine ⟨q,ez,by omega,fun e=>?_⟩
        subst e; omega
    obtain ⟨q,eq,hqT,nqj⟩:=hq
    obtain ⟨a,ea⟩ : ∃ a,as[q]? = some a:=⟨_,List.getElem?_eq_getElem (by omega)⟩
    obtain ⟨ah,bh,hA,hB,ha⟩:=Yx2 q a ea
    have na : a≠y:=fun z=>ny (z ▸ List.mem_of_getElem? ea)
    have za : H a = none:=(has a (List.mem_of_getElem? ea)).2
    refine ⟨_,_,rfl,SqL.of hyx2,V.ref a,by rw [eq]; exact atI_nat (by rw [List.getElem?_map,ea]; rfl),_,rfl,_,rfl,ite2 (fun c1=>?_) fun c1=>?_⟩
    · refine ⟨a,rfl,_,ha,1,rfl,by rw [upd_ne na.symm]; exact hyx2,?_,sx2.upd za⟩
      exact Yx2.set (ah:=ah) (bh:=some j) hnd ea (hA.skip fun z=>by omega) ⟨by omega,by omega,eq⟩ eq
    · refine ⟨a,rfl,_,ha,0,rfl,by rw [upd_ne na.symm]; exact hyx2,?_,sx2.upd za⟩
      exact Yx2.set (ah:=some j) (bh:=bh) hnd ea ⟨by omega,by omega,eq⟩ (hB.skip fun z=>by omega) eq
  · rintro σ Hx ⟨v2,v3,rfl,hyx,Yx,sx⟩
    walk_at "rd"
    refine k1 y Hx zy0 ⟨as,hyx,hal,fun v a e=>?_⟩ sx
    obtain ⟨ah,bh,h1,h2,h3⟩:=Yx v a e
    refine ⟨ah,bh,?_,?_,h3⟩
    · cases ah with
      | none=>exact h1
      | some c=>exact h1
    · cases bh with
      | none=>exact h2
      | some c=>exact h2
theorem ok_table_by {f : Addr} {fd : FuncData} (F : Fun K "table_by" "table_by" s_table_by f fd) (G_young_of : Callee P w K mg base "young_of" 1 ["tree"] (sp_young_of K mg)) (G_from_below : Callee P w K mg base "from_below" 5 ["tree"] (sp_from_below K mg)) (G_pair_at : Callee P w K mg base "pair_at" 2 ["text","table","young","i"] (sp_pair_at K mg)) (T : Txt K mg) : FnOk P w K mg base (CXE P w) 6 f fd ["tree","text"] (sp_table_by K mg):=by
  refine F.okX sc_table_by (fun vs H Q E h=>?_) (fun cdv A outer s H vs Q E hr h=>?_)
  · obtain ⟨t,x,T,ts,rfl,_⟩:=h; rfl
  obtain ⟨t,x,T',ts,rfl,ht,hx,hG,h16,hT1,hT2,hT3,k1⟩:=h
  refine ⟨_,(pss_cons (ps_set (i:=2) sc_table_by.nd rfl (Or.inr rfl) (pe_callF G_young_of (hr.mono (by decide)) rfl passE (pa_cons (pv 0) pa_nil)))
      (pss_cons (ps_set (i:=3) sc_table_by.nd rfl (Or.inr rfl) (pe_compN ["v"] [none] rfl rfl rfl (pi_tup (pv 0)) (fun _ _ _ _ _=>(pg_name (i:=0) (show (["v"] : List Str).Nodup from by decide +kernel) rfl (Or.inl rfl))) (fun _ _ _ _ _=>pifs_nil) (fun _ _ _ _ _=>(pe_lst pa_nil)) only_name))
      (pss_cons (ps_nox (ps_for PassesOwn.never rfl (pi_list (pe_callF G_from_below (hr.mono (by decide)) rfl passE (pa_cons (pv 0) pa_nil))) (pg_name (i:=4) sc_table_by.nd rfl (Or.inr rfl)) (pss_one (ps_asg (pe_compN ["i","text","table","young","v"] [none,some 1,some 3,some 2,some 4] rfl rfl rfl (pi_range1 rfl T.b_range (pa_cons (pe_callB (call_lenK (K:=K) rfl) rfl T.b_len PySem.boot_len (pa_cons (pv 1) pa_nil)) pa_nil)) (fun _ _ _ _ _=>(pg_name (i:=0) (show (["i","text","table","young","v"] : List Str).Nodup from by decide +kernel) rfl (Or.inl rfl))) (fun _ _ _ _ _=>pifs_nil) (fun _ _ _ _ _=>(pe_callF G_pair_at (hr.mono (by decide)) rfl passE (pa_cons (pv 1) (pa_cons (pv 2) (pa_cons (pe_ix (r:=rIxL K) ix_list (pv 3) (pv 4) (fun _ _=>rfl)) (pa_cons (pv 0) pa_nil)))))) only_name) (pg_sub (pv 3) (pv 4) set_list (fun _=>rfl))))))
      (pss_one (ps_ret (pv 3)))))),?_⟩
  have h40:=hG.1
  obtain ⟨_,nsT,hT⟩:=id hG
  have eT:=hT.1
  have eL : (T'.map V.int).length = T'.length:=List.length_map ..
  have eX : (ts.map V.int).length = ts.length:=List.length_map ..
  refine seqR (fun σ Hx=>∃ y : Addr,σ = [some (.ref t),some (.ref x),some (.ref y),none,none]∧YoungAt Hx y T'∧Same H Hx) (fun R hR=>?_) ?_
  · walk_at "rd"
    exact ⟨t,T',rfl,ht,hG,fun y H1 zy Y1 s1=>hR _ _ ⟨y,rfl,Y1,s1⟩⟩
  rintro σ H1 ⟨y,rfl,Y1,s1⟩
  obtain ⟨ys,hys,hyl,hyp⟩:=Y1
  refine seqR (fun σ Hx=>∃ (l : Addr) (tab : List (List Pt)),σ = [some (.ref t),some (.ref x),some (.ref y),some (.ref l),none]∧H1 l = none∧TblAt Hx l tab∧tab.length = T'.length∧Same H1 Hx) (fun R hR=>?_) ?_
  · walk_at "rd"
    refine ⟨⟨_,SqT.of (s1 _ _ ht)⟩,comp_inv (n:=T'.length) (fun j acc Hz=>∃ as : List Addr,acc = as.map V.ref∧as.length = j∧(∀ a ∈ as,Hz a = some (.lst []))∧Same H1 Hz) (Nat.lt_of_le_of_lt (show _≤1000 by omega) (by decide)) ⟨[],rfl,rfl,(fun a ha=>absurd ha (by simp)),Same.refl H1⟩ (fun j acc Hz ⟨_,_,_,_,e⟩ hj=>⟨_,_,SqT.of ((s1.trans e) _ _ ht),nthV hj⟩) (fun acc Hz ⟨_,_,_,_,e⟩=>⟨_,SqT.of ((s1.trans e) _ _ ht),Nat.le_of_eq eL⟩) ?_ ?_⟩
    · rintro j w acc Hz Hw hj hla ⟨as,rfl,hal,has,sz⟩ ⟨rfl,hx⟩
      walk_at "rd"
      refine ⟨Nat.zero_le _,fun p zp=>CA.take hj hla ⟨as ++ [p],by simp,by simp [hal],fun a ha=>?_,sz.upd' zp⟩⟩
      rcases List.mem_append.mp ha with z | z
      · exact ((Same.refl _).upd zp) _ _ (has a z)
      · have : a = p:=by simpa using z
        subst this
        exact upd_same
    · rintro l acc Hz ⟨as,rfl,hal,has,sz⟩ _ zl
      have gl:=(Same.refl Hz).upd (o:=.lst (as.map V.ref)) zl
      refine hR _ _ ⟨l,List.replicate T'.length [],rfl,sz.free zl,⟨as,upd_same,(fun z=>by rw [has _ z] at zl; cases zl),by simp [hal],fun i a ps e1 e2=>?_⟩,by simp,sz.trans gl⟩
      have : ps = []:=by
        rw [List.getElem?_replicate] at e2
        split at e2
        · cases e2; rfl
        · cases e2
      subst this
      exact ⟨[],gl _ _ (has a (List.mem_of_getElem? e1)),rfl,fun i v p h=>by simp at h⟩
  rintro σ H2 ⟨l,tab0,rfl,zl,TB,htl,s2⟩
  walk_at "rd"
  have s02:=s1.trans s2
  refine ⟨t,T',rfl,s02 _ _ ht,hG,TabH.same hT1 s02,fun o ps H3 zo s3 hpm hpw ho=>⟨o,rfl,⟨_,SqL.of ho⟩,?_⟩⟩
  have s03:=s02.trans s3
  have zl0 : H l = none:=s1.free zl
  have nd : ps.Nodup:=hpm.nodup_iff.mpr (nats_nodup _)
  obtain ⟨as0,hla0,_⟩:=id TB
  have nlo : o≠l:=fun z=>by rw [z,hla0] at zo; cases zo
  have nly : y≠l:=fun z=>by rw [z,zl] at hys; cases hys
  refine for_list (xs:=ps.map V.int) (fun k σ Hx=>∃ (v4 : Option V) (tab : List (List Pt)),σ = [some (.ref t),some (.ref x),some (.ref y),some (.ref l),v4]∧TblAt Hx l tab∧tab.length = T'.length∧(∀ v : Nat,(v : Int) ∈ ps.take k→DoneAt T' ts tab v)∧Exc l H3 Hx) ⟨none,tab0,rfl,TB.same s3,htl,(fun v h=>absurd h (by simp)),(Same.refl H3).toExc⟩ (fun k σ Hx _ ⟨_,_,_,_,_,_,e⟩=>SqL.of (e _ _ nlo ho)) ?_ ?_
  · rintro k w σ Hx hw ⟨v4,tab,rfl,TBx,htx,hdone,ex⟩
    obtain ⟨v,rfl,hpk,hvT⟩ : ∃ v : Nat,w = V.int (v : Int)∧ps[k]? = some (v : Int)∧v < T'.length:=by
      rw [List.getElem?_map] at hw
      cases e : ps[k]? with
      | none=>rw [e] at hw; cases hw
      | some u =>
        rw [e] at hw; cases hw
        obtain ⟨v,hv,rfl⟩:=List.mem_map.mp (hpm.mem_iff.mp (List.mem_of_getElem? e))
        exact ⟨v,rfl,rfl,by have:=List.mem_range.mp hv; omega⟩
    have hv0 : (v : Int) ∉ ps.take k:=fun z=>by
      obtain ⟨m,hm,em⟩:=List.mem_take_iff_getElem.mp z
      obtain ⟨hi,ei⟩:=List.getElem?_eq_some_iff.mp hpk
      have:=(List.getElem_inj nd (h₀:=by omega) (h₁:=hi)).mp (em.trans ei.symm)
      omega
    have kidT : ∀ c,c < T'.length→nth T' c = v→(c : Int) ∈ ps.take k:=fun c hc e=>kid_first hT hpm hpw hpk hc e
    have kidV : ∀ c,c < T'.length→nth T' c = v→c≠v:=fun c hc e z=>hv0 (z ▸ kidT c hc e)
    obtain ⟨a,ea⟩ : ∃ a,ys[v]? = some a:=⟨_,List.getElem?_eq_getElem (by omega)⟩
    obtain ⟨ah,bh,hA,hB,ha⟩:=hyp v a ea
    have nla : a≠l:=fun z=>by rw [z,zl] at ha; cases ha
    have s3x : ∀ b u,b≠l→H1 b = some u→Hx b = some u:=fun b u n e=>ex _ _ n ((s2.trans s3) _ _ e)
    have sHx : Same H Hx:=s03.exc zl0 ex
    have kA : kidOk tab ts.length ah:=by
      cases ah with
      | none=>trivial
      | some c=>exact ⟨by have:=hA.2.1; omega,(hdone c (kidT c hA.2.1 hA.2.2)).1⟩
    have kB : kidOk tab ts.length bh:=by
      cases bh with
      | none=>trivial
      | some c=>exact ⟨by have:=hB.2.1; omega,(hdone c (kidT c hB.2.1 hB.2.2)).1⟩
    have hyx : Hx y = some (.lst (ys.map V.ref)):=s3x _ _ nly hys
    have hax : Hx a = some (.lst [optN ah,optN bh]):=s3x _ _ nla ha
    walk_at "rd"
    refine ⟨_,sHx.q hx,by omega,by omega,?_⟩
    rw [eX,show ((ts.length : Nat) : Int).toNat = ts.length by omega]
    refine comp_inv (n:=ts.length) (fun j acc Hz=>∃ rs : List Pt,acc.length = j∧rs.length = j∧(∀ (i : Nat) (u : V) (p : Pt),acc[i]? = some u→rs[i]? = some p→PairAt Hz u p)∧(∀ i,i < j→RuledIs ts tab i ah bh (rs.getD i none))∧Same Hx Hz) (Nat.lt_of_le_of_lt (show _≤1000 by omega) (by decide)) ⟨[],rfl,rfl,(fun i u p h=>by simp at h),(fun i h=>absurd h (by omega)),Same.refl Hx⟩ (fun j acc Hz _ hj=>hj) (fun acc Hz _=>Nat.le_refl _) ?_ ?_
    · rintro j u acc Hz Hw hj hla ⟨rs,hal,hrl,hpr,hru,sz⟩ ⟨rfl,rfl⟩
      rw [show (0 : Int) + (j : Int) = ((j : Nat) : Int) by omega]
      walk_at "rd"
      refine ⟨_,SqL.of (sz _ _ hyx),V.ref a,atI_nat (by rw [List.getElem?_map,ea]; rfl),x,l,a,ts,tab,ah,bh,j,rfl,(sHx.trans sz).q hx,TBx.same sz,sz _ _ hax,kA,kB,h16,hj,TabH.same hT2 (sHx.trans sz),TabH.same hT3 (sHx.trans sz),fun u p H5 s5 hR hP=>CA.take hj hla ⟨by simp [hal],rs ++ [p],by simp [hrl],fun i u' p' e1 e2=>?_,fun i hi=>?_,sz.trans s5⟩⟩
      · by_cases c : i < j
        · rw [List.getElem?_append_left (by omega)] at e1 e2
          exact (hpr i u' p' e1 e2).same s5
        · have h1:=(List.getElem?_eq_some_iff.mp e1).1
          have : i = j:=by simp at h1; omega
          subst this
          rw [List.getElem?_append_right (by omega),hal,Nat.sub_self] at e1
          rw [List.getElem?_append_right (by omega),hrl,Nat.sub_self] at e2
          cases e1; cases e2; exact hP
      · by_cases c : i < j
        · rw [List.getD_eq_getElem?_getD,List.getElem?_append_left (by omega),← List.getD_eq_getElem?_getD]
          exact hru i c
        · have : i = j:=by omega
          subst this
          rw [List.getD_eq_getElem?_getD,List.getElem?_append_right (by omega),hrl,Nat.sub_self]
          exact hR
    · rintro r acc Hz ⟨rs,hal,hrl,hpr,hru,sz⟩ _ zr
      have gr:=(Same.refl Hz).upd (o:=.lst acc) zr
      obtain ⟨as,hla,hasn,hasl,hasp⟩:=TBx
      have hlz:=gr _ _ (sz _ _ hla)
      have hrr:=upd_same (H:=Hz) (a:=r) (o:=.lst acc)
      have nrl : r≠l:=fun z=>by rw [z,sz _ _ hla] at zr; cases zr
      have szr:=sz.trans gr
      generalize upd Hz r (.lst acc) = H6 at gr hlz hrr szr ⊢
      refine ⟨_,hlz,v,ixN_nat (by rw [List.length_map]; omega),tab.set v rs,⟨as.set v r,by rw [upd_same,List.map_set],fun z=>?_,by simp [hasl],fun i b qs e1 e2=>?_⟩,by simp [htx],fun w hw=>?_,(ex.same szr).trans Exc.upd⟩
      · rcases List.mem_or_eq_of_mem_set z with z | z
        · exact hasn z
        · exact nrl z.symm
      · by_cases c : i = v
        · subst c
          rw [List.getElem?_set_self (by omega)] at e1 e2
          cases e1; cases e2
          exact ⟨acc,by rw [upd_ne nrl]; exact hrr,by omega,fun i u p f1 f2=>((hpr i u p f1 f2).same gr).excL hlz Exc.upd⟩
        · rw [List.getElem?_set_ne (Ne.symm c)] at e1 e2
          obtain ⟨vals,g1,g2,g3⟩:=(hasp i b qs e1 e2).same szr
          have nb : b≠l:=fun z=>hasn (z ▸ List.mem_of_getElem? e1)
          exact ⟨vals,by rw [upd_ne nb]; exact g1,g2,fun i u p f1 f2=>(g3 i u p f1 f2).excL hlz Exc.upd⟩
      · rw [List.take_succ,hpk] at hw
        rcases List.mem_append.mp hw with hw | hw
        · refine (hdone w hw).set (fun z=>hv0 (z ▸ hw)) fun c hc e z=>?_
          obtain ⟨m,hm,em⟩:=List.mem_take_iff_getElem.mp hw
          have:=kid_first hT hpm hpw (k:=m) (c:=c) (v:=w) (List.getElem?_eq_some_iff.mpr ⟨by omega,em⟩) hc e
          obtain ⟨m2,hm2,em2⟩:=List.mem_take_iff_getElem.mp this
          exact hv0 (z ▸ List.mem_take_iff_getElem.mpr ⟨m2,by omega,em2⟩)
        · have : w = v:=by simp at hw; omega
          subst this
          exact DoneAt.new (by omega) hrl hA hB kidV hru
  · rintro σ Hx ⟨v4,tab,rfl,TBx,htx,hdone,ex⟩
    walk_at "rd"
    refine k1 l tab Hx zl0 TBx ⟨htx,fun v hv=>hdone v ?_⟩ (s03.exc zl0 ex)
    rw [List.take_of_length_le (by simp)]
    exact hpm.mem_iff.mpr (List.mem_map.mpr ⟨v,List.mem_range.mpr (by omega),rfl⟩)
theorem ok_need_loose {f : Addr} {fd : FuncData} (F : Fun K "need_loose" "need_loose" s_need_loose f fd) (GD_need_numbers : CalleeD P w K mg base "need_numbers" 1 ["row","fewest"] [V.int 1] (sp_need_numbers K mg)) (T : Txt K mg) : FnOk P w K mg base (CXE P w) 2 f fd ["row","text"] (sp_need_loose K mg):=by
  refine F.okX sc_need_loose (fun vs H Q E h=>?_) (fun cdv A outer s H vs Q E hr h=>?_)
  · obtain ⟨r,x,ns,ts,rfl,_⟩:=h; rfl
  obtain ⟨r,x,ns,ts,rfl,hr1,hx,h0,h6,h16,k1⟩:=h
  refine ⟨_,(pss_cons (ps_expr (pe_callFD GD_need_numbers (hr.mono (by decide)) rfl pass_on (pa_cons (pv 0) pa_nil)))
      (pss_cons (ps_if (pt_cmpR op_gt (pe_callB (call_lenK (K:=K) rfl) rfl T.b_len PySem.boot_len (pa_cons (pv 0) pa_nil)) (pe_glob (v:=.int 6) rfl T.m_MOST_HELD ⟨_,rfl⟩) (nomark _)) (pss_one (ps_raise rfl rfl T.c_TooMany T.x_TooMany (pa_cons (pe_joined (pj_text (by decide) (pj_int (pe_glob (v:=.int 6) rfl T.m_MOST_HELD ⟨_,rfl⟩) (pj_text (by decide) pj_nil)))) pa_nil) raisesE)) pss_nil)
      (pss_one (ps_if (pt_cmpR op_gt (pe_callB (call_lenK (K:=K) rfl) rfl T.b_len PySem.boot_len (pa_cons (pv 1) pa_nil)) (pe_glob (v:=.int 16) rfl T.m_MOST_HOLDING ⟨_,rfl⟩) (nomark _)) (pss_one (ps_raise rfl rfl T.c_TooMany T.x_TooMany (pa_cons (pe_joined (pj_text (by decide) (pj_int (pe_glob (v:=.int 16) rfl T.m_MOST_HOLDING ⟨_,rfl⟩) (pj_text (by decide) pj_nil)))) pa_nil) raisesE)) pss_nil)))),?_⟩
  walk_at "rd"
  have e1 : (ns.map V.int).length = ns.length:=List.length_map ..
  have e2 : (ts.map V.int).length = ts.length:=List.length_map ..
  exact ⟨r,ns,1,rfl,hr1,by omega,by decide,by decide,fun _=>⟨_,hr1,ite2 (fun z=>absurd z (by omega)) fun _=>⟨_,hx,ite2 (fun z=>absurd z (by omega)) fun _=>k1⟩⟩,fun z=>absurd z (by omega)⟩
theorem ok_table_of {f : Addr} {fd : FuncData} (F : Fun K "table_of" "table_of" s_table_of f fd) (G_tree_of : Callee P w K mg base "tree_of" 2 ["row"] (sp_tree_of K mg)) (G_need_loose : Callee P w K mg base "need_loose" 2 ["row","text"] (sp_need_loose K mg)) (G_table_by : Callee P w K mg base "table_by" 6 ["tree","text"] (sp_table_by K mg)) (T : Txt K mg) : FnOk P w K mg base (CXE P w) 7 f fd ["row","text"] (sp_table_of K mg):=by
  refine F.okX sc_table_of (fun vs H Q E h=>?_) (fun cdv A outer s H vs Q E hr h=>?_)
  · obtain ⟨r,x,ns,ts,rfl,_⟩:=h; rfl
  obtain ⟨r,x,ns,ts,rfl,hr1,hx,h0,h6,h16,hT1,hT2,hT3,k1⟩:=h
  refine ⟨_,(pss_cons (ps_expr (pe_callF G_need_loose (hr.mono (by decide)) rfl pass_on (pa_cons (pv 0) (pa_cons (pv 1) pa_nil))))
      (pss_one (ps_ret (pe_callF G_table_by (hr.mono (by decide)) rfl passE (pa_cons (pe_callF G_tree_of (hr.mono (by decide)) rfl passE (pa_cons (pv 0) pa_nil)) (pa_cons (pv 1) pa_nil)))))),?_⟩
  walk_at "rd"
  exact ⟨r,x,ns,ts,rfl,hr1,hx,h0,h6,h16,r,ns,rfl,hr1,by omega,fun t es H1 hE s1 ht=>⟨t,x,es,ts,rfl,ht,s1.q hx,⟨by have:=hE.1; omega,ns,hE⟩,h16,TabH.same hT1 s1,TabH.same hT2 s1,TabH.same hT3 s1,fun l tab H2 zl hTB hTI s2=>k1 l es tab H2 (s1.free zl) hE hTB hTI (s1.trans s2)⟩⟩
theorem ok_table_right {f : Addr} {fd : FuncData} (F : Fun K "table_right" "table_right" s_table_right f fd) (G_table_of : Callee P w K mg base "table_of" 7 ["row","text"] (sp_table_of K mg)) (T : Txt K mg) : FnOk P w K mg base (CXE P w) 8 f fd ["row","text","table"] (sp_table_right K mg):=by
  refine F.okX sc_table_right (fun vs H Q E h=>?_) (fun cdv A outer s H vs Q E hr h=>?_)
  · obtain ⟨r,x,l,ns,ts,tb,rfl,_⟩:=h; rfl
  obtain ⟨r,x,l,ns,ts,tb,rfl,hr1,hx,hl,htl,h0,h6,h16,hT1,hT2,hT3,k1⟩:=h
  refine ⟨_,(pss_one (ps_ret (pe_cmpR (op_eqN (K:=K) rfl hr) (pe_callF G_table_of (hr.mono (by decide)) rfl pass_on (pa_cons (pv 0) (pa_cons (pv 1) pa_nil))) (pe_compN ["pairs"] [none] rfl rfl rfl (pi_seq (K:=K) rfl (pv 2)) (fun _ _ _ _ _=>(pg_name (i:=0) (show (["pairs"] : List Str).Nodup from by decide +kernel) rfl (Or.inl rfl))) (fun _ _ _ _ _=>pifs_nil) (fun _ _ _ _ _=>(pe_callTy (call_listK (K:=K) rfl) rfl T.b_list bt_list (pa_cons (pv 0) pa_nil))) only_name) (nomark _)))),?_⟩
  walk_at "rd"
  refine ⟨r,x,ns,ts,rfl,hr1,hx,h0,h6,h16,hT1,hT2,hT3,fun l2 T2 tab H1 zl hE hTB hTI s1=>?_⟩
  obtain ⟨as,has,hal,hap⟩:=hl
  obtain ⟨cs,hcs,_,hcl,hcp⟩:=hTB
  have fin : ∀ (m : Addr) (bs : List Addr) (H2 : Hp),bs.length = tb.length→(∀ (i : Nat) (b : Addr) (ps : List Pt),bs[i]? = some b→tb[i]? = some ps→PtsAt H2 b ps)→Same H1 H2→H2 m = none→∃ x_2,EqN K (upd H2 m (.lst (bs.map V.ref))) 3 (.ref l2) (.ref m) x_2∧Q (V.bl x_2) (upd H2 m (.lst (bs.map V.ref))):=fun m bs H2 hbl hbp s2 zm=>by
    have gm:=(Same.refl H2).upd (o:=.lst (bs.map V.ref)) zm
    exact ⟨_,tbl_eq ((s2.trans gm) _ _ hcs) hcl (fun i a ps e1 e2=>(hcp i a ps e1 e2).same (s2.trans gm)) upd_same hbl (fun i b ps e1 e2=>(hbp i b ps e1 e2).same gm),k1 T2 tab _ hE hTI (s1.trans (s2.trans gm))⟩
  have step : ∀ (bs : List Addr) (vals : List V) (q : Addr) (j : Nat) (ps : List Pt) (Hz : Hp),bs.length = j→(∀ (i : Nat) (b : Addr) (ps : List Pt),bs[i]? = some b→tb[i]? = some ps→PtsAt Hz b ps)→tb[j]? = some ps→vals.length = ps.length→(∀ (i : Nat) (v : V) (p : Pt),vals[i]? = some v→ps[i]? = some p→PairAt Hz v p)→Hz q = none→∀ (i : Nat) (b : Addr) (ps : List Pt),(bs ++ [q])[i]? = some b→tb[i]? = some ps→PtsAt (upd Hz q (.lst vals)) b ps:=fun bs vals q j ps Hz hbl hbp etb hvl hvp zq i b ps' e1 e2=>by
    have gq:=(Same.refl Hz).upd (o:=.lst vals) zq
    by_cases c : i < j
    · rw [List.getElem?_append_left (by omega)] at e1
      exact (hbp i b ps' e1 e2).same gq
    · have h1:=(List.getElem?_eq_some_iff.mp e1).1
      have : i = j:=by simp at h1; omega
      subst this
      rw [List.getElem?_append_right (by omega),hbl,Nat.sub_self] at e1
      rw [etb] at e2
      cases e1; cases e2
      exact ⟨vals,upd_same,hvl,fun i v p f1 f2=>(hvp i v p f1 f2).same gq⟩
  have get : ∀ j,j < as.length→∃ a ps,as[j]? = some a∧tb[j]? = some ps∧SqPts K H a ps:=fun j hj=>⟨as[j],tb[j]'(by omega),List.getElem?_eq_getElem hj,List.getElem?_eq_getElem (by omega),hap j _ _ (List.getElem?_eq_getElem hj) (List.getElem?_eq_getElem (by omega))⟩
  rcases has with has | has
  · refine .inl ⟨⟨_,s1.seq has⟩,comp_inv (n:=as.length) (fun j acc Hz=>∃ bs : List Addr,acc = bs.map V.ref∧bs.length = j∧(∀ (i : Nat) (b : Addr) (ps : List Pt),bs[i]? = some b→tb[i]? = some ps→PtsAt Hz b ps)∧Same H1 Hz) (Nat.lt_of_le_of_lt (show _≤1000 by omega) (by decide)) ⟨[],rfl,rfl,(fun i b ps h=>by simp at h),Same.refl H1⟩ (fun j acc Hz ⟨_,_,_,_,e⟩ hj=>⟨_,_,(s1.trans e).seq has,List.getElem?_eq_getElem (by simpa using hj)⟩) (fun acc Hz ⟨_,_,_,_,e⟩=>⟨_,(s1.trans e).seq has,by simp⟩) ?_ ?_⟩
    · rintro j w acc Hz Hw hj hla ⟨bs,rfl,hbl,hbp,sz⟩ ⟨rfl,hx⟩
      obtain ⟨a,ps,ea,etb,hps⟩:=get j hj
      have exx:=hx _ ((s1.trans sz).seq has)
      rw [List.getElem?_map,ea] at exx
      cases exx
      obtain ⟨vals,hv1,hv2,hv3⟩:=hps.same (s1.trans sz)
      walk_at "rd"
      exact ⟨_,hv1,fun q zq=>CA.take hj hla ⟨bs ++ [q],by simp,by simp [hbl],step bs vals q j ps Hw hbl hbp etb hv2 hv3 zq,sz.upd' zq⟩⟩
    · rintro m acc Hz ⟨bs,rfl,hbl,hbp,sz⟩ _ zm
      exact ⟨l2,rfl,m,rfl,fin m bs Hz (by omega) hbp sz zm⟩
  · refine .inr ⟨⟨_,s1.seqT has⟩,comp_inv (n:=as.length) (fun j acc Hz=>∃ bs : List Addr,acc = bs.map V.ref∧bs.length = j∧(∀ (i : Nat) (b : Addr) (ps : List Pt),bs[i]? = some b→tb[i]? = some ps→PtsAt Hz b ps)∧Same H1 Hz) (Nat.lt_of_le_of_lt (show _≤1000 by omega) (by decide)) ⟨[],rfl,rfl,(fun i b ps h=>by simp at h),Same.refl H1⟩ (fun j acc Hz ⟨_,_,_,_,e⟩ hj=>⟨_,_,(s1.trans e).seqT has,List.getElem?_eq_getElem (by simpa using hj)⟩) (fun acc Hz ⟨_,_,_,_,e⟩=>⟨_,(s1.trans e).seqT has,by simp⟩) ?_ ?_⟩
    · rintro j w acc Hz Hw hj hla ⟨bs,rfl,hbl,hbp,sz⟩ ⟨rfl,hx⟩
      obtain ⟨a,ps,ea,etb,hps⟩:=get j hj
      have exx:=hx _ ((s1.trans sz).seqT has)
      rw [List.getElem?_map,ea] at exx
      cases exx
      obtain ⟨vals,hv1,hv2,hv3⟩:=hps.same (s1.trans sz)
      walk_at "rd"
      exact ⟨_,hv1,fun q zq=>CA.take hj hla ⟨bs ++ [q],by simp,by simp [hbl],step bs vals q j ps Hw hbl hbp etb hv2 hv3 zq,sz.upd' zq⟩⟩
    · rintro m acc Hz ⟨bs,rfl,hbl,hbp,sz⟩ _ zm
      exact ⟨l2,rfl,m,rfl,fin m bs Hz (by omega) hbp sz zm⟩
theorem ok__law_hand {f : Addr} {fd : FuncData} (F : Fun K "_law_hand" "_law_hand" s__law_hand f fd)  (T : Txt K mg) : FnOk P w K mg base (CXE P w) 1 f fd ["tree","place","later"] (sp__law_hand K mg):=by
  refine F.okX sc__law_hand (fun vs H Q E h=>?_) (fun cdv A outer s H vs Q E hr h=>?_)
  · obtain ⟨t,T,v,lt,rfl,_⟩:=h; rfl
  obtain ⟨t,T',v,lt,rfl,ht,hG,hv,k1⟩:=h
  refine ⟨_,(pss_cons (ps_setCN (i:=3) ["other","place","later","tree"] [none,some 1,some 2,some 0] sc__law_hand.nd rfl (Or.inl rfl) rfl rfl rfl (pi_range1 rfl T.b_range (pa_cons (pe_callB (call_lenK (K:=K) rfl) rfl T.b_len PySem.boot_len (pa_cons (pv 0) pa_nil)) pa_nil)) (fun _ _ _ _ _=>(pg_name (i:=0) (show (["other","place","later","tree"] : List Str).Nodup from by decide +kernel) rfl (Or.inl rfl))) (fun _ _ _ _ _=>pifs_one (PW.pt (pw_and (pt_cmpR op_eq (pe_ix (r:=rIxT K) ix_tup (pv 3) (pv 0) (fun _ _=>rfl)) (pv 1) (nomark _)) (pw_and1 (pt_cmpR op_eq (pe_cmpR op_gt (pv 0) (pv 1) (nomark _)) (pv 2) (nomark _)))))) (fun _ _ _ _ _=>(pv 0)) only_name)
      (pss_one (ps_ret (pe_ix ix_list (pe_op (op_catK (K:=K) rfl) (pv 3) (pe_lst (pa_cons pe_non pa_nil))) pe_int (fun _ _=>rfl))))),?_⟩
  walk_at "rd"
  have h40:=hG.1
  have eL : (T'.map V.int).length = T'.length:=List.length_map ..
  refine ⟨_,.inr (SqT.of ht),by omega,by omega,?_⟩
  rw [eL,show ((T'.length : Nat) : Int).toNat = T'.length by omega]
  refine comp_filt (n:=T'.length) (fun o=>decide (nth T' o = v∧decide (v < o) = lt)) (fun o=>V.int (o : Int)) (Nat.lt_of_le_of_lt (show _≤1000 by omega) (by decide)) (fun j Hz s hj=>hj) (fun Hz s=>Nat.le_refl _) ?_ ?_
  · rintro j y Hz Hw hj sz ⟨rfl,rfl⟩
    rw [show (0 : Int) + (j : Int) = ((j : Nat) : Int) by omega]
    walk_at "rd"
    refine ⟨_,SqT.of (sz _ _ ht),_,nth_at hj,rfl,ite2 (fun c1=>?_) fun c1=>CF.skip hj (decide_eq_false fun z=>c1 (by rw [z.1])) sz⟩
    have e1 : nth T' j = v:=V.int.inj c1
    have e2 : decide ((v : Int) < (j : Int)) = decide (v < j):=decide_eq_decide.mpr (by omega)
    rw [e2]
    exact ite2 (fun c2=>CF.take hj (decide_eq_true ⟨e1,c2⟩) rfl sz) fun c2=>CF.skip hj (decide_eq_false fun z=>c2 z.2) sz
  · intro lf Hz sz hlf
    have gl:=(Same.refl Hz).upd (o:=.lst (((List.range T'.length).filter fun o=>decide (nth T' o = v∧decide (v < o) = lt)).map fun (o : Nat)=>V.int (o : Int))) hlf
    have hlf2:=upd_same (H:=Hz) (a:=lf) (o:=.lst (((List.range T'.length).filter fun o=>decide (nth T' o = v∧decide (v < o) = lt)).map fun (o : Nat)=>V.int (o : Int)))
    have s1:=sz.trans gl
    generalize upd Hz lf (.lst (((List.range T'.length).filter fun o=>decide (nth T' o = v∧decide (v < o) = lt)).map fun (o : Nat)=>V.int (o : Int))) = H1 at gl hlf2 s1 ⊢
    refine ⟨by decide,fun p zp=>?_⟩
    have g2:=(Same.refl H1).upd (o:=.lst [V.non]) zp
    refine ⟨lf,rfl,_,SqL.of (g2 _ _ hlf2),_,SqL.of upd_same,Nat.le_trans (show _≤1000 by
      have:=List.length_filter_le (fun o=>decide (nth T' o = v∧decide (v < o) = lt)) (List.range T'.length)
      rw [List.length_range] at this
      rw [List.length_map]; simp only [List.length_cons,List.length_nil]; omega) (by decide),fun p2 zp2=>?_⟩
    have g3:=(s1.trans g2).upd' (o:=.lst ((((List.range T'.length).filter fun o=>decide (nth T' o = v∧decide (v < o) = lt)).map fun (o : Nat)=>V.int (o : Int)) ++ [V.non])) zp2
    refine ⟨_,SqL.of upd_same,?_⟩
    have nov : ∀ o,o < T'.length→nth T' o = v→o≠v:=fun o ho e z=>by
      obtain ⟨_,nsT,hT⟩:=id hG
      have eT:=hT.1
      have:=dpI_elder hT (p:=o) (by omega) e
      rw [z] at this; omega
    have hmem : ∀ o : Nat,o ∈ ((List.range T'.length).filter fun o=>decide (nth T' o = v∧decide (v < o) = lt))↔o < T'.length∧nth T' o = v∧decide (v < o) = lt:=fun o=>by rw [List.mem_filter,List.mem_range,decide_eq_true_iff]
    cases hF : ((List.range T'.length).filter fun o=>decide (nth T' o = v∧decide (v < o) = lt)) with
    | nil =>
      rw [hF] at hmem
      rw [hF] at g3
      refine ⟨V.non,rfl,k1 none _ (fun hl c c1 c2 e=>?_) (fun hl c c1 c2 e=>?_) g3⟩
      · exact absurd ((hmem c).mpr ⟨c2,e,by rw [hl]; exact decide_eq_false (by omega)⟩) (by simp)
      · exact absurd ((hmem c).mpr ⟨c2,e,by rw [hl]; exact decide_eq_true c1⟩) (by simp)
    | cons o os =>
      rw [hF] at hmem
      rw [hF] at g3
      obtain ⟨o1,o2,o3⟩:=(hmem o).mp List.mem_cons_self
      refine ⟨V.int (o : Int),atI_at (j:=0) rfl (by simp),k1 (some o) _ (fun hl=>⟨?_,o1,o2⟩) (fun hl=>⟨?_,o1,o2⟩) g3⟩
      · have:=nov o o1 o2
        rw [hl] at o3
        have:=of_decide_eq_false o3
        omega
      · rw [hl] at o3
        exact of_decide_eq_true o3
theorem ok__law_under {f : Addr} {fd : FuncData} (F : Fun K "_law_under" "_law_under" s__law_under f fd) (G__law_over : Callee P w K mg base "_law_over" 1 ["tree","place"] (sp__law_over K mg)) (T : Txt K mg) : FnOk P w K mg base (CXE P w) 2 f fd ["tree","place"] (sp__law_under K mg):=by
  refine F.okX sc__law_under (fun vs H Q E h=>?_) (fun cdv A outer s H vs Q E hr h=>?_)
  · obtain ⟨t,T,v,rfl,_⟩:=h; rfl
  obtain ⟨t,T',v,rfl,ht,hG,k1⟩:=h
  refine ⟨_,(pss_one (ps_ret (pe_compN ["other","place","tree"] [none,some 1,some 0] rfl rfl rfl (pi_range1 rfl T.b_range (pa_cons (pe_callB (call_lenK (K:=K) rfl) rfl T.b_len PySem.boot_len (pa_cons (pv 0) pa_nil)) pa_nil)) (fun _ _ _ _ _=>(pg_name (i:=0) (show (["other","place","tree"] : List Str).Nodup from by decide +kernel) rfl (Or.inl rfl))) (fun _ _ _ _ _=>pifs_one (PW.pt (pw_or (pt_cmpR op_eq (pv 0) (pv 1) (nomark _)) (pw_or1 (pt_cmpR (op_inK (K:=K) rfl) (pv 1) (pe_callF G__law_over (hr.mono (by decide)) rfl passE (pa_cons (pv 2) (pa_cons (pv 0) pa_nil))) (by with_unfolding_all rfl)))))) (fun _ _ _ _ _=>(pv 0)) only_name))),?_⟩
  walk_at "rd"
  have h40:=hG.1
  obtain ⟨_,nsT,hT⟩:=id hG
  have eL : (T'.map V.int).length = T'.length:=List.length_map ..
  refine ⟨_,.inr (SqT.of ht),by omega,by omega,?_⟩
  rw [eL,show ((T'.length : Nat) : Int).toNat = T'.length by omega]
  refine comp_filt (n:=T'.length) (fun o=>decide (o = v∨v ∈ way T' o)) (fun o=>V.int (o : Int)) (Nat.lt_of_le_of_lt (show _≤1000 by omega) (by decide)) (fun j Hz s hj=>hj) (fun Hz s=>Nat.le_refl _) ?_ ?_
  · rintro j y Hz Hw hj sz ⟨rfl,rfl⟩
    rw [show (0 : Int) + (j : Int) = ((j : Nat) : Int) by omega]
    walk_at "rd"
    refine ite2 (fun c=>CF.take hj (decide_eq_true (.inl (by omega))) rfl sz) fun c=>⟨t,T',j,rfl,sz _ _ ht,by omega,hj,endsIn_all hT hj,fun w H2 zw s2 hw=>⟨w,rfl,_,.inl (SqL.of hw),rfl,flat_ints _,?_⟩⟩
    rw [in_ints]
    have ew : (v : Int) ∈ wayI T' j↔v ∈ way T' j:=by
      rw [wayI_way,List.mem_map]
      exact ⟨fun ⟨q,hq,e⟩=>by rw [← show q = v by omega]; exact hq,fun h=>⟨v,h,rfl⟩⟩
    exact ite2 (fun c2=>CF.take hj (decide_eq_true (.inr (ew.mp (of_decide_eq_true c2)))) rfl (sz.trans s2)) fun c2=>CF.skip hj (decide_eq_false fun z=>z.elim (fun y=>c (by omega)) fun y=>c2 (decide_eq_true (ew.mpr y))) (sz.trans s2)
  · intro lf Hz sz hlf
    exact k1 lf _ _ (sz.free hlf) upd_same (by rw [List.length_map]; rfl) (sz.upd' hlf)
theorem ok__law_ruled {f : Addr} {fd : FuncData} (F : Fun K "_law_ruled" "_law_ruled" s__law_ruled f fd) (G__law_hand : Callee P w K mg base "_law_hand" 1 ["tree","place","later"] (sp__law_hand K mg)) (T : Txt K mg) : FnOk P w K mg base (CXE P w) 2 f fd ["tree","text","table","place","at"] (sp__law_ruled K mg):=by
  refine F.okX sc__law_ruled (fun vs H Q E h=>?_) (fun cdv A outer s H vs Q E hr h=>?_)
  · obtain ⟨t,x,l,T,ts,tab,v,i,rfl,_⟩:=h; rfl
  obtain ⟨t,x,l,T',ts,tab,v,i,rfl,ht,hx,hl,hG,hv,hi,h16,hk,k1⟩:=h
  refine ⟨_,(pss_cons (ps_set (i:=5) sc__law_ruled.nd rfl (Or.inl rfl) (pe_lst (pa_cons (pv 4) pa_nil)))
      (pss_cons (ps_set (i:=6) sc__law_ruled.nd rfl (Or.inl rfl) (pe_lst (pa_cons (pv 4) pa_nil)))
      (pss_cons (ps_set (i:=7) sc__law_ruled.nd rfl (Or.inr rfl) (pe_callF G__law_hand (hr.mono (by decide)) rfl passE (pa_cons (pv 0) (pa_cons (pv 3) (pa_cons pe_bl pa_nil)))))
      (pss_cons (ps_set (i:=8) sc__law_ruled.nd rfl (Or.inr rfl) (pe_callF G__law_hand (hr.mono (by decide)) rfl passE (pa_cons (pv 0) (pa_cons (pv 3) (pa_cons pe_bl pa_nil)))))
      (pss_cons (ps_if (pt_cmpR op_notN (pv 7) pe_non (nomark _)) (pss_cons (ps_setCN (i:=9) ["j","table","ahead","text","at"] [none,some 2,some 7,some 1,some 4] sc__law_ruled.nd rfl (Or.inl rfl) rfl rfl rfl (pi_range1 rfl T.b_range (pa_cons (pv 4) pa_nil)) (fun _ _ _ _ _=>(pg_name (i:=0) (show (["j","table","ahead","text","at"] : List Str).Nodup from by decide +kernel) rfl (Or.inl rfl))) (fun _ _ _ _ _=>pifs_one (PW.pt (pw_and (pt_cmpR op_gt (pe_ix (r:=rIxL K) ix_list (pv 3) (pv 0) (fun _ _=>rfl)) (pe_ix (r:=rIxL K) ix_list (pv 3) (pv 4) (fun _ _=>rfl)) (nomark _)) (pw_and1 (pt_cmpR op_notN (pe_ix (r:=rIxL K) ix_list (pe_ix (r:=rIxL K) ix_list (pv 1) (pv 2) (fun _ _=>rfl)) (pv 0) (fun _ _=>rfl)) pe_non (nomark _)))))) (fun _ _ _ _ _=>(pe_ix (r:=rIxL K) ix_list (pe_ix (r:=rIxL K) ix_list (pv 1) (pv 2) (fun _ _=>rfl)) (pv 0) (fun _ _=>rfl))) only_name)
      (pss_one (ps_setCN (i:=5) ["pair","at"] [none,some 4] sc__law_ruled.nd rfl (Or.inl rfl) rfl rfl rfl (pi_list (pv 9)) (fun _ _ _ _ _=>(pg_name (i:=0) (show (["pair","at"] : List Str).Nodup from by decide +kernel) rfl (Or.inl rfl))) (fun _ _ _ _ _=>pifs_one (pt_cmpR op_lt (pe_ix (r:=rIxT K) ix_tup (pv 0) pe_int (fun _ _=>rfl)) (pv 1) (nomark _))) (fun _ _ _ _ _=>(pe_ix (r:=rIxT K) ix_tup (pv 0) pe_int (fun _ _=>rfl))) only_name))) pss_nil)
      (pss_cons (ps_if (pt_cmpR op_notN (pv 8) pe_non (nomark _)) (pss_cons (ps_setCN (i:=9) ["j","table","behind","text","at"] [none,some 2,some 8,some 1,some 4] sc__law_ruled.nd rfl (Or.inl rfl) rfl rfl rfl (pi_range2 rfl T.b_range (pa_cons (pe_op op_add (pv 4) pe_int) (pa_cons (pe_callB (call_lenK (K:=K) rfl) rfl T.b_len PySem.boot_len (pa_cons (pv 1) pa_nil)) pa_nil))) (fun _ _ _ _ _=>(pg_name (i:=0) (show (["j","table","behind","text","at"] : List Str).Nodup from by decide +kernel) rfl (Or.inl rfl))) (fun _ _ _ _ _=>pifs_one (pt_cmpR op_ge (pe_ix (r:=rIxL K) ix_list (pv 3) (pv 0) (fun _ _=>rfl)) (pe_ix (r:=rIxL K) ix_list (pv 3) (pv 4) (fun _ _=>rfl)) (nomark _))) (fun _ _ _ _ _=>(pe_ix (r:=rIxL K) ix_list (pe_ix (r:=rIxL K) ix_list (pv 1) (pv 2) (fun _ _=>rfl)) (pv 0) (fun _ _=>rfl))) only_name)
      (pss_one (ps_setCN (i:=6) ["pair","at"] [none,some 4] sc__law_ruled.nd rfl (Or.inl rfl) rfl rfl rfl (pi_list (pv 9)) (fun _ _ _ _ _=>(pg_name (i:=0) (show (["pair","at"] : List Str).Nodup from by decide +kernel) rfl (Or.inl rfl))) (fun _ _ _ _ _=>pifs_one (PW.pt (pw_and (pt_cmpR op_notN (pv 0) pe_non (nomark _)) (pw_and1 (pt_cmpR op_gt (pe_ix (r:=rIxT K) ix_tup (pv 0) pe_int (fun _ _=>rfl)) (pv 1) (nomark _)))))) (fun _ _ _ _ _=>(pe_ix (r:=rIxT K) ix_tup (pv 0) pe_int (fun _ _=>rfl))) only_name))) pss_nil)
      (pss_cons (ps_if (PW.pt (pw_or (pt_cmpR (op_eqD (K:=K) rfl hr) (pv 5) (pe_lst pa_nil) (nomark _)) (pw_or1 (pt_cmpR (op_eqD (K:=K) rfl hr) (pv 6) (pe_lst pa_nil) (nomark _))))) (pss_one (ps_ret pe_non)) pss_nil)
      (pss_one (ps_ret (pe_tup (pa_cons (pe_callB (call_max1 rfl) rfl T.b_max bt_max (pa_cons (pv 5) pa_nil)) (pa_cons (pe_callB (call_min1 rfl) rfl T.b_min bt_min (pa_cons (pv 6) pa_nil)) pa_nil)))))))))))),?_⟩
  have eX : (ts.map V.int).length = ts.length:=List.length_map ..
  refine seqR (fun σ Hx=>∃ fa,σ = [some (.ref t),some (.ref x),some (.ref l),some (.int (v : Int)),some (.int (i : Int)),some (.ref fa),none,none,none,none]∧Hx fa = some (.lst ([(i : Int)].map V.int))∧Same H Hx) (fun R hR=>?_) ?_
  · walk_at "rd"
    exact ⟨by decide,fun q zq=>hR _ _ ⟨q,rfl,upd_same,(Same.refl H).upd zq⟩⟩
  rintro σ H1 ⟨fa,rfl,hfa,s1⟩
  refine seqR (fun σ Hx=>∃ la,σ = [some (.ref t),some (.ref x),some (.ref l),some (.int (v : Int)),some (.int (i : Int)),some (.ref fa),some (.ref la),none,none,none]∧Hx la = some (.lst ([(i : Int)].map V.int))∧Same H1 Hx) (fun R hR=>?_) ?_
  · walk_at "rd"
    exact ⟨by decide,fun q zq=>hR _ _ ⟨q,rfl,upd_same,(Same.refl H1).upd zq⟩⟩
  rintro σ H2 ⟨la,rfl,hla,s2⟩
  replace hfa:=s2 _ _ hfa
  replace s1:=s1.trans s2
  clear s2 H1
  refine seqR (fun σ Hx=>∃ ah,σ = [some (.ref t),some (.ref x),some (.ref l),some (.int (v : Int)),some (.int (i : Int)),some (.ref fa),some (.ref la),some (optN ah),none,none]∧AheadIs T' v ah∧Same H2 Hx) (fun R hR=>?_) ?_
  · walk_at "rd"
    exact ⟨t,T',v,false,rfl,s1 _ _ ht,hG,hv,fun o H3 a1 _ s3=>hR _ _ ⟨o,rfl,a1 rfl,s3⟩⟩
  rintro σ H3 ⟨ah,rfl,hA,s3⟩
  refine seqR (fun σ Hx=>∃ bh,σ = [some (.ref t),some (.ref x),some (.ref l),some (.int (v : Int)),some (.int (i : Int)),some (.ref fa),some (.ref la),some (optN ah),some (optN bh),none]∧BehindIs T' v bh∧Same H3 Hx) (fun R hR=>?_) ?_
  · walk_at "rd"
    exact ⟨t,T',v,true,rfl,(s1.trans s3) _ _ ht,hG,hv,fun o H4 _ a2 s4=>hR _ _ ⟨o,rfl,a2 rfl,s4⟩⟩
  rintro σ H4 ⟨bh,rfl,hB,s4⟩
  replace hfa:=s4 _ _ (s3 _ _ hfa)
  replace hla:=s4 _ _ (s3 _ _ hla)
  replace s1:=s1.trans (s3.trans s4)
  clear s3 s4 H2 H3
  refine seqR (fun σ Hx=>∃ fb fs v9,σ = [some (.ref t),some (.ref x),some (.ref l),some (.int (v : Int)),some (.int (i : Int)),some (.ref fb),some (.ref la),some (optN ah),some (optN bh),v9]∧Hx fb = some (.lst (fs.map V.int))∧fs.length≤16∧FsOk ts tab i ah fs∧Same H4 Hx) (fun R hR=>?_) ?_
  · walk_at "rd"
    cases ah with
    | none=>exact ite2 (fun z=>absurd rfl z) fun _=>hR _ _ ⟨fa,_,none,rfl,hfa,by simp,rfl,Same.refl H4⟩
    | some c =>
      refine ite2 (fun _=>?_) fun z=>absurd (fun y=>nomatch y) z
      obtain ⟨c1,c2,c3⟩:=hA
      obtain ⟨hc,hcl⟩:=hk c c2 c3
      obtain ⟨as,l1,_,l3,l4⟩:=hl.same s1
      obtain ⟨a,ea,ha⟩:=tbl_get l3 l4 hc
      obtain ⟨vals,p1,p2,p3⟩:=ha
      have hx4:=s1 _ _ hx
      refine ⟨by omega,by omega,?_⟩
      rw [show ((i : Nat) : Int).toNat = i by omega]
      refine comp_filt (n:=i) (fun j=>decide (nth ts i < nth ts j∧((tab.getD c []).getD j none).isSome = true)) (fun j=>vals.getD j .non) (Nat.lt_of_le_of_lt (show _≤1000 by omega) (by decide)) (fun j Hz s hj=>hj) (fun Hz s=>Nat.le_refl _) ?_ ?_
      · rintro j y Hz Hw hj sz ⟨rfl,rfl⟩
        rw [show (0 : Int) + (j : Int) = ((j : Nat) : Int) by omega]
        walk_at "rd"
        obtain ⟨w,ew,hw⟩:=pt_get p2 p3 (show j < (tab.getD c []).length by omega)
        have hw':=hw.same sz
        have evg:=getD_of ew
        refine ⟨_,SqL.of (sz _ _ hx4),_,nth_at (by omega),_,SqL.of (sz _ _ hx4),_,nth_at (by omega),_,rfl,_,rfl,ite2 (fun c1=>?_) fun c1=>CF.skip hj (decide_eq_false fun z=>c1 z.1) sz⟩
        refine ⟨_,_,rfl,SqL.of (sz _ _ l1),_,ea,a,rfl,_,SqL.of (sz _ _ p1),_,ew,ite2 (fun c2=>⟨_,_,rfl,SqL.of (sz _ _ l1),_,ea,a,rfl,_,SqL.of (sz _ _ p1),_,ew,CF.take hj (decide_eq_true ⟨c1,?_⟩) evg.symm sz⟩) fun c2=>CF.skip hj (decide_eq_false fun z=>?_) sz⟩
        · cases e : ((tab.getD c []).getD j none).isSome with
          | true=>rfl
          | false=>exact absurd ((pt_non hw').mpr e) c2
        · have z1:=z.2
          rw [(pt_non hw').mp (Decidable.of_not_not c2)] at z1
          cases z1
      · intro lf Hz sz hlf
        have hjs : ∀ j,j ∈ ((List.range i).filter fun j=>decide (nth ts i < nth ts j∧((tab.getD c []).getD j none).isSome = true))↔j < i∧nth ts i < nth ts j∧((tab.getD c []).getD j none).isSome = true:=fun j=>by
          rw [List.mem_filter,List.mem_range,decide_eq_true_iff]
        have hjl : ((List.range i).filter fun j=>decide (nth ts i < nth ts j∧((tab.getD c []).getD j none).isSome = true)).length≤i:=by
          have:=List.length_filter_le (fun j=>decide (nth ts i < nth ts j∧((tab.getD c []).getD j none).isSome = true)) (List.range i)
          rwa [List.length_range] at this
        generalize ((List.range i).filter fun j=>decide (nth ts i < nth ts j∧((tab.getD c []).getD j none).isSome = true)) = js at hjs hjl ⊢
        have g1:=sz.upd' (o:=.lst (js.map fun j=>vals.getD j .non)) hlf
        have h1:=upd_same (H:=Hz) (a:=lf) (o:=.lst (js.map fun j=>vals.getD j .non))
        generalize upd Hz lf (.lst (js.map fun j=>vals.getD j .non)) = H5 at g1 h1 ⊢
        refine ⟨lf,rfl,⟨_,SqL.of h1⟩,?_⟩
        refine comp_filt (n:=js.length) (fun k=>decide ((ptAt (tab.getD c []) (js.getD k 0)).2 < i)) (fun k=>V.int (ptAt (tab.getD c []) (js.getD k 0)).1) (Nat.lt_of_le_of_lt (show _≤1000 by omega) (by decide)) (fun k Hz s hk=>⟨_,_,SqL.of (s _ _ h1),List.getElem?_eq_getElem (by simpa using hk)⟩) (fun Hz s=>⟨_,SqL.of (s _ _ h1),by simp⟩) ?_ ?_
        · rintro k y Hz Hw hk sz ⟨rfl,hy⟩
          have ey:=hy _ (SqL.of (sz _ _ h1))
          rw [List.getElem?_map,List.getElem?_eq_getElem hk] at ey
          cases ey
          have ejk : js.getD k 0 = js[k]:=by rw [List.getD_eq_getElem?_getD,List.getElem?_eq_getElem hk]; rfl
          obtain ⟨q1,q2,q3⟩:=(hjs js[k]).mp (List.getElem_mem hk)
          obtain ⟨w,ew,hw⟩:=pt_get p2 p3 (show js[k] < (tab.getD c []).length by omega)
          have eb : (fun j=>vals.getD j V.non) js[k] = w:=getD_of ew
          rw [eb]
          obtain ⟨b,rfl,hb⟩:=pt_some (hw.same (g1.trans sz)) q3
          walk_at "rd"
          refine ⟨_,SqT.of hb,_,rfl,_,rfl,?_⟩
          rw [← ejk] at hb ⊢
          exact ite2 (fun c2=>⟨_,SqT.of hb,_,rfl,CF.take hk (decide_eq_true c2) rfl sz⟩) fun c2=>CF.skip hk (decide_eq_false c2) sz
        · intro lg Hw sw hlg
          have e : (((List.range js.length).filter fun k=>decide ((ptAt (tab.getD c []) (js.getD k 0)).2 < i)).map fun k=>V.int (ptAt (tab.getD c []) (js.getD k 0)).1) = (((List.range js.length).filter fun k=>decide ((ptAt (tab.getD c []) (js.getD k 0)).2 < i)).map fun k=>(ptAt (tab.getD c []) (js.getD k 0)).1).map V.int:=by rw [List.map_map]; rfl
          rw [e]
          refine hR _ _ ⟨lg,_,_,rfl,upd_same,?_,fun y=>?_,g1.trans (sw.upd' hlg)⟩
          · have:=List.length_filter_le (fun k=>decide ((ptAt (tab.getD c []) (js.getD k 0)).2 < i)) (List.range js.length)
            rw [List.length_range] at this
            rw [List.length_map]; omega
          · rw [List.mem_map]
            constructor
            · rintro ⟨k,hk,rfl⟩
              obtain ⟨k1',k2'⟩:=List.mem_filter.mp hk
              have k3:=List.mem_range.mp k1'
              have ejk : js.getD k 0 = js[k]:=by rw [List.getD_eq_getElem?_getD,List.getElem?_eq_getElem k3]; rfl
              obtain ⟨q1,q2,q3⟩:=(hjs js[k]).mp (List.getElem_mem k3)
              rw [ejk] at k2' ⊢
              exact ⟨js[k],⟨q1,q3,q2,of_decide_eq_true k2'⟩,rfl⟩
            · rintro ⟨j,⟨f1,f2,f3,f4⟩,rfl⟩
              obtain ⟨k,hk,ek⟩:=List.mem_iff_getElem.mp ((hjs j).mpr ⟨f1,f3,f2⟩)
              have ejk : js.getD k 0 = j:=by rw [List.getD_eq_getElem?_getD,List.getElem?_eq_getElem hk]; exact ek
              exact ⟨k,List.mem_filter.mpr ⟨List.mem_range.mpr hk,decide_eq_true (by rw [ejk]; exact f4)⟩,by rw [ejk]⟩
  rintro σ H5 ⟨fb,fs,v9,rfl,hfb,hfl,hFs,s5⟩
  replace hla:=s5 _ _ hla
  replace s1:=s1.trans s5
  clear hfa s5 H4
  refine seqR (fun σ Hx=>∃ lb ls v9,σ = [some (.ref t),some (.ref x),some (.ref l),some (.int (v : Int)),some (.int (i : Int)),some (.ref fb),some (.ref lb),some (optN ah),some (optN bh),v9]∧Hx lb = some (.lst (ls.map V.int))∧ls.length≤16∧LsOk ts tab i bh ls∧Same H5 Hx) (fun R hR=>?_) ?_
  · walk_at "rd"
    cases bh with
    | none=>exact ite2 (fun z=>absurd rfl z) fun _=>hR _ _ ⟨la,_,_,rfl,hla,by simp,rfl,Same.refl H5⟩
    | some c =>
      refine ite2 (fun _=>?_) fun z=>absurd (fun y=>nomatch y) z
      obtain ⟨c1,c2,c3⟩:=hB
      obtain ⟨hc,hcl⟩:=hk c c2 c3
      obtain ⟨as,l1,_,l3,l4⟩:=hl.same s1
      obtain ⟨a,ea,ha⟩:=tbl_get l3 l4 hc
      obtain ⟨vals,p1,p2,p3⟩:=ha
      have hx4:=s1 _ _ hx
      refine ⟨_,.inl (SqL.of hx4),by omega,by omega,by omega,by omega,?_⟩
      rw [eX,show ((ts.length : Int) - ((i : Int) + 1)).toNat = ts.length - (i + 1) by omega]
      refine comp_filt (n:=ts.length - (i + 1)) (fun k=>decide (nth ts i≤nth ts (i + 1 + k))) (fun k=>vals.getD (i + 1 + k) .non) (Nat.lt_of_le_of_lt (show _≤1000 by omega) (by decide)) (fun j Hz s hj=>hj) (fun Hz s=>Nat.le_refl _) ?_ ?_
      · rintro k y Hz Hw hk' sz ⟨rfl,rfl⟩
        rw [show (i : Int) + 1 + (k : Int) = ((i + 1 + k : Nat) : Int) by omega]
        walk_at "rd"
        obtain ⟨w,ew,hw⟩:=pt_get p2 p3 (show i + 1 + k < (tab.getD c []).length by omega)
        have evg:=getD_of ew
        refine ⟨_,SqL.of (sz _ _ hx4),_,nth_at (by omega),_,SqL.of (sz _ _ hx4),_,nth_at (by omega),_,rfl,_,rfl,ite2 (fun c1=>?_) fun c1=>CF.skip hk' (decide_eq_false c1) sz⟩
        exact ⟨_,_,rfl,SqL.of (sz _ _ l1),_,ea,a,rfl,_,SqL.of (sz _ _ p1),_,ew,CF.take hk' (decide_eq_true c1) evg.symm sz⟩
      · intro lf Hz sz hlf
        have eJ : (((List.range (ts.length - (i + 1))).filter fun k=>decide (nth ts i≤nth ts (i + 1 + k))).map fun k=>vals.getD (i + 1 + k) V.non) = (((List.range (ts.length - (i + 1))).filter fun k=>decide (nth ts i≤nth ts (i + 1 + k))).map fun k=>i + 1 + k).map fun j=>vals.getD j V.non:=by rw [List.map_map]; rfl
        rw [eJ]
        have hjs : ∀ j,j ∈ (((List.range (ts.length - (i + 1))).filter fun k=>decide (nth ts i≤nth ts (i + 1 + k))).map fun k=>i + 1 + k)↔i < j∧j < ts.length∧nth ts i≤nth ts j:=fun j=>by
          rw [List.mem_map]
          constructor
          · rintro ⟨k,hk',rfl⟩
            obtain ⟨z1,z2⟩:=List.mem_filter.mp hk'
            have:=List.mem_range.mp z1
            exact ⟨by omega,by omega,of_decide_eq_true z2⟩
          · rintro ⟨z1,z2,z3⟩
            refine ⟨j - (i + 1),List.mem_filter.mpr ⟨List.mem_range.mpr (by omega),decide_eq_true ?_⟩,by omega⟩
            rw [show i + 1 + (j - (i + 1)) = j by omega]; exact z3
        have hjl : (((List.range (ts.length - (i + 1))).filter fun k=>decide (nth ts i≤nth ts (i + 1 + k))).map fun k=>i + 1 + k).length≤16:=by
          have:=List.length_filter_le (fun k=>decide (nth ts i≤nth ts (i + 1 + k))) (List.range (ts.length - (i + 1)))
          rw [List.length_range] at this
          rw [List.length_map]; omega
        generalize (((List.range (ts.length - (i + 1))).filter fun k=>decide (nth ts i≤nth ts (i + 1 + k))).map fun k=>i + 1 + k) = js at hjs hjl ⊢
        have g1:=sz.upd' (o:=.lst (js.map fun j=>vals.getD j .non)) hlf
        have h1:=upd_same (H:=Hz) (a:=lf) (o:=.lst (js.map fun j=>vals.getD j .non))
        generalize upd Hz lf (.lst (js.map fun j=>vals.getD j .non)) = H6 at g1 h1 ⊢
        refine ⟨lf,rfl,⟨_,SqL.of h1⟩,?_⟩
        refine comp_filt (n:=js.length) (fun k=>decide (((tab.getD c []).getD (js.getD k 0) none).isSome = true∧(i : Int) < (ptAt (tab.getD c []) (js.getD k 0)).1)) (fun k=>V.int (ptAt (tab.getD c []) (js.getD k 0)).2) (Nat.lt_of_le_of_lt (show _≤1000 by omega) (by decide)) (fun k Hz s hk=>⟨_,_,SqL.of (s _ _ h1),List.getElem?_eq_getElem (by simpa using hk)⟩) (fun Hz s=>⟨_,SqL.of (s _ _ h1),by simp⟩) ?_ ?_
        · rintro k y Hz Hw hk sz ⟨rfl,hy⟩
          have ey:=hy _ (SqL.of (sz _ _ h1))
          rw [List.getElem?_map,List.getElem?_eq_getElem hk] at ey
          cases ey
          have ejk : js.getD k 0 = js[k]:=by rw [List.getD_eq_getElem?_getD,List.getElem?_eq_getElem hk]; rfl
          obtain ⟨q1,q2,q3⟩:=(hjs js[k]).mp (List.getElem_mem hk)
          obtain ⟨w,ew,hw⟩:=pt_get p2 p3 (show js[k] < (tab.getD c []).length by omega)
          have eb : (fun j=>vals.getD j V.non) js[k] = w:=getD_of ew
          rw [eb]
          have hw':=hw.same (g1.trans sz)
          walk_at "rd"
          refine ite2 (fun c2=>?_) fun c2=>CF.skip hk (decide_eq_false fun z=>?_) sz
          · have hs : ((tab.getD c []).getD js[k] none).isSome = true:=by
              cases e : ((tab.getD c []).getD js[k] none).isSome with
              | true=>rfl
              | false=>exact absurd ((pt_non hw').mpr e) c2
            obtain ⟨b,rfl,hb⟩:=pt_some hw' hs
            refine ⟨b,rfl,_,SqT.of hb,_,rfl,_,rfl,?_⟩
            rw [← ejk] at hb hs ⊢
            exact ite2 (fun c3=>⟨b,rfl,_,SqT.of hb,_,rfl,CF.take hk (decide_eq_true ⟨hs,c3⟩) rfl sz⟩) fun c3=>CF.skip hk (decide_eq_false fun z=>c3 z.2) sz
          · have z1:=z.1
            rw [ejk,(pt_non hw').mp (Decidable.of_not_not c2)] at z1
            cases z1
        · intro lg Hw sw hlg
          have e : (((List.range js.length).filter fun k=>decide (((tab.getD c []).getD (js.getD k 0) none).isSome = true∧(i : Int) < (ptAt (tab.getD c []) (js.getD k 0)).1)).map fun k=>V.int (ptAt (tab.getD c []) (js.getD k 0)).2) = (((List.range js.length).filter fun k=>decide (((tab.getD c []).getD (js.getD k 0) none).isSome = true∧(i : Int) < (ptAt (tab.getD c []) (js.getD k 0)).1)).map fun k=>(ptAt (tab.getD c []) (js.getD k 0)).2).map V.int:=by rw [List.map_map]; rfl
          rw [e]
          refine hR _ _ ⟨lg,_,_,rfl,upd_same,?_,fun y=>?_,g1.trans (sw.upd' hlg)⟩
          · have:=List.length_filter_le (fun k=>decide (((tab.getD c []).getD (js.getD k 0) none).isSome = true∧(i : Int) < (ptAt (tab.getD c []) (js.getD k 0)).1)) (List.range js.length)
            rw [List.length_range] at this
            rw [List.length_map]; omega
          · rw [List.mem_map]
            constructor
            · rintro ⟨k,hk,rfl⟩
              obtain ⟨k1',k2'⟩:=List.mem_filter.mp hk
              have k3:=List.mem_range.mp k1'
              have ejk : js.getD k 0 = js[k]:=by rw [List.getD_eq_getElem?_getD,List.getElem?_eq_getElem k3]; rfl
              obtain ⟨q1,q2,q3⟩:=(hjs js[k]).mp (List.getElem_mem k3)
              rw [ejk] at k2' ⊢
              have k4:=of_decide_eq_true k2'
              exact ⟨js[k],⟨q1,q2,k4.1,q3,k4.2⟩,rfl⟩
            · rintro ⟨j,⟨f1,f2,f3,f4,f5⟩,rfl⟩
              obtain ⟨k,hk,ek⟩:=List.mem_iff_getElem.mp ((hjs j).mpr ⟨f1,f2,f4⟩)
              have ejk : js.getD k 0 = j:=by rw [List.getD_eq_getElem?_getD,List.getElem?_eq_getElem hk]; exact ek
              exact ⟨k,List.mem_filter.mpr ⟨List.mem_range.mpr hk,decide_eq_true (by rw [ejk]; exact ⟨f3,f5⟩)⟩,by rw [ejk]⟩
  rintro σ H6 ⟨lb,ls,v9,rfl,hlb,hll,hLs,s6⟩
  replace hfb:=s6 _ _ hfb
  replace s1:=s1.trans s6
  clear hla s6 H5
  walk_at "rd"
  refine ⟨Nat.zero_le _,fun p zp=>?_⟩
  have g1:=(Same.refl H6).upd (o:=.lst []) zp
  refine ⟨_,eqd_empty (g1 _ _ hfb) upd_same,ite2 (fun z=>?_) fun z=>⟨Nat.zero_le _,fun p2 zp2=>?_⟩⟩
  · have e : fs = []:=by simpa using z
    subst e
    obtain ⟨b,hb⟩:=last_ex ts tab i bh
    exact k1 .non none ah bh _ hA hB ⟨none,b,fs_none hFs,hb,both_left.symm⟩ rfl (s1.trans g1)
  have nf : fs≠[]:=by simpa using z
  have g2:=(Same.refl (upd H6 p (.lst []))).upd (o:=.lst []) zp2
  have gA:=g1.trans g2
  refine ⟨_,eqd_empty (gA _ _ hlb) upd_same,ite2 (fun z=>?_) fun z=>?_⟩
  · have e : ls = []:=by simpa using z
    subst e
    obtain ⟨a,ha⟩:=first_ex ts tab i ah
    exact k1 .non none ah bh _ hA hB ⟨a,none,ha,ls_none hLs,both_right.symm⟩ rfl (s1.trans gA)
  have nl : ls≠[]:=by simpa using z
  refine ⟨fs,SqL.of (gA _ _ hfb),nf,fun m hm hmx=>⟨ls,SqL.of (gA _ _ hlb),nl,fun m2 hm2 hmx2=>⟨by decide,fun q zq=>?_⟩⟩⟩
  exact k1 (.ref q) (some (m,m2)) ah bh _ hA hB ⟨some m,some m2,fs_some hFs hm hmx,ls_some hLs hm2 hmx2,rfl⟩ ⟨q,rfl,upd_same⟩ ((s1.trans gA).upd' zq)
theorem len_filter_lt {α : Type} {p q : α→Bool} {a : α} : ∀ {l : List α},(∀ x ∈ l,p x = true→q x = true)→a ∈ l→q a = true→p a = false→(l.filter p).length < (l.filter q).length
  | [],_,h,_,_=>absurd h (by simp)
  | b :: l,hpq,h,h1,h2=>by
    have le : (l.filter p).length≤(l.filter q).length:=by
      clear h h1 h2 a
      induction l with
      | nil=>exact Nat.le_refl _
      | cons c l ih =>
        have ih:=ih fun x hx=>hpq x (by simp only [List.mem_cons] at hx ⊢; rcases hx with z | z <;> simp [z])
        by_cases c1 : p c = true
        · rw [List.filter_cons_of_pos c1,List.filter_cons_of_pos (hpq c (by simp) c1)]; simpa using ih
        · rw [List.filter_cons_of_neg c1]
          by_cases c2 : q c = true
          · rw [List.filter_cons_of_pos c2]; simp only [List.length_cons]; omega
          · rw [List.filter_cons_of_neg c2]; exact ih
    rcases List.mem_cons.mp h with z | z
    · subst z
      rw [List.filter_cons_of_neg (by rw [h2]; decide),List.filter_cons_of_pos h1]; simp only [List.length_cons]; omega
    · have ih:=len_filter_lt (fun x hx=>hpq x (List.mem_cons_of_mem _ hx)) z h1 h2
      by_cases c1 : p b = true
      · rw [List.filter_cons_of_pos c1,List.filter_cons_of_pos (hpq b (by simp) c1)]; simpa using ih
      · rw [List.filter_cons_of_neg c1]
        by_cases c2 : q b = true
        · rw [List.filter_cons_of_pos c2]; simp only [List.length_cons]; omega
        · rw [List.filter_cons_of_neg c2]; exact ih
theorem unI_kid {ns T : List Int} (hT : TreeIs ns T) {c v : Nat} (hc : c < T.length) (hv : v < T.length) (h : nth T c = v) : unI T (c : Int) < unI T (v : Int):=by
  have eT:=hT.1
  have wc:=way_cons hT (p:=c) (by omega) h
  have key : unN T c < unN T v:=by
    unfold unN
    refine len_filter_lt (a:=v) (fun o ho z=>?_) (List.mem_range.mpr hv) (decide_eq_true (.inl rfl)) (decide_eq_false fun z=>?_)
    · have ho:=List.mem_range.mp ho
      refine decide_eq_true (.inr ?_)
      rcases of_decide_eq_true z with z | z
      · subst z; rw [wc]; simp
      · obtain ⟨X,e⟩:=way_split hT _ o c (by omega) rfl z
        rw [e,wc]; simp
    · rcases z with z | z
      · subst z
        have:=congrArg List.length wc
        simp at this
      · obtain ⟨X,e⟩:=way_split hT _ v c (by omega) rfl z
        have:=congrArg List.length e
        rw [wc] at this
        simp at this
        omega
  unfold unI
  simp only [Int.toNat_natCast]
  omega
theorem kid_firstU {ns T qs : List Int} (hT : TreeIs ns T) (hpm : qs.Perm (nats (T.length : Int))) (hpw : qs.Pairwise fun x y=>unI T x≤unI T y) {k c v : Nat} (e : qs[k]? = some (v : Int)) (hc : c < T.length) (h : nth T c = v) : (c : Int) ∈ qs.take k:=by
  have eT:=hT.1
  have hvm:=hpm.mem_iff.mp (List.mem_of_getElem? e)
  obtain ⟨v',hv',ev'⟩:=List.mem_map.mp hvm
  have hvT : v < T.length:=by have:=List.mem_range.mp hv'; omega
  have hd:=unI_kid hT hc hvT h
  have hm : (c : Int) ∈ qs:=hpm.mem_iff.mpr (List.mem_map.mpr ⟨c,List.mem_range.mpr (by omega),rfl⟩)
  obtain ⟨m,hm1,em⟩:=List.getElem_of_mem hm
  obtain ⟨hk,ek⟩:=List.getElem?_eq_some_iff.mp e
  by_cases hlt : m < k
  · exact List.mem_take_iff_getElem.mpr ⟨m,by omega,em⟩
  · exfalso
    by_cases he : m = k
    · subst he
      rw [em] at ek
      rw [ek] at hd; omega
    · have:=List.pairwise_iff_getElem.mp hpw k m hk hm1 (by omega)
      rw [em,ek] at this
      omega
theorem DoneAt.newE {T ts : List Int} {tab : List (List Pt)} {v : Nat} {rs : List Pt} (hv : v < tab.length) (hl : rs.length = ts.length) (hk : ∀ c,c < T.length→nth T c = v→c≠v) (h : ∀ i,i < ts.length→∃ ah bh,AheadIs T v ah∧BehindIs T v bh∧RuledIs ts tab i ah bh (rs.getD i none)) : DoneAt T ts (tab.set v rs) v:=by
  unfold DoneAt
  rw [getD_setS hv]
  refine ⟨hl,fun i hi=>?_⟩
  obtain ⟨ah,bh,hA,hB,hR⟩:=h i hi
  exact ⟨ah,bh,hA,hB,ruled_set hA hB hk hR⟩
theorem ok__law_table {f : Addr} {fd : FuncData} (F : Fun K "_law_table" "_law_table" s__law_table f fd) (G__law_tree : Callee P w K mg base "_law_tree" 2 ["row"] (sp__law_tree K mg)) (G__law_under : Callee P w K mg base "_law_under" 2 ["tree","place"] (sp__law_under K mg)) (G__law_ruled : Callee P w K mg base "_law_ruled" 2 ["tree","text","table","place","at"] (sp__law_ruled K mg)) (L : LamD K mg "_law_table" f) (B : BM mg base) (T : Txt K mg) : FnOk P w K mg base (CXE P w) 6 f fd ["row","text"] (sp__law_table K mg):=by
  refine F.okL L B sc__law_table (fun vs H Q E h=>?_) (fun cdv A outer s H vs Q E LI hr h=>?_)
  · obtain ⟨t,x,T,ts,rfl,_⟩:=h; rfl
  obtain ⟨r,x,ns,ts,rfl,hr0,hx,h6,h16,hTb,k1⟩:=h
  refine ⟨_,(pss_cons (ps_set (i:=2) sc__law_table.nd rfl (Or.inr rfl) (pe_callF G__law_tree (hr.mono (by decide)) rfl passE (pa_cons (pv 0) pa_nil)))
      (pss_cons (ps_set (i:=3) sc__law_table.nd rfl (Or.inr rfl) (pe_compN ["place"] [none] rfl rfl rfl (pi_list (pv 0)) (fun _ _ _ _ _=>(pg_name (i:=0) (show (["place"] : List Str).Nodup from by decide +kernel) rfl (Or.inl rfl))) (fun _ _ _ _ _=>pifs_nil) (fun _ _ _ _ _=>(pe_lst pa_nil)) only_name))
      (pss_cons (ps_nox (ps_for PassesOwn.never rfl (pi_list (pe_sortR1 (Nc:=["place","tree"]) (js:=[none,some 2]) (pn:="place") (q:=lamQ "_law_table") (P:=tabP K mg "_law_table") rfl hr ⟨rfl,rfl,rfl,rfl,rfl,rfl,rfl,fun _ _ _ _ _ _=>rfl⟩ (fun _ _ _ _ _ _=>(pe_callB (call_lenK (K:=K) rfl) rfl T.b_len PySem.boot_len (pa_cons (pe_callF G__law_under ((hr.in1.in1.deeper _).mono (by decide)) rfl passE (pa_cons (pv 1) (pa_cons (pv 0) pa_nil))) pa_nil))) rfl T.b_sorted (pa_cons (pe_range1 rfl T.b_range (pa_cons (pe_callB (call_lenK (K:=K) rfl) rfl T.b_len PySem.boot_len (pa_cons (pv 0) pa_nil)) pa_nil)) pa_nil) (pk_cons (pe_lam ⟨LI.code,LI.bm,LI.ql⟩ rfl) pk_nil))) (pg_name (i:=4) sc__law_table.nd rfl (Or.inr rfl)) (pss_one (ps_asg (pe_compN ["at","tree","text","table","place"] [none,some 2,some 1,some 3,some 4] rfl rfl rfl (pi_range1 rfl T.b_range (pa_cons (pe_callB (call_lenK (K:=K) rfl) rfl T.b_len PySem.boot_len (pa_cons (pv 1) pa_nil)) pa_nil)) (fun _ _ _ _ _=>(pg_name (i:=0) (show (["at","tree","text","table","place"] : List Str).Nodup from by decide +kernel) rfl (Or.inl rfl))) (fun _ _ _ _ _=>pifs_nil) (fun _ _ _ _ _=>(pe_callF G__law_ruled (hr.mono (by decide)) rfl passE (pa_cons (pv 1) (pa_cons (pv 2) (pa_cons (pv 3) (pa_cons (pv 4) (pa_cons (pv 0) pa_nil))))))) only_name) (pg_sub (pv 3) (pv 4) set_list (fun _=>rfl))))))
      (pss_one (ps_ret (pv 3)))))),?_⟩
  have eX : (ts.map V.int).length = ts.length:=List.length_map ..
  have eN : (ns.map V.int).length = ns.length:=List.length_map ..
  walk_at "rd"
  refine ⟨r,ns,rfl,.inl (SqL.of hr0),by omega,fun t T' H1 hT s1 ht=>⟨⟨_,SqL.of (s1 _ _ hr0)⟩,?_⟩⟩
  have eT:=hT.1
  have hG : GoodT T':=⟨by omega,ns,hT⟩
  refine comp_inv (n:=ns.length) (fun j acc Hz=>∃ as : List Addr,acc = as.map V.ref∧as.length = j∧(∀ a ∈ as,Hz a = some (.lst []))∧Same H1 Hz) (Nat.lt_of_le_of_lt (show _≤1000 by omega) (by decide)) ⟨[],rfl,rfl,(fun a ha=>absurd ha (by simp)),Same.refl H1⟩ (fun j acc Hz ⟨_,_,_,_,e⟩ hj=>⟨_,_,SqL.of ((s1.trans e) _ _ hr0),nthV hj⟩) (fun acc Hz ⟨_,_,_,_,e⟩=>⟨_,SqL.of ((s1.trans e) _ _ hr0),Nat.le_of_eq eN⟩) ?_ ?_
  · rintro j w acc Hz Hw hj hla ⟨as,rfl,hal,has,sz⟩ ⟨rfl,hx⟩
    walk_at "rd"
    refine ⟨Nat.zero_le _,fun p zp=>CA.take hj hla ⟨as ++ [p],by simp,by simp [hal],fun a ha=>?_,sz.upd' zp⟩⟩
    rcases List.mem_append.mp ha with z | z
    · exact ((Same.refl _).upd zp) _ _ (has a z)
    · have : a = p:=by simpa using z
      subst this
      exact upd_same
  rintro l acc Hz ⟨as,rfl,hal,has,sz⟩ _ zl
  have gl:=(Same.refl Hz).upd (o:=.lst (as.map V.ref)) zl
  have TB : TblAt (upd Hz l (.lst (as.map V.ref))) l (List.replicate T'.length []):=⟨as,upd_same,(fun z=>by rw [has _ z] at zl; cases zl),by simp [hal,eT],fun i a ps e1 e2=>by
    have : ps = []:=by
      rw [List.getElem?_replicate] at e2
      split at e2
      · cases e2; rfl
      · cases e2
    subst this
    exact ⟨[],gl _ _ (has a (List.mem_of_getElem? e1)),rfl,fun i v p h=>by simp at h⟩⟩
  have s2:=sz.trans gl
  have zl1 : H1 l = none:=sz.free zl
  have htl : (List.replicate T'.length ([] : List Pt)).length = T'.length:=by simp
  generalize upd Hz l (.lst (as.map V.ref)) = H2 at TB s2 ⊢
  generalize List.replicate T'.length ([] : List Pt) = tab0 at TB htl
  have s02:=s1.trans s2
  have zl0 : H l = none:=s1.free zl1
  refine ⟨_,.inl (SqL.of (s02 _ _ hr0)),by omega,by omega,fun p1 hp1=>?_⟩
  rw [eN]
  have g1:=(Same.refl H2).upd' (o:=.rng 0 (ns.length : Int)) hp1
  have h1:=upd_same (H:=H2) (a:=p1) (o:=.rng 0 (ns.length : Int))
  generalize upd H2 p1 (.rng 0 (ns.length : Int)) = H4 at g1 h1 ⊢
  refine ⟨g1 _ _ (s02 _ _ hTb),fun f1 H5 zf s5 LO=>⟨_,s5 _ _ h1,by omega,by omega,LO,unI T',fun i H6 i0 i1 s6=>?_,fun ps o H3 hpm hpw s6 zo ho=>?_⟩⟩
  · obtain ⟨j,rfl⟩:=Int.eq_ofNat_of_zero_le i0
    have g6:=(g1.trans s5).trans s6
    exact ⟨t,T',j,rfl,g6 _ _ (s2 _ _ ht),hG,fun w us H7 zw hw hl s7=>⟨w,rfl,_,.inl (SqL.of hw),by rw [hl]; rfl,s7⟩⟩
  have s3 : Same H2 H3:=(g1.trans s5).trans s6
  have s03:=s02.trans s3
  have nd : ps.Nodup:=hpm.nodup_iff.mpr (nats_nodup _)
  rw [show ((ns.length : Nat) : Int) = (T'.length : Int) by omega] at hpm
  obtain ⟨as0,hla0,_⟩:=id TB
  have nlo : o≠l:=fun z=>by rw [z,(g1.trans s5) _ _ hla0] at zo; cases zo
  refine ⟨⟨_,SqL.of ho⟩,?_⟩
  refine for_list (xs:=ps.map V.int) (fun k σ Hx=>∃ (v4 : Option V) (tab : List (List Pt)),σ = [some (.ref r),some (.ref x),some (.ref t),some (.ref l),v4]∧TblAt Hx l tab∧tab.length = T'.length∧(∀ v : Nat,(v : Int) ∈ ps.take k→DoneAt T' ts tab v)∧Exc l H3 Hx) ⟨none,tab0,rfl,TB.same s3,htl,(fun v h=>absurd h (by simp)),(Same.refl H3).toExc⟩ (fun k σ Hx _ ⟨_,_,_,_,_,_,e⟩=>SqL.of (e _ _ nlo ho)) ?_ ?_
  · rintro k w σ Hx hw ⟨v4,tab,rfl,TBx,htx,hdone,ex⟩
    obtain ⟨v,rfl,hpk,hvT⟩ : ∃ v : Nat,w = V.int (v : Int)∧ps[k]? = some (v : Int)∧v < T'.length:=by
      rw [List.getElem?_map] at hw
      cases e : ps[k]? with
      | none=>rw [e] at hw; cases hw
      | some u =>
        rw [e] at hw; cases hw
        obtain ⟨v,hv,rfl⟩:=List.mem_map.mp (hpm.mem_iff.mp (List.mem_of_getElem? e))
        exact ⟨v,rfl,rfl,by have:=List.mem_range.mp hv; omega⟩
    have hv0 : (v : Int) ∉ ps.take k:=fun z=>by
      obtain ⟨m,hm,em⟩:=List.mem_take_iff_getElem.mp z
      obtain ⟨hi,ei⟩:=List.getElem?_eq_some_iff.mp hpk
      have:=(List.getElem_inj nd (h₀:=by omega) (h₁:=hi)).mp (em.trans ei.symm)
      omega
    have kidT : ∀ c,c < T'.length→nth T' c = v→(c : Int) ∈ ps.take k:=fun c hc e=>kid_firstU hT hpm hpw hpk hc e
    have kidV : ∀ c,c < T'.length→nth T' c = v→c≠v:=fun c hc e z=>hv0 (z ▸ kidT c hc e)
    have sHx : Same H Hx:=s03.exc zl0 ex
    have s1x : Same H1 Hx:=(s2.trans s3).exc zl1 ex
    have kC : ∀ c,c < T'.length→nth T' c = v→c < tab.length∧(tab.getD c []).length = ts.length:=fun c hc e=>⟨by omega,(hdone c (kidT c hc e)).1⟩
    walk_at "rd"
    refine ⟨_,.inl (SqL.of (sHx _ _ hx)),by omega,by omega,?_⟩
    rw [eX,show ((ts.length : Nat) : Int).toNat = ts.length by omega]
    refine comp_inv (n:=ts.length) (fun j acc Hz=>∃ rs : List Pt,acc.length = j∧rs.length = j∧(∀ (i : Nat) (u : V) (p : Pt),acc[i]? = some u→rs[i]? = some p→PairAt Hz u p)∧(∀ i,i < j→∃ ah bh,AheadIs T' v ah∧BehindIs T' v bh∧RuledIs ts tab i ah bh (rs.getD i none))∧Same Hx Hz) (Nat.lt_of_le_of_lt (show _≤1000 by omega) (by decide)) ⟨[],rfl,rfl,(fun i u p h=>by simp at h),(fun i h=>absurd h (by omega)),Same.refl Hx⟩ (fun j acc Hz _ hj=>hj) (fun acc Hz _=>Nat.le_refl _) ?_ ?_
    · rintro j u acc Hz Hw hj hla ⟨rs,hal,hrl,hpr,hru,sz⟩ ⟨rfl,rfl⟩
      rw [show (0 : Int) + (j : Int) = ((j : Nat) : Int) by omega]
      walk_at "rd"
      refine ⟨t,x,l,T',ts,tab,v,j,rfl,(s1x.trans sz) _ _ ht,(sHx.trans sz) _ _ hx,TBx.same sz,hG,hvT,hj,h16,kC,fun u p ah bh H5 hA hB hR hP s5=>CA.take hj hla ⟨by simp [hal],rs ++ [p],by simp [hrl],fun i u' p' e1 e2=>?_,fun i hi=>?_,sz.trans s5⟩⟩
      · by_cases c : i < j
        · rw [List.getElem?_append_left (by omega)] at e1 e2
          exact (hpr i u' p' e1 e2).same s5
        · have h1:=(List.getElem?_eq_some_iff.mp e1).1
          have : i = j:=by simp at h1; omega
          subst this
          rw [List.getElem?_append_right (by omega),hal,Nat.sub_self] at e1
          rw [List.getElem?_append_right (by omega),hrl,Nat.sub_self] at e2
          cases e1; cases e2; exact hP
      · by_cases c : i < j
        · rw [List.getD_eq_getElem?_getD,List.getElem?_append_left (by omega),← List.getD_eq_getElem?_getD]
          obtain ⟨ah',bh',hA',hB',hR'⟩:=hru i c
          exact ⟨ah',hA',bh',hB',hR'⟩
        · have : i = j:=by omega
          subst this
          rw [List.getD_eq_getElem?_getD,List.getElem?_append_right (by omega),hrl,Nat.sub_self]
          exact ⟨ah,hA,bh,hB,hR⟩
    · rintro r2 acc Hz ⟨rs,hal,hrl,hpr,hru,sz⟩ _ zr
      have gr:=(Same.refl Hz).upd (o:=.lst acc) zr
      obtain ⟨as,hla,hasn,hasl,hasp⟩:=TBx
      have hlz:=gr _ _ (sz _ _ hla)
      have hrr:=upd_same (H:=Hz) (a:=r2) (o:=.lst acc)
      have nrl : r2≠l:=fun z=>by rw [z,sz _ _ hla] at zr; cases zr
      have szr:=sz.trans gr
      generalize upd Hz r2 (.lst acc) = H6 at gr hlz hrr szr ⊢
      refine ⟨_,hlz,v,ixN_nat (by rw [List.length_map]; omega),tab.set v rs,⟨as.set v r2,by rw [upd_same,List.map_set],fun z=>?_,by simp [hasl],fun i b qs e1 e2=>?_⟩,by simp [htx],fun w hw=>?_,(ex.same szr).trans Exc.upd⟩
      · rcases List.mem_or_eq_of_mem_set z with z | z
        · exact hasn z
        · exact nrl z.symm
      · by_cases c : i = v
        · subst c
          rw [List.getElem?_set_self (by omega)] at e1 e2
          cases e1; cases e2
          exact ⟨acc,by rw [upd_ne nrl]; exact hrr,by omega,fun i u p f1 f2=>((hpr i u p f1 f2).same gr).excL hlz Exc.upd⟩
        · rw [List.getElem?_set_ne (Ne.symm c)] at e1 e2
          obtain ⟨vals,g1,g2,g3⟩:=(hasp i b qs e1 e2).same szr
          have nb : b≠l:=fun z=>hasn (z ▸ List.mem_of_getElem? e1)
          exact ⟨vals,by rw [upd_ne nb]; exact g1,g2,fun i u p f1 f2=>(g3 i u p f1 f2).excL hlz Exc.upd⟩
      · rw [List.take_succ,hpk] at hw
        rcases List.mem_append.mp hw with hw | hw
        · refine (hdone w hw).set (fun z=>hv0 (z ▸ hw)) fun c hc e z=>?_
          obtain ⟨m,hm,em⟩:=List.mem_take_iff_getElem.mp hw
          have:=kid_firstU hT hpm hpw (k:=m) (c:=c) (v:=w) (List.getElem?_eq_some_iff.mpr ⟨by omega,em⟩) hc e
          obtain ⟨m2,hm2,em2⟩:=List.mem_take_iff_getElem.mp this
          exact hv0 (z ▸ List.mem_take_iff_getElem.mpr ⟨m2,by omega,em2⟩)
        · have : w = v:=by simp at hw; omega
          subst this
          exact DoneAt.newE (by omega) hrl kidV hru
  · rintro σ Hx ⟨v4,tab,rfl,TBx,htx,hdone,ex⟩
    walk_at "rd"
    refine k1 l T' tab Hx zl0 hT TBx ⟨htx,fun v hv=>hdone v ?_⟩ (s03.exc zl0 ex)
    rw [List.take_of_length_le (by simp)]
    exact hpm.mem_iff.mpr (List.mem_map.mpr ⟨v,List.mem_range.mpr (by omega),rfl⟩)
theorem ok__law_either {f : Addr} {fd : FuncData} (F : Fun K "_law_either" "_law_either" s__law_either f fd) (G__law_take : Callee P w K mg base "_law_take" 1 ["pot","many"] (sp__law_take K mg)) (T : Txt K mg) : FnOk P w K mg base (CXE P w) 2 f fd ["pot","some"] (sp__law_either K mg):=by
  refine F.okX sc__law_either (fun vs H Q E h=>?_) (fun cdv A outer s H vs Q E hr h=>?_)
  · obtain ⟨p,r,xs,rfl,_⟩:=h; rfl
  obtain ⟨p,r,xs,rfl,hP,nrp,hr1,hn,k1⟩:=h
  refine ⟨_,(pss_one (ps_ret (pe_ix ix_tup (pe_tup (pa_cons (pe_callTy (call_listK (K:=K) rfl) rfl T.b_list bt_list (pa_cons (pv 1) pa_nil)) (pa_cons (pe_callTy (call_tupK (K:=K) rfl) rfl T.b_tuple bt_tuple (pa_cons (pv 1) pa_nil)) pa_nil))) (pe_callF G__law_take (hr.mono (by decide)) rfl passE (pa_cons (pv 0) (pa_cons pe_int pa_nil))) (fun _ _=>rfl)))),?_⟩
  walk_at "rd"
  refine ⟨_,.inl (SqL.of hr1),fun l hl=>?_⟩
  have g1:=(Same.refl H).upd (o:=.lst xs) hl
  refine ⟨_,.inl ⟨SqL.of (g1 _ _ hr1),fun l2 hl2=>⟨by decide,fun c hc=>?_⟩⟩⟩
  have g2:=(Same.refl _).upd (o:=.tup xs) hl2
  have g3:=(Same.refl _).upd (o:=.tup [V.ref l,V.ref l2]) hc
  have gg:=(g1.trans g2).trans g3
  have hl3:=(g2.trans g3) _ _ (upd_same (H:=H) (a:=l) (o:=.lst xs))
  have hl23:=g3 _ _ (upd_same (a:=l2) (o:=.tup xs) (H:=upd H l (.lst xs)))
  have nlp : l≠p:=hP.ne hl
  have nl2p : l2≠p:=(hP.same g1).ne hl2
  have ncp : c≠p:=(hP.same (g1.trans g2)).ne hc
  refine ⟨p,_,rfl,by decide,by decide,hP.same gg,fun d H2 d0 d1 P2 e2=>⟨_,d,rfl,SqT.of (e2 _ _ ncp upd_same),?_⟩⟩
  have ex:=(Same.refl H).toExc.same gg |>.trans e2
  rcases (by omega : d = 0∨d = 1) with rfl | rfl
  · exact ⟨_,rfl,k1 l H2 hl (.inl (e2 _ _ nlp hl3)) P2 ex⟩
  · exact ⟨_,rfl,k1 l2 H2 (g1.free hl2) (.inr (e2 _ _ nl2p hl23)) P2 ex⟩
theorem ok__law_pair {f : Addr} {fd : FuncData} (F : Fun K "_law_pair" "_law_pair" s__law_pair f fd) (G__law_take : Callee P w K mg base "_law_take" 1 ["pot","many"] (sp__law_take K mg)) (G__law_row : Callee P w K mg base "_law_row" 2 ["pot","most"] (sp__law_row K mg)) (T : Txt K mg) : FnOk P w K mg base (CXE P w) 3 f fd ["pot","most","wide"] (sp__law_pair K mg):=by
  refine F.okX sc__law_pair (fun vs H Q E h=>?_) (fun cdv A outer s H vs Q E hr h=>?_)
  · obtain ⟨p,m,w,rfl,_⟩:=h; rfl
  obtain ⟨p,most,wide,rfl,m1,m2,w1,w2,hP,k1⟩:=h
  refine ⟨_,(pss_cons (ps_set (i:=3) sc__law_pair.nd rfl (Or.inl rfl) (pe_slice sl_list (pe_op op_cat (pe_callF G__law_row (hr.mono (by decide)) rfl passE (pa_cons (pv 0) (pa_cons (pv 1) pa_nil))) (pe_lst (pa_cons (pe_callF G__law_take (hr.mono (by decide)) rfl passE (pa_cons (pv 0) (pa_cons pe_int pa_nil))) pa_nil))) po_none (po_some (pv 1))))
      (pss_cons (ps_set (i:=4) sc__law_pair.nd rfl (Or.inl rfl) (pe_callF G__law_row (hr.mono (by decide)) rfl passE (pa_cons (pv 0) (pa_cons (pv 2) pa_nil))))
      (pss_cons (ps_if (pt_cmpR op_eq (pe_callF G__law_take (hr.mono (by decide)) rfl passE (pa_cons (pv 0) (pa_cons pe_int pa_nil))) pe_int (nomark _)) (pss_one (ps_setCN (i:=4) ["turn","pot"] [none,some 0] sc__law_pair.nd rfl (Or.inl rfl) rfl rfl rfl (pi_range1 rfl T.b_range (pa_cons (pe_callF G__law_take (hr.mono (by decide)) rfl passE (pa_cons (pv 0) (pa_cons (pe_op op_add (pv 2) pe_int) pa_nil))) pa_nil)) (fun _ _ _ _ _=>(pg_name (i:=0) (show (["turn","pot"] : List Str).Nodup from by decide +kernel) rfl (Or.inl rfl))) (fun _ _ _ _ _=>pifs_nil) (fun _ _ _ _ _=>(pe_callF G__law_take (hr.mono (by decide)) rfl passE (pa_cons (pv 1) (pa_cons pe_int pa_nil)))) only_name)) pss_nil)
      (pss_one (ps_ret (pe_tup (pa_cons (pv 3) (pa_cons (pv 4) pa_nil)))))))),?_⟩
  walk_at "rd"
  refine ⟨p,most,rfl,by omega,by omega,hP,fun r0 ns0 H1 z0 l0 h0 P1 e1=>⟨p,3,rfl,by decide,by decide,P1,fun d H2 d0 d1 P2 e2=>⟨by decide,fun q1 hq1=>⟨r0,rfl,ns0.map V.int,?_,[V.int d],upd_same,?_,fun q2 hq2=>⟨_,SqL.of upd_same,fun q3 hq3=>?_⟩⟩⟩⟩⟩
  · have h2:=e2 _ _ (hP.ne z0) h0
    rw [upd_ne (fun z=>by rw [z,hq1] at h2; cases h2)]; exact h2
  · exact Nat.le_of_lt (Nat.lt_of_le_of_lt (show _≤1000 by simp; omega) (by decide))
  have ec : cutV (ns0.map V.int ++ [V.int d]) none (some most) = ((ns0 ++ [d]).take most.toNat).map V.int:=by
    have:=cut_to (ns0.map V.int ++ [V.int d]) most.toNat
    rw [show ((most.toNat : Nat) : Int) = most by omega] at this
    rw [this]; simp [List.map_take]
  rw [ec]
  have g1:=(Same.refl H2).upd (o:=.lst [V.int d]) hq1
  have g2:=(Same.refl _).upd (o:=.lst (ns0.map V.int ++ [V.int d])) hq2
  have g3:=(Same.refl _).upd (o:=.lst (((ns0 ++ [d]).take most.toNat).map V.int)) hq3
  have gg:=(g1.trans g2).trans g3
  have h3 : upd (upd (upd H2 q1 (.lst [V.int d])) q2 (.lst (ns0.map V.int ++ [V.int d]))) q3 (.lst (((ns0 ++ [d]).take most.toNat).map V.int)) q3 = some (.lst (((ns0 ++ [d]).take most.toNat).map V.int)):=upd_same
  have zq3 : H2 q3 = none:=(g1.trans g2).free hq3
  have ee : Exc p H H2:=e1.trans e2
  have zq0 : H q3 = none:=ee.free (P2.ne zq3) zq3
  have nq3 : q3≠p:=P2.ne zq3
  have l1 : 0 < ((ns0 ++ [d]).take most.toNat).length:=by simp; omega
  have l2 : (((ns0 ++ [d]).take most.toNat).length : Int)≤most:=by simp; omega
  generalize (ns0 ++ [d]).take most.toNat = ns at h3 l1 l2 gg ⊢
  generalize upd (upd (upd H2 q1 (.lst [V.int d])) q2 (.lst (ns0.map V.int ++ [V.int d]))) q3 (.lst (ns.map V.int)) = H3 at h3 gg ⊢
  have P3:=P2.same gg
  have e3 : Exc p H H3:=ee.same gg
  refine ⟨p,wide,rfl,by omega,by omega,P3,fun x0 ts0 H4 zx lx hx P4 e4=>⟨p,3,rfl,by decide,by decide,P4,fun d2 H5 _ _ P5 e5=>⟨rfl,?_⟩⟩⟩
  have e35:=e4.trans e5
  have e05:=e3.trans e35
  have h5:=e35 _ _ nq3 h3
  have nxp : x0≠p:=P3.ne zx
  have zx0 : H x0 = none:=e3.free nxp zx
  refine ite2 (fun _=>?_) fun _=>?_
  · refine ⟨p,wide + 1,rfl,by omega,by omega,P5,fun d3 H6 d4 d5 P6 e6=>⟨d3,rfl,by omega,by omega,?_⟩⟩
    obtain ⟨n3,rfl⟩:=Int.eq_ofNat_of_zero_le d4
    rw [show ((n3 : Nat) : Int).toNat = n3 by omega]
    refine comp_inv (n:=n3) (fun j acc Hz=>∃ ts : List Int,acc = ts.map V.int∧ts.length = j∧PotAt Hz p∧Exc p H6 Hz) (Nat.lt_of_le_of_lt (show _≤1000 by omega) (by decide)) ⟨[],rfl,rfl,P6,(Same.refl _).toExc⟩ (fun j acc Hz _ hj=>hj) (fun acc Hz _=>Nat.le_refl _) ?_ ?_
    · rintro j u acc Hz Hw hj hla ⟨ts,rfl,htl,Pz,ez⟩ ⟨rfl,rfl⟩
      walk_at "rd"
      exact ⟨p,4,rfl,by decide,by decide,Pz,fun d6 H7 _ _ P7 e7=>CA.take hj hla ⟨ts ++ [d6],by simp,by simp [htl],P7,ez.trans e7⟩⟩
    · rintro x1 acc Hz ⟨ts,rfl,htl,Pz,ez⟩ _ zx1
      have gl:=(Same.refl Hz).upd (o:=.lst (ts.map V.int)) zx1
      refine ⟨by decide,fun q4 hq4=>?_⟩
      have g4:=(Same.refl _).upd (o:=.tup [V.ref q3,V.ref x1]) hq4
      have e0z:=(e05.trans e6).trans ez
      exact k1 q4 q3 x1 ns ts _ zq0 (e0z.free (Pz.ne zx1) zx1) l1 l2 (by omega) ((gl.trans g4) _ _ (ez _ _ nq3 (e6 _ _ nq3 h5))) (g4 _ _ upd_same) upd_same (Pz.same (gl.trans g4)) (e0z.same (gl.trans g4))
  · refine ⟨by decide,fun q4 hq4=>?_⟩
    have g4:=(Same.refl _).upd (o:=.tup [V.ref q3,V.ref x0]) hq4
    exact k1 q4 q3 x0 ns ts0 _ zq0 zx0 l1 l2 lx (g4 _ _ h5) (g4 _ _ (e5 _ _ nxp hx)) upd_same (P5.same g4) (e05.same g4)
/-- the lines copied: fresh lists,no two the same -/
def NewLines (H1 H2 : Hp) (m : Addr) (bs : List Addr) (tb : List (List Pt)) : Prop:=H1 m = none∧Same H1 H2∧H2 m = some (.lst (bs.map V.ref))∧bs.length = tb.length∧(∀ (i : Nat) (b : Addr) (ps : List Pt),bs[i]? = some b→tb[i]? = some ps→PtsAt H2 b ps)∧(∀ b ∈ bs,H1 b = none∧b≠m)∧bs.Nodup
theorem comp_lofJ {K : PySem.W.Frag} {H1 : Hp} {J : It} {as : List Addr} {tb : List (List Pt)} {Q : VK} (hal : as.length = tb.length) (hn : tb.length≤1000) (hap : ∀ (i : Nat) (a : Addr) (ps : List Pt),as[i]? = some a→tb[i]? = some ps→SqPts K H1 a ps)
    (hgo : ∀ (j : Nat) Hz,Same H1 Hz→j < as.length→J.go j Hz) (hst : ∀ Hz,Same H1 Hz→J.stop as.length Hz) (hy : ∀ (j : Nat) Hz w Hw,Same H1 Hz→J.yld j Hz w Hw→Hw = Hz∧(j < as.length→∃ a,as[j]? = some a∧w = .ref a))
    (k : ∀ (m : Addr) (bs : List Addr) (H2 : Hp),NewLines H1 H2 m bs tb→Q (.ref m) H2) : CompR J (gName 0) tYes (tCB (rLof K) (tCons (tVar 0) tNil)) [none] Q H1:=by
  refine comp_inv (n:=as.length) (fun j acc Hz=>∃ bs : List Addr,acc = bs.map V.ref∧bs.length = j∧(∀ (i : Nat) (b : Addr) (ps : List Pt),bs[i]? = some b→tb[i]? = some ps→PtsAt Hz b ps)∧(∀ b ∈ bs,H1 b = none∧Hz b≠none)∧bs.Nodup∧Same H1 Hz) (Nat.lt_of_le_of_lt (show _≤1000 by omega) (by decide)) ⟨[],rfl,rfl,(fun i b ps h=>by simp at h),(fun b h=>by simp at h),List.nodup_nil,Same.refl H1⟩ (fun j acc Hz ⟨_,_,_,_,_,_,e⟩ hj=>hgo j Hz e hj) (fun acc Hz ⟨_,_,_,_,_,_,e⟩=>hst Hz e) ?_ ?_
  · rintro j w acc Hz Hw hj hla ⟨bs,rfl,hbl,hbp,hbn,hbd,sz⟩ hyy
    obtain ⟨rfl,hz⟩:=hy j _ _ _ sz hyy
    obtain ⟨a,ea,rfl⟩:=hz hj
    obtain ⟨vals,hv1,hv2,hv3⟩:=(hap j a (tb[j]'(by omega)) ea (List.getElem?_eq_getElem (by omega))).same sz
    walk_at "rd"
    refine ⟨_,hv1,fun q zq=>CA.take hj hla ⟨bs ++ [q],by simp,by simp [hbl],fun i b ps' e1 e2=>?_,fun b hb=>?_,?_,sz.upd' zq⟩⟩
    · have gq:=(Same.refl Hw).upd (o:=.lst vals) zq
      by_cases c : i < j
      · rw [List.getElem?_append_left (by omega)] at e1
        exact (hbp i b ps' e1 e2).same gq
      · have h1:=(List.getElem?_eq_some_iff.mp e1).1
        have : i = j:=by simp at h1; omega
        subst this
        rw [List.getElem?_append_right (by omega),hbl,Nat.sub_self] at e1
        rw [List.getElem?_eq_getElem (by omega)] at e2
        cases e1; cases e2
        exact ⟨vals,upd_same,hv2,fun i v p f1 f2=>(hv3 i v p f1 f2).same gq⟩
    · rcases List.mem_append.mp hb with z | z
      · have:=hbn b z
        refine ⟨this.1,?_⟩
        rw [upd_ne (show b≠q from fun y=>this.2 (y ▸ zq))]; exact this.2
      · have : b = q:=by simpa using z
        subst this
        exact ⟨sz.free zq,by rw [upd_same]; simp⟩
    · rw [List.nodup_append]
      refine ⟨hbd,by simp,fun b hb c hc=>?_⟩
      have : c = q:=by simpa using hc
      subst this
      exact fun y=>(hbn b hb).2 (y ▸ zq)
  · rintro m acc Hz ⟨bs,rfl,hbl,hbp,hbn,hbd,sz⟩ _ zm
    have gm:=(Same.refl Hz).upd (o:=.lst (bs.map V.ref)) zm
    exact k m bs _ ⟨sz.free zm,sz.upd' zm,upd_same,by omega,fun i b ps e1 e2=>(hbp i b ps e1 e2).same gm,fun b hb=>⟨(hbn b hb).1,fun y=>(hbn b hb).2 (y ▸ zm)⟩,hbd⟩
theorem comp_lofL {K : PySem.W.Frag} {H1 : Hp} {l : Addr} {as : List Addr} {tb : List (List Pt)} {Q : VK} (hl : SqL K H1 l (as.map V.ref)) (hal : as.length = tb.length) (hn : tb.length≤1000) (hap : ∀ (i : Nat) (a : Addr) (ps : List Pt),as[i]? = some a→tb[i]? = some ps→SqPts K H1 a ps)
    (k : ∀ (m : Addr) (bs : List Addr) (H2 : Hp),NewLines H1 H2 m bs tb→Q (.ref m) H2) : CompR (Itl K l) (gName 0) tYes (tCB (rLof K) (tCons (tVar 0) tNil)) [none] Q H1:=by
  refine comp_lofJ hal hn hap (fun j Hz e hj=>⟨_,_,e.seq hl,List.getElem?_eq_getElem (by simpa using hj)⟩) (fun Hz e=>⟨_,e.seq hl,by simp⟩) (fun j Hz w Hw e ⟨h1,h2⟩=>⟨h1,fun hj=>?_⟩) k
  have exx:=h2 _ (e.seq hl)
  rw [List.getElem?_map,List.getElem?_eq_getElem hj] at exx
  cases exx
  exact ⟨_,List.getElem?_eq_getElem hj,rfl⟩
theorem comp_lofT {K : PySem.W.Frag} {H1 : Hp} {l : Addr} {as : List Addr} {tb : List (List Pt)} {Q : VK} (hl : SqT K H1 l (as.map V.ref)) (hal : as.length = tb.length) (hn : tb.length≤1000) (hap : ∀ (i : Nat) (a : Addr) (ps : List Pt),as[i]? = some a→tb[i]? = some ps→SqPts K H1 a ps)
    (k : ∀ (m : Addr) (bs : List Addr) (H2 : Hp),NewLines H1 H2 m bs tb→Q (.ref m) H2) : CompR (Itt K l) (gName 0) tYes (tCB (rLof K) (tCons (tVar 0) tNil)) [none] Q H1:=by
  refine comp_lofJ hal hn hap (fun j Hz e hj=>⟨_,_,e.seqT hl,List.getElem?_eq_getElem (by simpa using hj)⟩) (fun Hz e=>⟨_,e.seqT hl,by simp⟩) (fun j Hz w Hw e ⟨h1,h2⟩=>⟨h1,fun hj=>?_⟩) k
  have exx:=h2 _ (e.seqT hl)
  rw [List.getElem?_map,List.getElem?_eq_getElem hj] at exx
  cases exx
  exact ⟨_,List.getElem?_eq_getElem hj,rfl⟩
theorem PtsAt.sq {K : PySem.W.Frag} {H : Hp} {a : Addr} {ps : List Pt} (h : PtsAt H a ps) : SqPts K H a ps:=by
  obtain ⟨vals,h1,h2,h3⟩:=h
  exact ⟨vals,.inl (SqL.of h1),h2,h3⟩
theorem ok__law_is_table {f : Addr} {fd : FuncData} (F : Fun K "_law_is_table" "_law_is_table" s__law_is_table f fd) (G__law_table : Callee P w K mg base "_law_table" 6 ["row","text"] (sp__law_table K mg)) (T : Txt K mg) : FnOk P w K mg base (CXE P w) 7 f fd ["row","text","table"] (sp__law_is_table K mg):=by
  refine F.okX sc__law_is_table (fun vs H Q E h=>?_) (fun cdv A outer s H vs Q E hr h=>?_)
  · obtain ⟨r,x,l,ns,ts,tb,rfl,_⟩:=h; rfl
  obtain ⟨r,x,l,ns,ts,tb,rfl,hr0,hx,TB,htb,hlb,h6,h16,hTb,k1⟩:=h
  refine ⟨_,(pss_one (ps_ret (pe_cmpR (op_eqN (K:=K) rfl hr) (pe_compN ["line"] [none] rfl rfl rfl (pi_list (pv 2)) (fun _ _ _ _ _=>(pg_name (i:=0) (show (["line"] : List Str).Nodup from by decide +kernel) rfl (Or.inl rfl))) (fun _ _ _ _ _=>pifs_nil) (fun _ _ _ _ _=>(pe_callTy (call_listK (K:=K) rfl) rfl T.b_list bt_list (pa_cons (pv 0) pa_nil))) only_name) (pe_callF G__law_table (hr.mono (by decide)) rfl passE (pa_cons (pv 0) (pa_cons (pv 1) pa_nil))) (nomark _)))),?_⟩
  walk_at "rd"
  obtain ⟨as,h1,h2,h3,h4⟩:=TB
  refine ⟨⟨_,SqL.of h1⟩,comp_lofL (SqL.of h1) h3 htb (fun i a ps e1 e2=>(h4 i a ps e1 e2).sq) fun m bs H2 ⟨zm,s2,hm,hbl,hbp,_,_⟩=>?_⟩
  refine ⟨r,x,ns,ts,rfl,s2 _ _ hr0,s2 _ _ hx,h6,h16,s2 _ _ hTb,fun l2 T2 tab H3 zl hT TB2 hI s3=>⟨m,rfl,l2,rfl,_,?_,k1 T2 tab H3 hT hI (s2.trans s3)⟩⟩
  obtain ⟨cs,g1,g2,g3,g4⟩:=TB2
  exact tbl_eq (s3 _ _ hm) hbl (fun i b ps e1 e2=>(hbp i b ps e1 e2).same s3) g1 g3 g4
theorem ok__law_pair_bent {f : Addr} {fd : FuncData} (F : Fun K "_law_pair_bent" "_law_pair_bent" s__law_pair_bent f fd) (G__law_take : Callee P w K mg base "_law_take" 1 ["pot","many"] (sp__law_take K mg)) (T : Txt K mg) : FnOk P w K mg base (CXE P w) 2 f fd ["pot","pair","many"] (sp__law_pair_bent K mg):=by
  refine F.okX sc__law_pair_bent (fun vs H Q E h=>?_) (fun cdv A outer s H vs Q E hr h=>?_)
  · obtain ⟨p,u,pr,m,rfl,_⟩:=h; rfl
  obtain ⟨p,u,pr,many,rfl,m0,m1,hP,hu,k1⟩:=h
  refine ⟨_,(pss_cons (ps_if (pt_cmpR op_isN (pv 1) pe_non (nomark _)) (pss_one (ps_ret (pe_tup (pa_cons (pe_callF G__law_take (hr.mono (by decide)) rfl passE (pa_cons (pv 0) (pa_cons (pe_op op_add (pv 2) pe_int) pa_nil))) (pa_cons (pe_callF G__law_take (hr.mono (by decide)) rfl passE (pa_cons (pv 0) (pa_cons (pe_op op_add (pv 2) pe_int) pa_nil))) pa_nil))))) pss_nil)
      (pss_cons (ps_set (i:=3) sc__law_pair_bent.nd rfl (Or.inl rfl) (pe_callF G__law_take (hr.mono (by decide)) rfl passE (pa_cons (pv 0) (pa_cons pe_int pa_nil))))
      (pss_cons (ps_if (pt_cmpR op_eq (pv 3) pe_int (nomark _)) (pss_one (ps_ret pe_non)) pss_nil)
      (pss_cons (ps_set (i:=4) sc__law_pair_bent.nd rfl (Or.inl rfl) (pe_lst (pa_cons (pe_tup (pa_cons (pe_op op_add (pe_ix ix_tup (pv 1) pe_int (fun _ _=>rfl)) pe_int) (pa_cons (pe_ix ix_tup (pv 1) pe_int (fun _ _=>rfl)) pa_nil))) (pa_cons (pe_tup (pa_cons (pe_op op_sub (pe_ix ix_tup (pv 1) pe_int (fun _ _=>rfl)) pe_int) (pa_cons (pe_ix ix_tup (pv 1) pe_int (fun _ _=>rfl)) pa_nil))) (pa_cons (pe_tup (pa_cons (pe_ix ix_tup (pv 1) pe_int (fun _ _=>rfl)) (pa_cons (pe_op op_add (pe_ix ix_tup (pv 1) pe_int (fun _ _=>rfl)) pe_int) pa_nil))) (pa_cons (pe_tup (pa_cons (pe_ix ix_tup (pv 1) pe_int (fun _ _=>rfl)) (pa_cons (pe_op op_sub (pe_ix ix_tup (pv 1) pe_int (fun _ _=>rfl)) pe_int) pa_nil))) pa_nil))))))
      (pss_one (ps_ret (pe_ix ix_list (pe_op (op_catK (K:=K) rfl) (pv 4) (pe_lst (pa_cons (pe_tup (pa_cons (pe_un un_neg (pe_op op_pow pe_int pe_int)) (pa_cons (pe_ix ix_tup (pv 1) pe_int (fun _ _=>rfl)) pa_nil))) pa_nil))) (pe_op op_sub (pv 3) pe_int) (fun _ _=>rfl)))))))),?_⟩
  walk_at "rd"
  cases pr with
  | none =>
    cases (show u = V.non from hu)
    rw [if_pos rfl]
    refine ⟨p,_,rfl,by omega,by omega,hP,fun d H1 _ _ P1 e1=>⟨p,_,rfl,by omega,by omega,P1,fun d2 H2 _ _ P2 e2=>⟨by decide,fun q hq=>?_⟩⟩⟩
    have g:=(Same.refl H2).upd (o:=.tup [V.int d,V.int d2]) hq
    exact k1 (.ref q) (some (d,d2)) _ ⟨q,rfl,upd_same⟩ (P2.same g) ((e1.trans e2).same g)
  | some z =>
    obtain ⟨a,rfl,ha⟩:=hu
    rw [if_neg (by simp)]
    refine ⟨p,_,rfl,by decide,by decide,hP,fun d H1 d0 d1 P1 e1=>⟨rfl,ite2 (fun _=>k1 .non none H1 rfl P1 e1) fun nd=>?_⟩⟩
    have nap : a≠p:=fun y=>by
      obtain ⟨_,hp,_⟩:=hP
      rw [y,hp] at ha; cases ha
    have nd0 : d≠0:=fun y=>nd (by rw [y])
    have h1:=e1 _ _ nap ha
    refine ⟨a,rfl,_,SqT.of h1,_,rfl,_,rfl,a,rfl,_,SqT.of h1,_,rfl,by decide,fun q1 hq1=>?_⟩
    have g1:=(Same.refl H1).upd (o:=.tup [V.int (z.1 + 1),V.int z.2]) hq1
    have t1:=upd_same (H:=H1) (a:=q1) (o:=.tup [V.int (z.1 + 1),V.int z.2])
    generalize upd H1 q1 (.tup [V.int (z.1 + 1),V.int z.2]) = H2 at g1 t1 ⊢
    refine ⟨a,rfl,_,SqT.of (g1 _ _ h1),_,rfl,_,rfl,a,rfl,_,SqT.of (g1 _ _ h1),_,rfl,by decide,fun q2 hq2=>?_⟩
    have g2:=(Same.refl H2).upd (o:=.tup [V.int (z.1 - 1),V.int z.2]) hq2
    have t2:=upd_same (H:=H2) (a:=q2) (o:=.tup [V.int (z.1 - 1),V.int z.2])
    generalize upd H2 q2 (.tup [V.int (z.1 - 1),V.int z.2]) = H3 at g2 t2 ⊢
    have g12:=g1.trans g2
    refine ⟨a,rfl,_,SqT.of (g12 _ _ h1),_,rfl,a,rfl,_,SqT.of (g12 _ _ h1),_,rfl,_,rfl,by decide,fun q3 hq3=>?_⟩
    have g3:=(Same.refl H3).upd (o:=.tup [V.int z.1,V.int (z.2 + 1)]) hq3
    have t3:=upd_same (H:=H3) (a:=q3) (o:=.tup [V.int z.1,V.int (z.2 + 1)])
    generalize upd H3 q3 (.tup [V.int z.1,V.int (z.2 + 1)]) = H4 at g3 t3 ⊢
    have g13:=g12.trans g3
    refine ⟨a,rfl,_,SqT.of (g13 _ _ h1),_,rfl,a,rfl,_,SqT.of (g13 _ _ h1),_,rfl,_,rfl,by decide,fun q4 hq4=>?_⟩
    have g4:=(Same.refl H4).upd (o:=.tup [V.int z.1,V.int (z.2 - 1)]) hq4
    have t4:=upd_same (H:=H4) (a:=q4) (o:=.tup [V.int z.1,V.int (z.2 - 1)])
    generalize upd H4 q4 (.tup [V.int z.1,V.int (z.2 - 1)]) = H5 at g4 t4 ⊢
    have g14:=g13.trans g4
    refine ⟨by decide,fun q5 hq5=>?_⟩
    have g5:=(Same.refl H5).upd (o:=.lst [V.ref q1,V.ref q2,V.ref q3,V.ref q4]) hq5
    have t5:=upd_same (H:=H5) (a:=q5) (o:=.lst [V.ref q1,V.ref q2,V.ref q3,V.ref q4])
    generalize upd H5 q5 (.lst [V.ref q1,V.ref q2,V.ref q3,V.ref q4]) = H6 at g5 t5 ⊢
    have g15:=g14.trans g5
    refine ⟨by unfold CPow; decide,a,rfl,_,SqT.of (g15 _ _ h1),_,rfl,by decide,fun q6 hq6=>?_⟩
    generalize ew : (-10 ^ Int.toNat 59 : Int) = wild at hq6 ⊢
    have g6:=(Same.refl H6).upd (o:=.tup [V.int wild,V.int z.2]) hq6
    have t6:=upd_same (H:=H6) (a:=q6) (o:=.tup [V.int wild,V.int z.2])
    generalize upd H6 q6 (.tup [V.int wild,V.int z.2]) = H7 at g6 t6 ⊢
    refine ⟨by decide,fun q7 hq7=>?_⟩
    have g7:=(Same.refl H7).upd (o:=.lst [V.ref q6]) hq7
    have t7:=upd_same (H:=H7) (a:=q7) (o:=.lst [V.ref q6])
    generalize upd H7 q7 (.lst [V.ref q6]) = H8 at g7 t7 ⊢
    refine ⟨_,SqL.of ((g6.trans g7) _ _ t5),_,SqL.of t7,show 5≤sizeLine by decide,fun q8 hq8=>?_⟩
    have g8:=(Same.refl H8).upd (o:=.lst ([V.ref q1,V.ref q2,V.ref q3,V.ref q4] ++ [V.ref q6])) hq8
    have t8:=upd_same (H:=H8) (a:=q8) (o:=.lst ([V.ref q1,V.ref q2,V.ref q3,V.ref q4] ++ [V.ref q6]))
    generalize upd H8 q8 (.lst ([V.ref q1,V.ref q2,V.ref q3,V.ref q4] ++ [V.ref q6])) = H9 at g8 t8 ⊢
    refine ⟨d,rfl,_,SqL.of t8,?_⟩
    have gg:=((g15.trans g6).trans g7).trans g8
    have PP:=P1.same gg
    have ee:=e1.same gg
    have g58:=(g5.trans g6).trans (g7.trans g8)
    rcases (by omega : d = 1∨d = 2∨d = 3∨d = 4∨d = 5) with rfl | rfl | rfl | rfl | rfl
    · exact ⟨_,rfl,k1 (.ref q1) (some (z.1 + 1,z.2)) H9 ⟨q1,rfl,((g2.trans g3).trans (g4.trans g58)) _ _ t1⟩ PP ee⟩
    · exact ⟨_,rfl,k1 (.ref q2) (some (z.1 - 1,z.2)) H9 ⟨q2,rfl,(g3.trans (g4.trans g58)) _ _ t2⟩ PP ee⟩
    · exact ⟨_,rfl,k1 (.ref q3) (some (z.1,z.2 + 1)) H9 ⟨q3,rfl,(g4.trans g58) _ _ t3⟩ PP ee⟩
    · exact ⟨_,rfl,k1 (.ref q4) (some (z.1,z.2 - 1)) H9 ⟨q4,rfl,g58 _ _ t4⟩ PP ee⟩
    · exact ⟨_,rfl,k1 (.ref q6) (some (wild,z.2)) H9 ⟨q6,rfl,(g7.trans g8) _ _ t6⟩ PP ee⟩
theorem PtsAt.exc {H H' : Hp} {a p : Addr} {ps : List Pt} (h : PtsAt H a ps) (n : a≠p) (P : PotAt H p) (e : Exc p H H') : PtsAt H' a ps:=by
  obtain ⟨vals,h1,h2,h3⟩:=h
  obtain ⟨x,hx,_⟩:=P
  exact ⟨vals,e _ _ n h1,h2,fun i v q e1 e2=>(h3 i v q e1 e2).excL hx e⟩
/-- a table being bent -/
def Bent (H Hx : Hp) (p m : Addr) (bs : List Addr) (tb : List (List Pt)) : Prop:=Hx m = some (.lst (bs.map V.ref))∧bs.length = tb.length∧(∀ (i : Nat) (b : Addr) (ps : List Pt),bs[i]? = some b→tb[i]? = some ps→PtsAt Hx b ps)∧(∀ b ∈ bs,H b = none∧b≠m∧b≠p)∧bs.Nodup∧H m = none∧m≠p∧PotAt Hx p∧Exc p H Hx
theorem Bent.of {H Hx : Hp} {p m : Addr} {bs : List Addr} {tb : List (List Pt)} (N : NewLines H Hx m bs tb) (P : PotAt H p) : Bent H Hx p m bs tb:=by
  obtain ⟨z,s,h1,h2,h3,h4,h5⟩:=N
  exact ⟨h1,h2,h3,fun b hb=>⟨(h4 b hb).1,(h4 b hb).2,P.ne (h4 b hb).1⟩,h5,z,P.ne z,P.same s,s.toExc⟩
theorem Bent.exc {H Hx Hy : Hp} {p m : Addr} {bs : List Addr} {tb : List (List Pt)} (B : Bent H Hx p m bs tb) (P : PotAt Hy p) (e : Exc p Hx Hy) : Bent H Hy p m bs tb:=by
  obtain ⟨h1,h2,h3,h4,h5,h6,h7,h8,h9⟩:=B
  exact ⟨e _ _ h7 h1,h2,fun i b ps e1 e2=>(h3 i b ps e1 e2).exc (h4 b (List.mem_of_getElem? e1)).2.2 h8 e,h4,h5,h6,h7,P,h9.trans e⟩
theorem Bent.same {H Hx Hy : Hp} {p m : Addr} {bs : List Addr} {tb : List (List Pt)} (B : Bent H Hx p m bs tb) (s : Same Hx Hy) : Bent H Hy p m bs tb:=B.exc (B.2.2.2.2.2.2.2.1.same s) s.toExc
theorem Bent.tbl {H Hx : Hp} {p m : Addr} {bs : List Addr} {tb : List (List Pt)} (B : Bent H Hx p m bs tb) : TblAt Hx m tb:=⟨bs,B.1,fun z=>(B.2.2.2.1 m z).2.1 rfl,B.2.1,B.2.2.1⟩
/-- a line changed -/
theorem Bent.line {H Hx Hy : Hp} {p m b : Addr} {bs : List Addr} {tb : List (List Pt)} {j : Nat} {ps : List Pt} {vals : List V} (B : Bent H Hx p m bs tb) (ej : bs[j]? = some b) (hv : vals.length = ps.length) (hp : ∀ (i : Nat) (v : V) (q : Pt),vals[i]? = some v→ps[i]? = some q→PairAt Hx v q) (ey : Hy = upd Hx b (.lst vals)) : Bent H Hy p m bs (tb.set j ps):=by
  subst ey
  obtain ⟨h1,h2,h3,h4,h5,h6,h7,h8,h9⟩:=B
  have hb:=h4 b (List.mem_of_getElem? ej)
  obtain ⟨hj,ej'⟩:=List.getElem?_eq_some_iff.mp ej
  obtain ⟨v0,hb0,_⟩:=h3 j b (tb[j]'(by omega)) ej (List.getElem?_eq_getElem (by omega))
  refine ⟨by rw [upd_ne (Ne.symm hb.2.1)]; exact h1,by simp [h2],fun i c qs e1 e2=>?_,h4,h5,h6,h7,h8.updN hb.2.2,fun c o n z=>by rw [upd_ne (fun y=>by rw [y,hb.1] at z; cases z)]; exact h9 c o n z⟩
  by_cases c1 : i = j
  · subst c1
    rw [ej] at e1; cases e1
    rw [List.getElem?_set_self (by omega)] at e2; cases e2
    exact ⟨vals,upd_same,hv,fun i v q f1 f2=>(hp i v q f1 f2).excL hb0 Exc.upd⟩
  · rw [List.getElem?_set_ne (Ne.symm c1)] at e2
    have ncb : c≠b:=fun y=>by
      subst y
      obtain ⟨hi,ei⟩:=List.getElem?_eq_some_iff.mp e1
      exact c1 ((List.getElem_inj h5 (h₀:=hi) (h₁:=hj)).mp (ei.trans ej'.symm))
    obtain ⟨vs,g1,g2,g3⟩:=h3 i c qs e1 e2
    exact ⟨vs,by rw [upd_ne ncb]; exact g1,g2,fun i v q f1 f2=>(g3 i v q f1 f2).excL hb0 Exc.upd⟩
theorem tbl_new {Hx Hy : Hp} {m : Addr} {bs : List Addr} {tb : List (List Pt)} (zm : Hx m = none) (s : Same Hx Hy) (hm : Hy m = some (.lst (bs.map V.ref))) (hl : bs.length = tb.length) (hp : ∀ (i : Nat) (b : Addr) (ps : List Pt),bs[i]? = some b→tb[i]? = some ps→PtsAt Hx b ps) : TblAt Hy m tb:=by
  refine ⟨bs,hm,fun z=>?_,hl,fun i b ps e1 e2=>(hp i b ps e1 e2).same s⟩
  obtain ⟨i,hi,ei⟩:=List.getElem_of_mem z
  obtain ⟨vals,h1,_⟩:=hp i m (tb[i]'(by omega)) (List.getElem?_eq_some_iff.mpr ⟨hi,ei⟩) (List.getElem?_eq_getElem (by omega))
  rw [zm] at h1; cases h1
theorem sel_app {R : Addr→List Pt→Prop} {b1 b2 : List Addr} {t1 t2 : List (List Pt)} (h : b1.length = t1.length) (h1 : ∀ (i : Nat) (b : Addr) (ps : List Pt),b1[i]? = some b→t1[i]? = some ps→R b ps) (h2 : ∀ (i : Nat) (b : Addr) (ps : List Pt),b2[i]? = some b→t2[i]? = some ps→R b ps) (i : Nat) (b : Addr) (ps : List Pt) (e1 : (b1 ++ b2)[i]? = some b) (e2 : (t1 ++ t2)[i]? = some ps) : R b ps:=by
  by_cases c : i < b1.length
  · rw [List.getElem?_append_left c] at e1
    rw [List.getElem?_append_left (by omega)] at e2
    exact h1 i b ps e1 e2
  · rw [List.getElem?_append_right (by omega)] at e1
    rw [List.getElem?_append_right (by omega),← h] at e2
    exact h2 _ b ps e1 e2
theorem sel_take {R : Addr→List Pt→Prop} {b1 : List Addr} {t1 : List (List Pt)} {n : Nat} (h1 : ∀ (i : Nat) (b : Addr) (ps : List Pt),b1[i]? = some b→t1[i]? = some ps→R b ps) (i : Nat) (b : Addr) (ps : List Pt) (e1 : (b1.take n)[i]? = some b) (e2 : (t1.take n)[i]? = some ps) : R b ps:=by
  rw [List.getElem?_take] at e1 e2
  split at e1
  · rename_i c
    rw [if_pos c] at e2
    exact h1 i b ps e1 e2
  · cases e1
theorem sel_drop {R : Addr→List Pt→Prop} {b1 : List Addr} {t1 : List (List Pt)} {n : Nat} (h1 : ∀ (i : Nat) (b : Addr) (ps : List Pt),b1[i]? = some b→t1[i]? = some ps→R b ps) (i : Nat) (b : Addr) (ps : List Pt) (e1 : (b1.drop n)[i]? = some b) (e2 : (t1.drop n)[i]? = some ps) : R b ps:=by
  rw [List.getElem?_drop] at e1 e2
  exact h1 _ b ps e1 e2
theorem cut_ge1 (xs : List V) (j : Nat) : cutV xs (some ((j : Int) + 1)) none = xs.drop (j + 1):=by
  have:=cut_fromN xs (j + 1)
  rwa [show ((j + 1 : Nat) : Int) = (j : Int) + 1 by omega] at this
theorem ok__law_bent {f : Addr} {fd : FuncData} (F : Fun K "_law_bent" "_law_bent" s__law_bent f fd) (G__law_take : Callee P w K mg base "_law_take" 1 ["pot","many"] (sp__law_take K mg)) (G__law_pair_bent : Callee P w K mg base "_law_pair_bent" 2 ["pot","pair","many"] (sp__law_pair_bent K mg)) (T : Txt K mg) : FnOk P w K mg base (CXE P w) 3 f fd ["pot","table","many"] (sp__law_bent K mg):=by
  refine F.okX sc__law_bent (fun vs H Q E h=>?_) (fun cdv A outer s H vs Q E hr h=>?_)
  · obtain ⟨p,l,tb,many,M,rfl,_⟩:=h; rfl
  obtain ⟨p,l,tb,many,M,rfl,m0,m1,hP,TB,hne,htl,hps,k1⟩:=h
  refine ⟨_,(pss_cons (ps_setCN (i:=3) ["line"] [none] sc__law_bent.nd rfl (Or.inl rfl) rfl rfl rfl (pi_list (pv 1)) (fun _ _ _ _ _=>(pg_name (i:=0) (show (["line"] : List Str).Nodup from by decide +kernel) rfl (Or.inl rfl))) (fun _ _ _ _ _=>pifs_nil) (fun _ _ _ _ _=>(pe_callTy (call_listK (K:=K) rfl) rfl T.b_list bt_list (pa_cons (pv 0) pa_nil))) only_name)
      (pss_cons (ps_set (i:=4) sc__law_bent.nd rfl (Or.inl rfl) (pe_callF G__law_take (hr.mono (by decide)) rfl passE (pa_cons (pv 0) (pa_cons pe_int pa_nil))))
      (pss_cons (ps_set (i:=5) sc__law_bent.nd rfl (Or.inl rfl) (pe_callF G__law_take (hr.mono (by decide)) rfl passE (pa_cons (pv 0) (pa_cons (pe_op op_add (pe_callB (call_lenK (K:=K) rfl) rfl T.b_len PySem.boot_len (pa_cons (pv 3) pa_nil)) pe_int) pa_nil))))
      (pss_cons (ps_if (pt_cmpR op_eq (pv 4) pe_int (nomark _)) (pss_one (ps_ret (pe_op (op_catK (K:=K) rfl) (pe_slice sl_list (pv 3) po_none (po_some (pv 5))) (pe_slice sl_list (pv 3) (po_some (pe_op op_add (pv 5) pe_int)) po_none)))) pss_nil)
      (pss_cons (ps_if (pt_cmpR op_eq (pv 4) pe_int (nomark _)) (pss_one (ps_ret (pe_op (op_catK (K:=K) rfl) (pv 3) (pe_lst (pa_cons (pe_op op_rep (pe_lst (pa_cons pe_non pa_nil)) (pv 2)) pa_nil))))) pss_nil)
      (pss_cons (ps_if (pt_cmpR op_eq (pv 4) pe_int (nomark _)) (pss_one (ps_ret (pe_op (op_catK (K:=K) rfl) (pe_slice sl_list (pv 3) (po_some (pv 5)) po_none) (pe_slice sl_list (pv 3) po_none (po_some (pv 5)))))) pss_nil)
      (pss_cons (ps_set (i:=6) sc__law_bent.nd rfl (Or.inl rfl) (pe_ix ix_list (pv 3) (pe_callB (call_min2 rfl) rfl T.b_min bt_min (pa_cons (pv 5) (pa_cons (pe_op op_sub (pe_callB (call_lenK (K:=K) rfl) rfl T.b_len PySem.boot_len (pa_cons (pv 3) pa_nil)) pe_int) pa_nil))) (fun _ _=>rfl)))
      (pss_cons (ps_if (PW.pt (pw_or (pt_cmpR (op_eqD (K:=K) rfl hr) (pv 6) (pe_lst pa_nil) (nomark _)) (pw_or1 (pt_cmpR op_eq (pv 4) pe_int (nomark _))))) (pss_cons (ps_expr (pe_bm PySem.F.plainAttrs_list PySem.F.slot_list_append PySem.F.type_list_append mt_append (pv 6) (pa_cons pe_non pa_nil)))
      (pss_one (ps_ret (pv 3)))) pss_nil)
      (pss_cons (ps_set (i:=7) sc__law_bent.nd rfl (Or.inl rfl) (pe_callF G__law_take (hr.mono (by decide)) rfl passE (pa_cons (pv 0) (pa_cons (pe_callB (call_lenK (K:=K) rfl) rfl T.b_len PySem.boot_len (pa_cons (pv 6) pa_nil)) pa_nil))))
      (pss_cons (ps_if (pt_cmpR op_eq (pv 4) pe_int (nomark _)) (pss_one (ps_expr (pe_bm PySem.F.plainAttrs_list PySem.F.slot_list_pop PySem.F.type_list_pop mt_popAt (pv 6) (pa_cons (pv 7) pa_nil)))) (pss_one (ps_if (pt_cmpR op_eq (pv 4) pe_int (nomark _)) (pss_one (ps_asg (pe_tup (pa_cons (pe_ix ix_list (pv 6) pe_int (fun _ _=>rfl)) (pa_cons (pe_ix ix_list (pv 6) (pv 7) (fun _ _=>rfl)) pa_nil))) (pg_tup (n:=2) rfl (pgs_cons (pg_sub (pv 6) (pv 7) set_list (fun _=>rfl)) (pgs_cons (pg_sub (pv 6) pe_int set_list (fun _=>rfl)) pgs_nil))))) (pss_one (ps_asg (pe_callF G__law_pair_bent (hr.mono (by decide)) rfl passE (pa_cons (pv 0) (pa_cons (pe_ix ix_list (pv 6) (pv 7) (fun _ _=>rfl)) (pa_cons (pv 2) pa_nil)))) (pg_sub (pv 6) (pv 7) set_list (fun _=>rfl)))))))
      (pss_one (ps_ret (pv 3))))))))))))),?_⟩
  have hpos : 0 < tb.length:=List.length_pos_iff.mpr hne
  refine seqR (fun σ Hx=>∃ (m : Addr) (bs : List Addr),σ = [some (.ref p),some (.ref l),some (.int many),some (.ref m),none,none,none,none]∧Bent H Hx p m bs tb) (fun R hR=>?_) ?_
  · walk_at "rd"
    obtain ⟨as,h1,h2,h3,h4⟩:=TB
    exact ⟨⟨_,SqL.of h1⟩,comp_lofL (SqL.of h1) h3 (by omega) (fun i a ps e1 e2=>(h4 i a ps e1 e2).sq) fun m bs H2 N=>hR _ _ ⟨m,bs,rfl,Bent.of N hP⟩⟩
  rintro σ H1 ⟨m,bs,rfl,B1⟩
  refine seqR (fun σ Hx=>∃ d : Int,σ = [some (.ref p),some (.ref l),some (.int many),some (.ref m),some (.int d),none,none,none]∧0≤d∧d < 8∧Bent H Hx p m bs tb) (fun R hR=>?_) ?_
  · walk_at "rd"
    exact ⟨p,_,rfl,by decide,by decide,B1.2.2.2.2.2.2.2.1,fun d H2 d0 d1 P2 e2=>hR _ _ ⟨d,rfl,d0,d1,B1.exc P2 e2⟩⟩
  rintro σ H2 ⟨d,rfl,d0,d1,B2⟩
  have ebl : (bs.map V.ref).length = tb.length:=by rw [List.length_map]; exact B2.2.1
  refine seqR (fun σ Hx=>∃ e : Nat,σ = [some (.ref p),some (.ref l),some (.int many),some (.ref m),some (.int d),some (.int (e : Int)),none,none]∧e≤tb.length∧Bent H Hx p m bs tb) (fun R hR=>?_) ?_
  · walk_at "rd"
    refine ⟨_,.inl (SqL.of B2.1),p,_,rfl,by omega,by omega,B2.2.2.2.2.2.2.2.1,fun e H3 e0 e1 P3 e3=>?_⟩
    obtain ⟨n,rfl⟩:=Int.eq_ofNat_of_zero_le e0
    exact hR _ _ ⟨n,rfl,by omega,B2.exc P3 e3⟩
  rintro σ H3 ⟨e,rfl,hel,B3⟩
  walk_at "rd"
  obtain ⟨h1,h2,h3,h4,h5,h6,h7,h8,h9⟩:=id B3
  refine ite2 (fun _=>?_) fun n0=>ite2 (fun _=>?_) fun n1=>?_
  · refine ⟨_,SqL.of h1,fun q1 hq1=>?_⟩
    have g1:=(Same.refl H3).upd (o:=.lst (cutV (bs.map V.ref) none (some (e : Int)))) hq1
    have t1:=upd_same (H:=H3) (a:=q1) (o:=.lst (cutV (bs.map V.ref) none (some (e : Int))))
    rw [cut_to,← List.map_take] at g1 t1 ⊢
    generalize upd H3 q1 (.lst ((bs.take e).map V.ref)) = H4 at g1 t1 ⊢
    refine ⟨_,SqL.of (g1 _ _ h1),fun q2 hq2=>?_⟩
    have g2:=(Same.refl H4).upd (o:=.lst (cutV (bs.map V.ref) (some ((e : Int) + 1)) none)) hq2
    have t2:=upd_same (H:=H4) (a:=q2) (o:=.lst (cutV (bs.map V.ref) (some ((e : Int) + 1)) none))
    rw [cut_ge1,← List.map_drop] at g2 t2 ⊢
    generalize upd H4 q2 (.lst ((bs.drop (e + 1)).map V.ref)) = H5 at g2 t2 ⊢
    refine ⟨_,SqL.of (g2 _ _ t1),_,SqL.of t2,Nat.le_of_lt (Nat.lt_of_le_of_lt (show _≤1000 by simp; omega) (by decide)),fun q3 hq3=>?_⟩
    rw [← List.map_append]
    have gg:=(g1.trans g2).trans ((Same.refl H5).upd (o:=.lst ((bs.take e ++ bs.drop (e + 1)).map V.ref)) hq3)
    refine k1 q3 (tb.take e ++ tb.drop (e + 1)) _ (tbl_new ((g1.trans g2).free hq3) gg upd_same (by simp; omega) (sel_app (by simp; omega) (sel_take h3) (sel_drop h3))) (by simp; omega) (fun ps hp=>?_) (h8.same gg) (h9.same gg)
    have : ps ∈ tb:=by
      rcases List.mem_append.mp hp with z | z
      · exact List.mem_of_mem_take z
      · exact List.mem_of_mem_drop z
    have:=hps ps this
    omega
  · refine ⟨by decide,fun q1 hq1=>?_⟩
    have g1:=(Same.refl H3).upd (o:=.lst [V.non]) hq1
    have t1:=upd_same (H:=H3) (a:=q1) (o:=.lst [V.non])
    generalize upd H3 q1 (.lst [V.non]) = H4 at g1 t1 ⊢
    refine ⟨_,t1,by omega,by omega,Nat.le_of_lt (Nat.lt_of_le_of_lt (show _≤1000 by simp; omega) (by decide)),fun q2 hq2=>?_⟩
    have ef : (List.replicate (many : Int).toNat [V.non]).flatten = List.replicate many V.non:=by
      rw [show (many : Int).toNat = many by omega]; simp
    rw [ef]
    have g2:=(Same.refl H4).upd (o:=.lst (List.replicate many V.non)) hq2
    have t2:=upd_same (H:=H4) (a:=q2) (o:=.lst (List.replicate many V.non))
    generalize upd H4 q2 (.lst (List.replicate many V.non)) = H5 at g2 t2 ⊢
    refine ⟨by decide,fun q3 hq3=>?_⟩
    have g3:=(Same.refl H5).upd (o:=.lst [V.ref q2]) hq3
    have t3:=upd_same (H:=H5) (a:=q3) (o:=.lst [V.ref q2])
    generalize upd H5 q3 (.lst [V.ref q2]) = H6 at g3 t3 ⊢
    have g13:=(g1.trans g2).trans g3
    refine ⟨_,SqL.of (g13 _ _ h1),_,SqL.of t3,Nat.le_of_lt (Nat.lt_of_le_of_lt (show _≤1000 by simp; omega) (by decide)),fun q4 hq4=>?_⟩
    rw [show bs.map V.ref ++ [V.ref q2] = (bs ++ [q2]).map V.ref by simp]
    have g4:=(Same.refl H6).upd (o:=.lst ((bs ++ [q2]).map V.ref)) hq4
    refine k1 q4 (tb ++ [List.replicate many none]) _ (tbl_new hq4 g4 upd_same (by simp; omega) (sel_app h2 (fun i b ps e1 e2=>(h3 i b ps e1 e2).same g13) (fun i b ps e1 e2=>?_))) (by simp) (fun ps hp=>?_) (h8.same (g13.trans g4)) (h9.same (g13.trans g4))
    · have i0 : i = 0:=by have:=(List.getElem?_eq_some_iff.mp e1).1; simp at this; omega
      subst i0
      cases e1; cases e2
      refine ⟨_,g3 _ _ t2,by simp,fun i v q f1 f2=>?_⟩
      rw [List.getElem?_replicate] at f1 f2
      split at f1
      · rename_i c; rw [if_pos c] at f2; cases f1; cases f2; rfl
      · cases f1
    · rcases List.mem_append.mp hp with z | z
      · have:=hps ps z; omega
      · have : ps = List.replicate many none:=by simpa using z
        subst this; simp; omega
  refine ite2 (fun _=>?_) fun n2=>?_
  · refine ⟨_,SqL.of h1,fun q1 hq1=>?_⟩
    have g1:=(Same.refl H3).upd (o:=.lst (cutV (bs.map V.ref) (some (e : Int)) none)) hq1
    have t1:=upd_same (H:=H3) (a:=q1) (o:=.lst (cutV (bs.map V.ref) (some (e : Int)) none))
    rw [cut_fromN,← List.map_drop] at g1 t1 ⊢
    generalize upd H3 q1 (.lst ((bs.drop e).map V.ref)) = H4 at g1 t1 ⊢
    refine ⟨_,SqL.of (g1 _ _ h1),fun q2 hq2=>?_⟩
    have g2:=(Same.refl H4).upd (o:=.lst (cutV (bs.map V.ref) none (some (e : Int)))) hq2
    have t2:=upd_same (H:=H4) (a:=q2) (o:=.lst (cutV (bs.map V.ref) none (some (e : Int))))
    rw [cut_to,← List.map_take] at g2 t2 ⊢
    generalize upd H4 q2 (.lst ((bs.take e).map V.ref)) = H5 at g2 t2 ⊢
    refine ⟨_,SqL.of (g2 _ _ t1),_,SqL.of t2,Nat.le_of_lt (Nat.lt_of_le_of_lt (show _≤1000 by simp; omega) (by decide)),fun q3 hq3=>?_⟩
    rw [← List.map_append]
    have gg:=(g1.trans g2).trans ((Same.refl H5).upd (o:=.lst ((bs.drop e ++ bs.take e).map V.ref)) hq3)
    refine k1 q3 (tb.drop e ++ tb.take e) _ (tbl_new ((g1.trans g2).free hq3) gg upd_same (by simp; omega) (sel_app (by simp; omega) (sel_drop h3) (sel_take h3))) (by simp; omega) (fun ps hp=>?_) (h8.same gg) (h9.same gg)
    have : ps ∈ tb:=by
      rcases List.mem_append.mp hp with z | z
      · exact List.mem_of_mem_drop z
      · exact List.mem_of_mem_take z
    have:=hps ps this
    omega
  obtain ⟨j,hj,ejv⟩ : ∃ j : Nat,j < tb.length∧(if ((bs.map V.ref).length : Int) - 1 < (e : Int) then ((bs.map V.ref).length : Int) - 1 else (e : Int)) = (j : Int):=by
    by_cases c : ((bs.map V.ref).length : Int) - 1 < (e : Int)
    · rw [if_pos c]; exact ⟨tb.length - 1,by omega,by omega⟩
    · rw [if_neg c]; exact ⟨e,by omega,rfl⟩
  obtain ⟨b,eb⟩ : ∃ b,bs[j]? = some b:=⟨_,List.getElem?_eq_getElem (by omega)⟩
  obtain ⟨ps,eps⟩ : ∃ ps,tb[j]? = some ps:=⟨_,List.getElem?_eq_getElem hj⟩
  obtain ⟨vals,hb1,hb2,hb3⟩:=h3 j b ps eb eps
  have hpl:=hps ps (List.mem_of_getElem? eps)
  have hbb:=h4 b (List.mem_of_getElem? eb)
  refine ⟨_,.inl (SqL.of h1),_,SqL.of h1,V.ref b,by rw [ejv]; exact atI_nat (by rw [List.getElem?_map,eb]; rfl),Nat.zero_le _,fun q1 hq1=>?_⟩
  have g1:=(Same.refl H3).upd (o:=.lst []) hq1
  have t1:=upd_same (H:=H3) (a:=q1) (o:=.lst [])
  generalize upd H3 q1 (.lst []) = H4 at g1 t1 ⊢
  have B4:=B3.same g1
  have hb4:=g1 _ _ hb1
  refine ⟨b,rfl,_,eqd_empty hb4 t1,?_⟩
  have setb : ∀ (qs : List Pt),qs.length≤M + 1→∀ ps' ∈ tb.set j qs,ps'.length≤M + 1:=fun qs hq ps' hp=>by
    rcases List.mem_or_eq_of_mem_set hp with z | z
    · have:=hps ps' z; omega
    · subst z; exact hq
  have fin : ∀ (Hx Hy : Hp) (qs : List Pt) (ws : List V),Bent H Hx p m bs tb→ws.length = qs.length→qs.length≤M + 1→(∀ (i : Nat) (v : V) (q : Pt),ws[i]? = some v→qs[i]? = some q→PairAt Hx v q)→Hy = upd Hx b (.lst ws)→Q (V.ref m) Hy:=fun Hx Hy qs ws Bx hw hq hp ey=>by
    have By:=Bx.line eb hw hp ey
    exact k1 m _ Hy By.tbl (by simp) (setb qs hq) By.2.2.2.2.2.2.2.1 By.2.2.2.2.2.2.2.2
  have app : vals.length < sizeLine∧Q (V.ref m) (upd H4 b (.lst (vals ++ [V.non]))):=by
    refine ⟨Nat.lt_of_le_of_lt (show _≤1000 by omega) (by decide),fin H4 _ (ps ++ [none]) (vals ++ [V.non]) B4 (by simp [hb2]) (by simp; omega) (fun i v q e1 e2=>?_) rfl⟩
    by_cases c : i < vals.length
    · rw [List.getElem?_append_left c] at e1
      rw [List.getElem?_append_left (by omega)] at e2
      exact (hb3 i v q e1 e2).same g1
    · rw [List.getElem?_append_right (by omega)] at e1
      rw [List.getElem?_append_right (by omega),← hb2] at e2
      have i0 : i - vals.length = 0:=by have:=(List.getElem?_eq_some_iff.mp e1).1; simp at this; omega
      rw [i0] at e1 e2
      cases e1; cases e2; rfl
  refine ite2 (fun _=>⟨tyV_list hb4,b,rfl,_,hb4,app⟩) fun nv=>ite2 (fun _=>⟨tyV_list hb4,b,rfl,_,hb4,app⟩) fun n3=>?_
  have nvl : vals≠[]:=fun z=>nv (decide_eq_true z)
  have vpos : 0 < vals.length:=List.length_pos_iff.mpr nvl
  refine ⟨b,rfl,_,.inl (SqL.of hb4),?_⟩
  refine ⟨p,_,rfl,by omega,by omega,B4.2.2.2.2.2.2.2.1,fun sp H5 s0 s1 P5 e5=>?_⟩
  obtain ⟨n,rfl⟩:=Int.eq_ofNat_of_zero_le s0
  have hn : n < vals.length:=by omega
  have B5:=B4.exc P5 e5
  have hb5:=e5 _ _ hbb.2.2 hb4
  obtain ⟨xp,hxp,_⟩:=id B4.2.2.2.2.2.2.2.1
  have hv5 : ∀ (i : Nat) (v : V) (q : Pt),vals[i]? = some v→ps[i]? = some q→PairAt H5 v q:=fun i v q f1 f2=>((hb3 i v q f1 f2).same g1).excL hxp e5
  refine ite2 (fun _=>⟨tyV_list hb5,b,rfl,_,_,rfl,hb5,by omega,by omega,n,?_,_,List.getElem?_eq_getElem hn,fin H5 _ (ps.eraseIdx n) (vals.eraseIdx n) B5 (by rw [List.length_eraseIdx_of_lt hn,List.length_eraseIdx_of_lt (by omega),hb2]) (by rw [List.length_eraseIdx_of_lt (by omega)]; omega) (fun i v q f1 f2=>?_) rfl⟩) fun n4=>ite2 (fun _=>?_) fun n5=>?_
  · exact seqIx hn
  · rw [List.getElem?_eraseIdx] at f1 f2
    split at f1
    · rename_i c; rw [if_pos c] at f2; exact hv5 i v q f1 f2
    · rename_i c; rw [if_neg c] at f2; exact hv5 _ v q f1 f2
  · refine ⟨b,rfl,_,SqL.of hb5,vals[0]'vpos,atI_nat (j:=0) (List.getElem?_eq_getElem vpos),b,rfl,_,_,rfl,SqL.of hb5,vals[n]'hn,atI_nat (List.getElem?_eq_getElem hn),by decide,fun q2 hq2=>?_⟩
    have g2:=(Same.refl H5).upd (o:=.tup [vals[0]'vpos,vals[n]'hn]) hq2
    have t2:=upd_same (H:=H5) (a:=q2) (o:=.tup [vals[0]'vpos,vals[n]'hn])
    generalize upd H5 q2 (.tup [vals[0]'vpos,vals[n]'hn]) = H6 at g2 t2 ⊢
    have hb6:=g2 _ _ hb5
    have pv : 0 < ps.length:=by omega
    have pn : n < ps.length:=by omega
    refine ⟨_,SqT.of t2,rfl,_,_,rfl,b,rfl,_,_,rfl,hb6,n,ixN_nat hn,_,_,rfl,b,rfl,_,upd_same,0,ixN_nat (n:=(vals.set n vals[0]).length) (j:=0) (by simp; omega),rfl,fin H6 _ ((ps.set n (ps[0]'pv)).set 0 (ps[n]'pn)) ((vals.set n (vals[0]'vpos)).set 0 (vals[n]'hn)) (B5.same g2) (by simp [hb2]) (by simp; omega) (fun i v q f1 f2=>?_) (by rw [upd_upd])⟩
    have hw : ∀ (k : Nat) (h1 : k < vals.length) (h2 : k < ps.length),PairAt H6 (vals[k]'h1) (ps[k]'h2):=fun k h1 h2=>(hv5 k _ _ (List.getElem?_eq_getElem h1) (List.getElem?_eq_getElem h2)).same g2
    by_cases c : i = 0
    · subst c
      rw [List.getElem?_set_self (by simp; omega)] at f1 f2
      cases f1; cases f2; exact hw n hn pn
    · rw [List.getElem?_set_ne (Ne.symm c)] at f1 f2
      by_cases c2 : i = n
      · subst c2
        rw [List.getElem?_set_self (by omega)] at f1 f2
        cases f1; cases f2; exact hw 0 vpos pv
      · rw [List.getElem?_set_ne (Ne.symm c2)] at f1 f2
        exact (hv5 i v q f1 f2).same g2
  · refine ⟨b,rfl,_,_,rfl,SqL.of hb5,vals[n]'hn,atI_nat (List.getElem?_eq_getElem hn),p,vals[n]'hn,ps[n]'(by omega),_,rfl,by omega,by omega,P5,hv5 n _ _ (List.getElem?_eq_getElem hn) (List.getElem?_eq_getElem (by omega)),fun u' pr' H6 hu P6 e6=>?_⟩
    have B6:=B5.exc P6 e6
    have hb6:=e6 _ _ hbb.2.2 hb5
    obtain ⟨xq,hxq,_⟩:=id P5
    refine ⟨b,rfl,_,_,rfl,hb6,n,ixN_nat hn,fin H6 _ (ps.set n pr') (vals.set n u') B6 (by simp [hb2]) (by simp; omega) (fun i v q f1 f2=>?_) rfl⟩
    by_cases c : i = n
    · subst c
      rw [List.getElem?_set_self hn] at f1
      rw [List.getElem?_set_self (by omega)] at f2
      cases f1; cases f2; exact hu
    · rw [List.getElem?_set_ne (Ne.symm c)] at f1 f2
      exact (hv5 i v q f1 f2).excL hxq e6
def LineAt (H : Hp) (a : Addr) (ps : List Pt) : Prop:=∃ vals : List V,(H a = some (.lst vals)∨H a = some (.tup vals))∧vals.length = ps.length∧∀ (i : Nat) (v : V) (q : Pt),vals[i]? = some v→ps[i]? = some q→PairAt H v q
theorem LineAt.exc {H H' : Hp} {a p : Addr} {ps : List Pt} (h : LineAt H a ps) (n : a≠p) (P : PotAt H p) (e : Exc p H H') : LineAt H' a ps:=by
  obtain ⟨vals,h1,h2,h3⟩:=h
  obtain ⟨x,hx,_⟩:=P
  exact ⟨vals,h1.imp (e _ _ n) (e _ _ n),h2,fun i v q e1 e2=>(h3 i v q e1 e2).excL hx e⟩
theorem LineAt.sq {K : PySem.W.Frag} {H : Hp} {a : Addr} {ps : List Pt} (h : LineAt H a ps) : SqPts K H a ps:=by
  obtain ⟨vals,h1,h2,h3⟩:=h
  exact ⟨vals,h1.imp SqL.of SqT.of,h2,h3⟩
/-- a table handed in -/
def HandT (H : Hp) (p hd : Addr) (tb : List (List Pt)) : Prop:=∃ as : List Addr,hd≠p∧(H hd = some (.lst (as.map V.ref))∨H hd = some (.tup (as.map V.ref)))∧as.length = tb.length∧∀ (i : Nat) (a : Addr) (ps : List Pt),as[i]? = some a→tb[i]? = some ps→a≠p∧LineAt H a ps
theorem HandT.exc {H H' : Hp} {p hd : Addr} {tb : List (List Pt)} (h : HandT H p hd tb) (P : PotAt H p) (e : Exc p H H') : HandT H' p hd tb:=by
  obtain ⟨as,h1,h2,h3,h4⟩:=h
  exact ⟨as,h1,h2.imp (e _ _ h1) (e _ _ h1),h3,fun i a ps e1 e2=>⟨(h4 i a ps e1 e2).1,(h4 i a ps e1 e2).2.exc (h4 i a ps e1 e2).1 P e⟩⟩
theorem HandT.sq {K : PySem.W.Frag} {H : Hp} {p hd : Addr} {tb : List (List Pt)} (h : HandT H p hd tb) : SqTbl K H hd tb:=by
  obtain ⟨as,h1,h2,h3,h4⟩:=h
  exact ⟨as,h2.imp SqL.of SqT.of,h3,fun i a ps e1 e2=>(h4 i a ps e1 e2).2.sq⟩
theorem TblAt.ne {H : Hp} {p l : Addr} {tb : List (List Pt)} (h : TblAt H l tb) (P : PotAt H p) : l≠p∧∀ as : List Addr,H l = some (.lst (as.map V.ref))→as.length = tb.length→(∀ (i : Nat) (a : Addr) (ps : List Pt),as[i]? = some a→tb[i]? = some ps→PtsAt H a ps)→∀ a ∈ as,a≠p:=by
  obtain ⟨as,h1,_,h2,h3⟩:=h
  obtain ⟨x,hx,_⟩:=P
  refine ⟨fun z=>?_,fun bs g1 g2 g3 a ha z=>?_⟩
  · rw [z,hx] at h1
    cases as with
    | nil=>cases h1
    | cons a as=>cases h1
  · obtain ⟨i,hi,ei⟩:=List.getElem_of_mem ha
    obtain ⟨vals,f1,f2,f3⟩:=g3 i a (tb[i]'(by omega)) (List.getElem?_eq_some_iff.mpr ⟨hi,ei⟩) (List.getElem?_eq_getElem (by omega))
    rw [z,hx] at f1
    cases f1
    have:=f3 0 _ ((tb[i]'(by omega))[0]'(by simp at f2; omega)) rfl (List.getElem?_eq_getElem _)
    revert this
    cases (tb[i]'(by omega))[0]'(by simp at f2; omega) with
    | none=>intro h; exact nomatch h
    | some z=>rintro ⟨b,e,_⟩; cases e
theorem TblAt.exc {H H' : Hp} {p l : Addr} {tb : List (List Pt)} (h : TblAt H l tb) (P : PotAt H p) (e : Exc p H H') : TblAt H' l tb:=by
  obtain ⟨n,hn⟩:=h.ne P
  obtain ⟨as,h1,h2,h3,h4⟩:=h
  exact ⟨as,e _ _ n h1,h2,h3,fun i a ps e1 e2=>(h4 i a ps e1 e2).exc (hn as h1 h3 h4 a (List.mem_of_getElem? e1)) P e⟩
theorem ok_law {f : Addr} {fd : FuncData} (F : Fun K "law" "law" s_law f fd) (G_table_right : Callee P w K mg base "table_right" 8 ["row","text","table"] (sp_table_right K mg)) (G__law_deal : Callee P w K mg base "_law_deal" 1 ["script","k"] (sp__law_deal K mg)) (G__law_either : Callee P w K mg base "_law_either" 2 ["pot","some"] (sp__law_either K mg)) (G__law_pair : Callee P w K mg base "_law_pair" 3 ["pot","most","wide"] (sp__law_pair K mg)) (G__law_table : Callee P w K mg base "_law_table" 6 ["row","text"] (sp__law_table K mg)) (G__law_bent : Callee P w K mg base "_law_bent" 3 ["pot","table","many"] (sp__law_bent K mg)) (G__law_is_table : Callee P w K mg base "_law_is_table" 7 ["row","text","table"] (sp__law_is_table K mg)) (T : Txt K mg) : FnOk P w K mg base (CXE P w) 9 f fd ["script"] (spLaw K mg):=by
  refine F.okX sc_law (fun vs H Q E h=>?_) (fun cdv A outer s H vs Q E hr h=>?_)
  · obtain ⟨a,ns,rfl,_⟩:=h; rfl
  obtain ⟨sc,ss,rfl,hsc,hss,hTT,k1⟩:=h
  have hT1 : TabH K mg "from_below" H:=hTT (tabP K mg "from_below",lamQ "from_below") (by unfold tabsL; simp)
  have hT2 : TabH K mg "best_ahead" H:=hTT (tabP K mg "best_ahead",lamQ "best_ahead") (by unfold tabsL; simp)
  have hT3 : TabH K mg "best_behind" H:=hTT (tabP K mg "best_behind",lamQ "best_behind") (by unfold tabsL; simp)
  have hT4 : TabH K mg "_law_table" H:=hTT (tabP K mg "_law_table",lamQ "_law_table") (by unfold tabsL; simp)
  refine ⟨_,(pss_cons (ps_nox (ps_for PassesOwn.never rfl (pi_range1 rfl T.b_range (pa_cons (pe_callB (call_max2 rfl) rfl T.b_max bt_max (pa_cons pe_int (pa_cons (pe_callB (call_min2 rfl) rfl T.b_min bt_min (pa_cons (pe_callB (call_lenK (K:=K) rfl) rfl T.b_len PySem.boot_len (pa_cons (pv 0) pa_nil)) (pa_cons pe_int pa_nil))) pa_nil))) pa_nil)) (pg_name (i:=1) sc_law.nd rfl (Or.inl rfl)) (pss_cons (ps_set (i:=2) sc_law.nd rfl (Or.inr rfl) (pe_callF G__law_deal (hr.mono (by decide)) rfl passE (pa_cons (pv 0) (pa_cons (pv 1) pa_nil))))
      (pss_cons (ps_asg (pe_callF G__law_pair (hr.mono (by decide)) rfl passE (pa_cons (pv 2) (pa_cons pe_int (pa_cons pe_int pa_nil)))) (pg_tup (n:=2) rfl (pgs_cons (pg_name (i:=3) sc_law.nd rfl (Or.inl rfl)) (pgs_cons (pg_name (i:=4) sc_law.nd rfl (Or.inl rfl)) pgs_nil))))
      (pss_cons (ps_set (i:=5) sc_law.nd rfl (Or.inl rfl) (pe_callF G__law_table (hr.mono (by decide)) rfl passE (pa_cons (pv 3) (pa_cons (pv 4) pa_nil))))
      (pss_one (ps_nox (ps_for PassesOwn.never rfl (pi_range1 rfl T.b_range (pa_cons pe_int pa_nil)) (pg_name (i:=6) sc_law.nd rfl (Or.inl rfl)) (pss_cons (ps_set (i:=7) sc_law.nd rfl (Or.inl rfl) (pe_callF G__law_either (hr.mono (by decide)) rfl passE (pa_cons (pv 2) (pa_cons (pe_compN ["line","pot"] [none,some 2] rfl rfl rfl (pi_list (pv 5)) (fun _ _ _ _ _=>(pg_name (i:=0) (show (["line","pot"] : List Str).Nodup from by decide +kernel) rfl (Or.inl rfl))) (fun _ _ _ _ _=>pifs_nil) (fun _ _ _ _ _=>(pe_callF G__law_either (hr.mono (by decide)) rfl passE (pa_cons (pv 1) (pa_cons (pv 0) pa_nil)))) only_name) pa_nil))))
      (pss_cons (ps_setCN (i:=8) ["line"] [none] sc_law.nd rfl (Or.inl rfl) rfl rfl rfl (pi_seq (K:=K) rfl (pv 7)) (fun _ _ _ _ _=>(pg_name (i:=0) (show (["line"] : List Str).Nodup from by decide +kernel) rfl (Or.inl rfl))) (fun _ _ _ _ _=>pifs_nil) (fun _ _ _ _ _=>(pe_callTy (call_listK (K:=K) rfl) rfl T.b_list bt_list (pa_cons (pv 0) pa_nil))) only_name)
      (pss_cons (ps_set (i:=9) sc_law.nd rfl (Or.inl rfl) (pe_callF G_table_right (hr.mono (by decide)) rfl passE (pa_cons (pe_callF G__law_either (hr.mono (by decide)) rfl passE (pa_cons (pv 2) (pa_cons (pv 3) pa_nil))) (pa_cons (pe_callF G__law_either (hr.mono (by decide)) rfl passE (pa_cons (pv 2) (pa_cons (pv 4) pa_nil))) (pa_cons (pv 7) pa_nil)))))
      (pss_cons (ps_if (PW.pt (pw_or (pt_not (pt_val (pe_callB (call_isiK (K:=K) rfl) rfl T.b_isinstance bt_isinstance (pa_cons (pv 9) (pa_cons (pe_bltn (v:=.ty "bool") rfl T.b_bool bt_bool rfl) pa_nil))))) (pw_or1 (pt_cmpR op_ne (pv 9) (pe_callF G__law_is_table (hr.mono (by decide)) rfl passE (pa_cons (pv 3) (pa_cons (pv 4) (pa_cons (pv 5) pa_nil)))) (nomark _))))) (pss_one (ps_ret pe_bl)) pss_nil)
      (pss_cons (ps_if (pt_cmpR (op_neN (K:=K) rfl hr) (pe_compN ["line"] [none] rfl rfl rfl (pi_seq (K:=K) rfl (pv 7)) (fun _ _ _ _ _=>(pg_name (i:=0) (show (["line"] : List Str).Nodup from by decide +kernel) rfl (Or.inl rfl))) (fun _ _ _ _ _=>pifs_nil) (fun _ _ _ _ _=>(pe_callTy (call_listK (K:=K) rfl) rfl T.b_list bt_list (pa_cons (pv 0) pa_nil))) only_name) (pv 8) (nomark _)) (pss_one (ps_ret pe_bl)) pss_nil)
      (pss_one (ps_if (pt_cmpR (op_neN (K:=K) rfl hr) (pv 5) (pe_lst pa_nil) (nomark _)) (pss_one (ps_set (i:=5) sc_law.nd rfl (Or.inl rfl) (pe_callF G__law_bent (hr.mono (by decide)) rfl passE (pa_cons (pv 2) (pa_cons (pv 5) (pa_cons (pe_callB (call_lenK (K:=K) rfl) rfl T.b_len PySem.boot_len (pa_cons (pv 4) pa_nil)) pa_nil)))))) pss_nil)))))))))))))))
      (pss_one (ps_ret pe_bl))),?_⟩
  walk_at "rd"
  have el : (ss.map V.int).length = ss.length:=List.length_map ..
  refine ⟨_,.inl hsc,by split <;> (try split) <;> omega,by split <;> (try split) <;> omega,?_⟩
  rw [el]
  obtain ⟨nn,hnn,nn1⟩ : ∃ nn : Nat,(if (if (6 : Int) < (ss.length : Int) then (6 : Int) else (ss.length : Int)) > 2 then (if (6 : Int) < (ss.length : Int) then (6 : Int) else (ss.length : Int)) else 2).toNat = nn∧nn≤6:=⟨_,rfl,by split <;> (try split) <;> omega⟩
  rw [hnn]
  refine for_range (fun i σ Hx=>∃ v1 v2 v3 v4 v5 v6 v7 v8 v9,σ = [some (.ref sc),v1,v2,v3,v4,v5,v6,v7,v8,v9]∧Same H Hx) ⟨_,_,_,_,_,_,_,_,_,rfl,Same.refl H⟩ ?_ ?_
  · rintro i σ H' hi ⟨v1,v2,v3,v4,v5,v6,v7,v8,v9,rfl,hs⟩
    generalize hk : (0 : Int) + (i : Int) = kk
    have hk0 : 0≤kk∧kk≤100:=by omega
    refine seqR (fun σ Hx=>∃ p,σ = [some (.ref sc),some (.int kk),some (.ref p),v3,v4,v5,v6,v7,v8,v9]∧H' p = none∧PotAt Hx p∧Same H' Hx) (fun R hR=>?_) ?_
    · walk_at "rd"
      exact ⟨sc,ss,kk,rfl,hs.seq hsc,hk0.1,hk0.2,fun p H1 hp s1 P1=>hR _ _ ⟨p,rfl,hp,P1,s1⟩⟩
    rintro σ H1 ⟨p,rfl,zp,P1,s1⟩
    refine seqR (fun σ Hx=>∃ (r x : Addr) (ns ts : List Int),σ = [some (.ref sc),some (.int kk),some (.ref p),some (.ref r),some (.ref x),v5,v6,v7,v8,v9]∧r≠p∧x≠p∧0 < ns.length∧ns.length≤6∧ts.length≤16∧Hx r = some (.lst (ns.map V.int))∧Hx x = some (.lst (ts.map V.int))∧PotAt Hx p∧Same H' Hx) (fun R hR=>?_) ?_
    · walk_at "rd"
      exact ⟨p,_,_,rfl,by decide,by decide,by decide,by decide,P1,fun t r x ns ts H2 zr zx l0 l1 l2 hr2 hx2 ht2 P2 e2=>⟨t,rfl,_,SqT.of ht2,rfl,_,_,rfl,_,_,rfl,rfl,hR _ _ ⟨r,x,ns,ts,rfl,P1.ne zr,P1.ne zx,l0,by omega,by omega,hr2,hx2,P2,s1.exc zp e2⟩⟩⟩
    clear P1 s1 H1
    rintro σ H2 ⟨r,x,ns,ts,rfl,nrp,nxp,l0,l1,l2,hr2,hx2,P2,s2⟩
    refine seqR (fun σ Hx=>∃ (l : Addr) (tb : List (List Pt)),σ = [some (.ref sc),some (.int kk),some (.ref p),some (.ref r),some (.ref x),some (.ref l),v6,v7,v8,v9]∧TblAt Hx l tb∧tb.length≤6∧(∀ ps ∈ tb,ps.length≤16)∧Same H2 Hx) (fun R hR=>?_) ?_
    · walk_at "rd"
      refine ⟨r,x,ns,ts,rfl,hr2,hx2,l1,l2,TabH.same hT4 (hs.trans s2),fun l T2 tab H3 zl hT TB hI s3=>hR _ _ ⟨l,tab,rfl,TB,by have:=hI.1; have:=hT.1; omega,fun ps hp=>?_,s3⟩⟩
      obtain ⟨j,hj,rfl⟩:=List.getElem_of_mem hp
      have:=(hI.2 j (by have:=hI.1; omega)).1
      rw [List.getD_eq_getElem?_getD,List.getElem?_eq_getElem hj] at this
      simp at this
      omega
    rintro σ H3 ⟨l,tb,rfl,TB,hl6,hl16,s3⟩
    walk_at "rd"
    refine ⟨by decide,by decide,?_⟩
    refine for_range (fun j σ Hx=>∃ (l : Addr) (tb : List (List Pt)) (v6 v7 v8 v9 : Option V),σ = [some (.ref sc),some (.int kk),some (.ref p),some (.ref r),some (.ref x),some (.ref l),v6,v7,v8,v9]∧TblAt Hx l tb∧tb.length≤6 + j∧(∀ ps ∈ tb,ps.length≤16 + j)∧Hx r = some (.lst (ns.map V.int))∧Hx x = some (.lst (ts.map V.int))∧PotAt Hx p∧Same H' Hx) ⟨l,tb,_,_,_,_,rfl,TB,hl6,hl16,s3 _ _ hr2,s3 _ _ hx2,P2.same s3,s2.trans s3⟩ ?_ ?_
    · clear hr2 hx2 P2 s2 TB hl6 hl16 s3 H3
      rintro j σ H3 hj ⟨l,tb,v6,v7,v8,v9,rfl,TB,hl6,hl16,hr3,hx3,P3,s3⟩
      have hj5 : j < 5:=hj
      obtain ⟨as,ha1,ha2,ha3,ha4⟩:=id TB
      have han:=(TB.ne P3).2 as ha1 ha3 ha4
      have nlp:=(TB.ne P3).1
      refine seqR (fun σ Hx=>∃ (hd : Addr) (v6 : Option V),σ = [some (.ref sc),some (.int kk),some (.ref p),some (.ref r),some (.ref x),some (.ref l),v6,some (.ref hd),v8,v9]∧HandT Hx p hd tb∧PotAt Hx p∧Exc p H3 Hx) (fun R hR=>?_) ?_
      · walk_at "rd"
        refine ⟨⟨_,SqL.of ha1⟩,comp_inv (n:=as.length) (fun j acc Hz=>∃ bs : List Addr,acc = bs.map V.ref∧bs.length = j∧(∀ (i : Nat) (b : Addr) (ps : List Pt),bs[i]? = some b→tb[i]? = some ps→b≠p∧LineAt Hz b ps)∧PotAt Hz p∧Exc p H3 Hz) (Nat.lt_of_le_of_lt (show _≤1000 by omega) (by decide)) ⟨[],rfl,rfl,(fun i b ps h=>by simp at h),P3,(Same.refl H3).toExc⟩ (fun j acc Hz ⟨_,_,_,_,_,e⟩ hj=>⟨_,_,SqL.of (e _ _ nlp ha1),List.getElem?_eq_getElem (by simpa using hj)⟩) (fun acc Hz ⟨_,_,_,_,_,e⟩=>⟨_,SqL.of (e _ _ nlp ha1),by simp⟩) ?_ ?_⟩
        · rintro k w acc Hz Hw hk hla ⟨bs,rfl,hbl,hbp,Pz,ez⟩ ⟨rfl,hyy⟩
          have exx:=hyy _ (SqL.of (ez _ _ nlp ha1))
          rw [List.getElem?_map,List.getElem?_eq_getElem hk] at exx
          cases exx
          have eb : as[k]? = some as[k]:=List.getElem?_eq_getElem hk
          have et : tb[k]? = some (tb[k]'(by omega)):=List.getElem?_eq_getElem (by omega)
          have nb : as[k]≠p:=han _ (List.getElem_mem hk)
          obtain ⟨vals,f1,f2,f3⟩:=(ha4 k _ _ eb et).exc nb P3 ez
          have fl:=hl16 _ (List.mem_of_getElem? et)
          walk_at "rd"
          refine ⟨p,as[k],vals,rfl,Pz,nb,f1,by omega,fun u H4 zu hu P4 e4=>CA.take hk hla ⟨bs ++ [u],by simp,by simp [hbl],fun i b ps e1 e2=>?_,P4,ez.trans e4⟩⟩
          by_cases c : i < k
          · rw [List.getElem?_append_left (by omega)] at e1
            exact ⟨(hbp i b ps e1 e2).1,(hbp i b ps e1 e2).2.exc (hbp i b ps e1 e2).1 Pz e4⟩
          · have h1:=(List.getElem?_eq_some_iff.mp e1).1
            have : i = k:=by simp at h1; omega
            subst this
            rw [List.getElem?_append_right (by omega),hbl,Nat.sub_self] at e1
            rw [et] at e2
            cases e1; cases e2
            obtain ⟨y,hy,_⟩:=id Pz
            exact ⟨Pz.ne zu,vals,hu,f2,fun i v q g1 g2=>(f3 i v q g1 g2).excL hy e4⟩
        · rintro m acc Hz ⟨bs,rfl,hbl,hbp,Pz,ez⟩ _ zm
          have gm:=(Same.refl Hz).upd (o:=.lst (bs.map V.ref)) zm
          have hm:=upd_same (H:=Hz) (a:=m) (o:=.lst (bs.map V.ref))
          have nm:=Pz.ne zm
          generalize upd Hz m (.lst (bs.map V.ref)) = H4 at gm hm ⊢
          refine ⟨p,m,bs.map V.ref,rfl,Pz.same gm,nm,hm,by simp; omega,fun hd H5 zh hh P5 e5=>hR _ _ ⟨hd,_,rfl,⟨bs,(Pz.same gm).ne zh,hh,by omega,fun i b ps e1 e2=>?_⟩,P5,(ez.same gm).trans e5⟩⟩
          have nb:=(hbp i b ps e1 e2).1
          exact ⟨nb,((hbp i b ps e1 e2).2.exc nb Pz gm.toExc).exc nb (Pz.same gm) e5⟩
      rintro σ H4 ⟨hd,v6',rfl,HT4,P4,e34⟩
      obtain ⟨hs4,hh1,hh2,hh3,hh4⟩:=id HT4
      have lof : ∀ (Hx : Hp) (Qx : VK),HandT Hx p hd tb→(∀ (m : Addr) (bs : List Addr) (H2 : Hp),NewLines Hx H2 m bs tb→Qx (.ref m) H2)→((∃ xs,SqL K Hx hd xs)∧CompR (Itl K hd) (gName 0) tYes (tCB (rLof K) (tCons (tVar 0) tNil)) [none] Qx Hx)∨((∃ xs,SqT K Hx hd xs)∧CompR (Itt K hd) (gName 0) tYes (tCB (rLof K) (tCons (tVar 0) tNil)) [none] Qx Hx):=fun Hx Qx HT k=>by
        obtain ⟨cs,c1,c2,c3,c4⟩:=HT
        rcases c2 with c2 | c2
        · exact .inl ⟨⟨_,SqL.of c2⟩,comp_lofL (SqL.of c2) c3 (by omega) (fun i a ps e1 e2=>(c4 i a ps e1 e2).2.sq) k⟩
        · exact .inr ⟨⟨_,SqT.of c2⟩,comp_lofT (SqT.of c2) c3 (by omega) (fun i a ps e1 e2=>(c4 i a ps e1 e2).2.sq) k⟩
      refine seqR (fun σ Hx=>∃ (m : Addr) (bs : List Addr),σ = [some (.ref sc),some (.int kk),some (.ref p),some (.ref r),some (.ref x),some (.ref l),v6',some (.ref hd),some (.ref m),v9]∧NewLines H4 Hx m bs tb) (fun R hR=>?_) ?_
      · walk_at "rd"
        exact lof H4 _ HT4 fun m bs H5 N=>hR _ _ ⟨m,bs,rfl,N⟩
      rintro σ H5 ⟨m,bs,rfl,N⟩
      have B5:=Bent.of N P4
      have s45:=N.2.1
      have HT5:=HT4.exc P4 s45.toExc
      have P5:=P4.same s45
      have e35:=e34.same s45
      have hr5:=e35 _ _ nrp hr3
      have hx5:=e35 _ _ nxp hx3
      have TB5:=TB.exc P3 e35
      have s05:=s3.exc zp e35
      refine seqR (fun σ Hx=>∃ (T : List Int) (tab : List (List Pt)),σ = [some (.ref sc),some (.int kk),some (.ref p),some (.ref r),some (.ref x),some (.ref l),v6',some (.ref hd),some (.ref m),some (.bl (decide (tab = tb)))]∧TreeIs ns T∧TabIs T ts tab∧PotAt Hx p∧Exc p H5 Hx) (fun R hR=>?_) ?_
      · walk_at "rd"
        refine ⟨p,r,_,rfl,P5,nrp,hr5,by simp; omega,fun u1 H6 zu1 hu1 P6 e6=>⟨p,x,_,rfl,P6,nxp,e6 _ _ nxp hx5,by simp; omega,fun u2 H7 zu2 hu2 P7 e7=>?_⟩⟩
        have e57:=e6.trans e7
        have n1 : u1≠p:=P5.ne zu1
        have t57:=s05.exc zp e57
        exact ⟨u1,u2,hd,ns,ts,tb,rfl,(hu1.imp (e7 _ _ n1) (e7 _ _ n1)).imp SqL.of SqT.of,hu2.imp SqL.of SqT.of,(HT5.exc P5 e57).sq,by omega,l0,l1,l2,TabH.same hT1 (hs.trans t57),TabH.same hT2 (hs.trans t57),TabH.same hT3 (hs.trans t57),fun T2 tab H8 hT hI s8=>hR _ _ ⟨T2,tab,rfl,hT,hI,P7.same s8,e57.same s8⟩⟩
      rintro σ H6 ⟨T2,tab,rfl,hT,hI,P6,e6⟩
      have e36:=e35.trans e6
      have hr6:=e6 _ _ nrp hr5
      have hx6:=e6 _ _ nxp hx5
      have TB6:=TB5.exc P5 e6
      have HT6:=HT5.exc P5 e6
      have s06:=s05.exc zp e6
      have B6:=B5.exc P6 e6
      walk_at "rd"
      refine ⟨true,ty_bb,ite2 (fun z=>nomatch z) fun _=>⟨r,x,l,ns,ts,tb,rfl,hr6,hx6,TB6,by omega,fun ps hp=>by have:=hl16 ps hp; omega,l1,l2,TabH.same hT4 (hs.trans s06),fun T3 tab3 H7 hT3' hI3 s7=>⟨rfl,?_⟩⟩⟩
      have eTT : T3 = T2:=TreeIs.unique hT3' hT
      subst eTT
      have hG : GoodT T3:=⟨by have:=hT.1; omega,ns,hT⟩
      have ett : tab3 = tab:=tab_uniq hG hI3 hI
      subst ett
      have ed : decide (tab3 = tb) = decide (tb = tab3):=decide_eq_decide.mpr ⟨Eq.symm,Eq.symm⟩
      rw [if_neg (fun z=>z (by rw [ed]))]
      refine lof H7 _ (HT6.exc P6 s7.toExc) fun m2 cs H8 N2=>?_
      have B8:=(B6.same s7).same N2.2.1
      refine ⟨m2,rfl,_,tbl_eq N2.2.2.1 N2.2.2.2.1 N2.2.2.2.2.1 B8.1 B8.2.1 B8.2.2.1,?_⟩
      rw [if_neg (by simp)]
      refine ⟨Nat.zero_le _,fun q hq=>?_⟩
      have gq:=(Same.refl H8).upd (o:=.lst []) hq
      have hq0:=upd_same (H:=H8) (a:=q) (o:=.lst [])
      have s69 : Same H6 (upd H8 q (.lst [])):=(s7.trans N2.2.1).trans gq
      generalize upd H8 q (.lst []) = H9 at gq hq0 s69 ⊢
      have TB9:=TB6.exc P6 s69.toExc
      obtain ⟨ds,d1,d2,d3,d4⟩:=id TB9
      have s09:=s06.trans s69
      refine ⟨_,tbl_eq (tb:=[]) (bs:=[]) d1 d3 d4 hq0 rfl (fun i a ps e1=>by simp at e1),?_⟩
      refine ite2 (fun z=>?_) fun z=>⟨tb,TB9,by omega,fun ps hp=>by have:=hl16 ps hp; omega,s69 _ _ hr6,s69 _ _ hx6,P6.same s69,s09⟩
      have nt : tb≠[]:=of_decide_eq_false z
      refine ⟨_,.inl (SqL.of (s69 _ _ hx6)),p,l,tb,ts.length,16 + j,by simp,by omega,by omega,P6.same s69,TB9,nt,by omega,hl16,fun l2' tb2 H10 TB10 h10 h11 P10 e10=>?_⟩
      exact ⟨l2',rfl,tb2,TB10,by omega,h11,e10 _ _ nrp (s69 _ _ hr6),e10 _ _ nxp (s69 _ _ hx6),P10,s09.exc zp e10⟩
    · rintro σ Hx ⟨l,tb,v6,v7,v8,v9,rfl,_,_,_,_,_,_,sx⟩
      exact ⟨_,_,_,_,_,_,_,_,_,rfl,hs.trans sx⟩
  · rintro σ Hx ⟨v1,v2,v3,v4,v5,v6,v7,v8,v9,rfl,sx⟩
    walk_at "rd"
    exact k1 Hx
end
theorem all_mk {l : PySem.W.OpenLaw} {w : World} {K : PySem.W.Frag} {h : Heap} {mg : Str→Option Value} {fa : Addr} {ts : List Addr} (X : K.In h) (G : h.Ns mainGlobals mg) (hfa : mg "law" = some (.ref fa))
    {f_need_numbers : Addr} {od_need_numbers an_need_numbers : Option Addr} {sl_need_numbers : Array (Option Value)} {oc_need_numbers kV_need_numbers dc_need_numbers pm_need_numbers cd_need_numbers ct_need_numbers : Value}
    {D_need_numbers : Addr} {tk_need_numbers : Tok} {oc3_need_numbers : Value} {od3_need_numbers : Option Addr} {ep_need_numbers : Nat} {sl3_need_numbers : Array (Option Value)}
    (a_need_numbers : PySem.W.nsIn K mainGlobals "need_numbers" = some (some (.ref f_need_numbers))) (l_need_numbers : K.lookup f_need_numbers = some ⟨oc_need_numbers,od_need_numbers,.func (PySem.W.fnOf "need_numbers" "need_numbers" (defArgs s_need_numbers) (defBody s_need_numbers) (defScope s_need_numbers) (.ref D_need_numbers) kV_need_numbers dc_need_numbers pm_need_numbers an_need_numbers cd_need_numbers ct_need_numbers),sl_need_numbers⟩) (c_need_numbers : PySem.W.codeIn K cd_need_numbers "need_numbers" = true) (k_need_numbers : PySem.W.keepIn K (.ref f_need_numbers) = true)
    (t_need_numbers : K.lookup D_need_numbers = some ⟨oc3_need_numbers,od3_need_numbers,.seq #[.int 1 tk_need_numbers] ep_need_numbers,sl3_need_numbers⟩)
    {f_settle : Addr} {od_settle an_settle : Option Addr} {sl_settle : Array (Option Value)} {oc_settle kV_settle dc_settle pm_settle cd_settle ct_settle : Value}
    (a_settle : PySem.W.nsIn K mainGlobals "settle" = some (some (.ref f_settle))) (l_settle : K.lookup f_settle = some ⟨oc_settle,od_settle,.func (PySem.W.fnOf "settle" "settle" (defArgs s_settle) (defBody s_settle) (defScope s_settle) .none kV_settle dc_settle pm_settle an_settle cd_settle ct_settle),sl_settle⟩) (c_settle : PySem.W.codeIn K cd_settle "settle" = true) (k_settle : PySem.W.keepIn K (.ref f_settle) = true)
    {f_tree_of : Addr} {od_tree_of an_tree_of : Option Addr} {sl_tree_of : Array (Option Value)} {oc_tree_of kV_tree_of dc_tree_of pm_tree_of cd_tree_of ct_tree_of : Value}
    (a_tree_of : PySem.W.nsIn K mainGlobals "tree_of" = some (some (.ref f_tree_of))) (l_tree_of : K.lookup f_tree_of = some ⟨oc_tree_of,od_tree_of,.func (PySem.W.fnOf "tree_of" "tree_of" (defArgs s_tree_of) (defBody s_tree_of) (defScope s_tree_of) .none kV_tree_of dc_tree_of pm_tree_of an_tree_of cd_tree_of ct_tree_of),sl_tree_of⟩) (c_tree_of : PySem.W.codeIn K cd_tree_of "tree_of" = true) (k_tree_of : PySem.W.keepIn K (.ref f_tree_of) = true)
    {f_way_up : Addr} {od_way_up an_way_up : Option Addr} {sl_way_up : Array (Option Value)} {oc_way_up kV_way_up dc_way_up pm_way_up cd_way_up ct_way_up : Value}
    (a_way_up : PySem.W.nsIn K mainGlobals "way_up" = some (some (.ref f_way_up))) (l_way_up : K.lookup f_way_up = some ⟨oc_way_up,od_way_up,.func (PySem.W.fnOf "way_up" "way_up" (defArgs s_way_up) (defBody s_way_up) (defScope s_way_up) .none kV_way_up dc_way_up pm_way_up an_way_up cd_way_up ct_way_up),sl_way_up⟩) (c_way_up : PySem.W.codeIn K cd_way_up "way_up" = true) (k_way_up : PySem.W.keepIn K (.ref f_way_up) = true)
    {f_young_of : Addr} {od_young_of an_young_of : Option Addr} {sl_young_of : Array (Option Value)} {oc_young_of kV_young_of dc_young_of pm_young_of cd_young_of ct_young_of : Value}
    (a_young_of : PySem.W.nsIn K mainGlobals "young_of" = some (some (.ref f_young_of))) (l_young_of : K.lookup f_young_of = some ⟨oc_young_of,od_young_of,.func (PySem.W.fnOf "young_of" "young_of" (defArgs s_young_of) (defBody s_young_of) (defScope s_young_of) .none kV_young_of dc_young_of pm_young_of an_young_of cd_young_of ct_young_of),sl_young_of⟩) (c_young_of : PySem.W.codeIn K cd_young_of "young_of" = true) (k_young_of : PySem.W.keepIn K (.ref f_young_of) = true)
    {f_from_below : Addr} {od_from_below an_from_below : Option Addr} {sl_from_below : Array (Option Value)} {oc_from_below kV_from_below dc_from_below pm_from_below cd_from_below ct_from_below : Value}
    {cc_from_below PT_from_below : Addr} {oq_from_below : Value} {oz_from_below : Option Addr} {vs_from_below : Array Value} {sq_from_below : Array (Option Value)}
    (a_from_below : PySem.W.nsIn K mainGlobals "from_below" = some (some (.ref f_from_below))) (l_from_below : K.lookup f_from_below = some ⟨oc_from_below,od_from_below,.func (PySem.W.fnOf "from_below" "from_below" (defArgs s_from_below) (defBody s_from_below) (defScope s_from_below) .none kV_from_below dc_from_below pm_from_below an_from_below cd_from_below ct_from_below),sl_from_below⟩) (c_from_below : PySem.W.codeIn K cd_from_below "from_below" = true) (k_from_below : PySem.W.keepIn K (.ref f_from_below) = true)
    (le_from_below : cd_from_below = .ref cc_from_below) (lk_from_below : K.lookup cc_from_below = some ⟨oq_from_below,oz_from_below,.fields vs_from_below,sq_from_below⟩) (lp_from_below : vs_from_below[11]? = some (.ref PT_from_below)) (lh_from_below : PySem.W.codeHdIn K cc_from_below PT_from_below = true) (ln_from_below : K.lookup PT_from_below = none) (lm_from_below : PT_from_below ∈ ts)
    {f_need_loose : Addr} {od_need_loose an_need_loose : Option Addr} {sl_need_loose : Array (Option Value)} {oc_need_loose kV_need_loose dc_need_loose pm_need_loose cd_need_loose ct_need_loose : Value}
    (a_need_loose : PySem.W.nsIn K mainGlobals "need_loose" = some (some (.ref f_need_loose))) (l_need_loose : K.lookup f_need_loose = some ⟨oc_need_loose,od_need_loose,.func (PySem.W.fnOf "need_loose" "need_loose" (defArgs s_need_loose) (defBody s_need_loose) (defScope s_need_loose) .none kV_need_loose dc_need_loose pm_need_loose an_need_loose cd_need_loose ct_need_loose),sl_need_loose⟩) (c_need_loose : PySem.W.codeIn K cd_need_loose "need_loose" = true) (k_need_loose : PySem.W.keepIn K (.ref f_need_loose) = true)
    {f_best_ahead : Addr} {od_best_ahead an_best_ahead : Option Addr} {sl_best_ahead : Array (Option Value)} {oc_best_ahead kV_best_ahead dc_best_ahead pm_best_ahead cd_best_ahead ct_best_ahead : Value}
    {cc_best_ahead PT_best_ahead : Addr} {oq_best_ahead : Value} {oz_best_ahead : Option Addr} {vs_best_ahead : Array Value} {sq_best_ahead : Array (Option Value)}
    (a_best_ahead : PySem.W.nsIn K mainGlobals "best_ahead" = some (some (.ref f_best_ahead))) (l_best_ahead : K.lookup f_best_ahead = some ⟨oc_best_ahead,od_best_ahead,.func (PySem.W.fnOf "best_ahead" "best_ahead" (defArgs s_best_ahead) (defBody s_best_ahead) (defScope s_best_ahead) .none kV_best_ahead dc_best_ahead pm_best_ahead an_best_ahead cd_best_ahead ct_best_ahead),sl_best_ahead⟩) (c_best_ahead : PySem.W.codeIn K cd_best_ahead "best_ahead" = true) (k_best_ahead : PySem.W.keepIn K (.ref f_best_ahead) = true)
    (le_best_ahead : cd_best_ahead = .ref cc_best_ahead) (lk_best_ahead : K.lookup cc_best_ahead = some ⟨oq_best_ahead,oz_best_ahead,.fields vs_best_ahead,sq_best_ahead⟩) (lp_best_ahead : vs_best_ahead[11]? = some (.ref PT_best_ahead)) (lh_best_ahead : PySem.W.codeHdIn K cc_best_ahead PT_best_ahead = true) (ln_best_ahead : K.lookup PT_best_ahead = none) (lm_best_ahead : PT_best_ahead ∈ ts)
    {f_best_behind : Addr} {od_best_behind an_best_behind : Option Addr} {sl_best_behind : Array (Option Value)} {oc_best_behind kV_best_behind dc_best_behind pm_best_behind cd_best_behind ct_best_behind : Value}
    {cc_best_behind PT_best_behind : Addr} {oq_best_behind : Value} {oz_best_behind : Option Addr} {vs_best_behind : Array Value} {sq_best_behind : Array (Option Value)}
    (a_best_behind : PySem.W.nsIn K mainGlobals "best_behind" = some (some (.ref f_best_behind))) (l_best_behind : K.lookup f_best_behind = some ⟨oc_best_behind,od_best_behind,.func (PySem.W.fnOf "best_behind" "best_behind" (defArgs s_best_behind) (defBody s_best_behind) (defScope s_best_behind) .none kV_best_behind dc_best_behind pm_best_behind an_best_behind cd_best_behind ct_best_behind),sl_best_behind⟩) (c_best_behind : PySem.W.codeIn K cd_best_behind "best_behind" = true) (k_best_behind : PySem.W.keepIn K (.ref f_best_behind) = true)
    (le_best_behind : cd_best_behind = .ref cc_best_behind) (lk_best_behind : K.lookup cc_best_behind = some ⟨oq_best_behind,oz_best_behind,.fields vs_best_behind,sq_best_behind⟩) (lp_best_behind : vs_best_behind[11]? = some (.ref PT_best_behind)) (lh_best_behind : PySem.W.codeHdIn K cc_best_behind PT_best_behind = true) (ln_best_behind : K.lookup PT_best_behind = none) (lm_best_behind : PT_best_behind ∈ ts)
    {f_pair_at : Addr} {od_pair_at an_pair_at : Option Addr} {sl_pair_at : Array (Option Value)} {oc_pair_at kV_pair_at dc_pair_at pm_pair_at cd_pair_at ct_pair_at : Value}
    (a_pair_at : PySem.W.nsIn K mainGlobals "pair_at" = some (some (.ref f_pair_at))) (l_pair_at : K.lookup f_pair_at = some ⟨oc_pair_at,od_pair_at,.func (PySem.W.fnOf "pair_at" "pair_at" (defArgs s_pair_at) (defBody s_pair_at) (defScope s_pair_at) .none kV_pair_at dc_pair_at pm_pair_at an_pair_at cd_pair_at ct_pair_at),sl_pair_at⟩) (c_pair_at : PySem.W.codeIn K cd_pair_at "pair_at" = true) (k_pair_at : PySem.W.keepIn K (.ref f_pair_at) = true)
    {f_table_by : Addr} {od_table_by an_table_by : Option Addr} {sl_table_by : Array (Option Value)} {oc_table_by kV_table_by dc_table_by pm_table_by cd_table_by ct_table_by : Value}
    (a_table_by : PySem.W.nsIn K mainGlobals "table_by" = some (some (.ref f_table_by))) (l_table_by : K.lookup f_table_by = some ⟨oc_table_by,od_table_by,.func (PySem.W.fnOf "table_by" "table_by" (defArgs s_table_by) (defBody s_table_by) (defScope s_table_by) .none kV_table_by dc_table_by pm_table_by an_table_by cd_table_by ct_table_by),sl_table_by⟩) (c_table_by : PySem.W.codeIn K cd_table_by "table_by" = true) (k_table_by : PySem.W.keepIn K (.ref f_table_by) = true)
    {f_table_of : Addr} {od_table_of an_table_of : Option Addr} {sl_table_of : Array (Option Value)} {oc_table_of kV_table_of dc_table_of pm_table_of cd_table_of ct_table_of : Value}
    (a_table_of : PySem.W.nsIn K mainGlobals "table_of" = some (some (.ref f_table_of))) (l_table_of : K.lookup f_table_of = some ⟨oc_table_of,od_table_of,.func (PySem.W.fnOf "table_of" "table_of" (defArgs s_table_of) (defBody s_table_of) (defScope s_table_of) .none kV_table_of dc_table_of pm_table_of an_table_of cd_table_of ct_table_of),sl_table_of⟩) (c_table_of : PySem.W.codeIn K cd_table_of "table_of" = true) (k_table_of : PySem.W.keepIn K (.ref f_table_of) = true)
    {f_table_right : Addr} {od_table_right an_table_right : Option Addr} {sl_table_right : Array (Option Value)} {oc_table_right kV_table_right dc_table_right pm_table_right cd_table_right ct_table_right : Value}
    (a_table_right : PySem.W.nsIn K mainGlobals "table_right" = some (some (.ref f_table_right))) (l_table_right : K.lookup f_table_right = some ⟨oc_table_right,od_table_right,.func (PySem.W.fnOf "table_right" "table_right" (defArgs s_table_right) (defBody s_table_right) (defScope s_table_right) .none kV_table_right dc_table_right pm_table_right an_table_right cd_table_right ct_table_right),sl_table_right⟩) (c_table_right : PySem.W.codeIn K cd_table_right "table_right" = true) (k_table_right : PySem.W.keepIn K (.ref f_table_right) = true)
    {f__law_deal : Addr} {od__law_deal an__law_deal : Option Addr} {sl__law_deal : Array (Option Value)} {oc__law_deal kV__law_deal dc__law_deal pm__law_deal cd__law_deal ct__law_deal : Value}
    (a__law_deal : PySem.W.nsIn K mainGlobals "_law_deal" = some (some (.ref f__law_deal))) (l__law_deal : K.lookup f__law_deal = some ⟨oc__law_deal,od__law_deal,.func (PySem.W.fnOf "_law_deal" "_law_deal" (defArgs s__law_deal) (defBody s__law_deal) (defScope s__law_deal) .none kV__law_deal dc__law_deal pm__law_deal an__law_deal cd__law_deal ct__law_deal),sl__law_deal⟩) (c__law_deal : PySem.W.codeIn K cd__law_deal "_law_deal" = true) (k__law_deal : PySem.W.keepIn K (.ref f__law_deal) = true)
    {f__law_take : Addr} {od__law_take an__law_take : Option Addr} {sl__law_take : Array (Option Value)} {oc__law_take kV__law_take dc__law_take pm__law_take cd__law_take ct__law_take : Value}
    (a__law_take : PySem.W.nsIn K mainGlobals "_law_take" = some (some (.ref f__law_take))) (l__law_take : K.lookup f__law_take = some ⟨oc__law_take,od__law_take,.func (PySem.W.fnOf "_law_take" "_law_take" (defArgs s__law_take) (defBody s__law_take) (defScope s__law_take) .none kV__law_take dc__law_take pm__law_take an__law_take cd__law_take ct__law_take),sl__law_take⟩) (c__law_take : PySem.W.codeIn K cd__law_take "_law_take" = true) (k__law_take : PySem.W.keepIn K (.ref f__law_take) = true)
    {f__law_row : Addr} {od__law_row an__law_row : Option Addr} {sl__law_row : Array (Option Value)} {oc__law_row kV__law_row dc__law_row pm__law_row cd__law_row ct__law_row : Value}
    (a__law_row : PySem.W.nsIn K mainGlobals "_law_row" = some (some (.ref f__law_row))) (l__law_row : K.lookup f__law_row = some ⟨oc__law_row,od__law_row,.func (PySem.W.fnOf "_law_row" "_law_row" (defArgs s__law_row) (defBody s__law_row) (defScope s__law_row) .none kV__law_row dc__law_row pm__law_row an__law_row cd__law_row ct__law_row),sl__law_row⟩) (c__law_row : PySem.W.codeIn K cd__law_row "_law_row" = true) (k__law_row : PySem.W.keepIn K (.ref f__law_row) = true)
    {f__law_elder : Addr} {od__law_elder an__law_elder : Option Addr} {sl__law_elder : Array (Option Value)} {oc__law_elder kV__law_elder dc__law_elder pm__law_elder cd__law_elder ct__law_elder : Value}
    (a__law_elder : PySem.W.nsIn K mainGlobals "_law_elder" = some (some (.ref f__law_elder))) (l__law_elder : K.lookup f__law_elder = some ⟨oc__law_elder,od__law_elder,.func (PySem.W.fnOf "_law_elder" "_law_elder" (defArgs s__law_elder) (defBody s__law_elder) (defScope s__law_elder) .none kV__law_elder dc__law_elder pm__law_elder an__law_elder cd__law_elder ct__law_elder),sl__law_elder⟩) (c__law_elder : PySem.W.codeIn K cd__law_elder "_law_elder" = true) (k__law_elder : PySem.W.keepIn K (.ref f__law_elder) = true)
    {f__law_tree : Addr} {od__law_tree an__law_tree : Option Addr} {sl__law_tree : Array (Option Value)} {oc__law_tree kV__law_tree dc__law_tree pm__law_tree cd__law_tree ct__law_tree : Value}
    (a__law_tree : PySem.W.nsIn K mainGlobals "_law_tree" = some (some (.ref f__law_tree))) (l__law_tree : K.lookup f__law_tree = some ⟨oc__law_tree,od__law_tree,.func (PySem.W.fnOf "_law_tree" "_law_tree" (defArgs s__law_tree) (defBody s__law_tree) (defScope s__law_tree) .none kV__law_tree dc__law_tree pm__law_tree an__law_tree cd__law_tree ct__law_tree),sl__law_tree⟩) (c__law_tree : PySem.W.codeIn K cd__law_tree "_law_tree" = true) (k__law_tree : PySem.W.keepIn K (.ref f__law_tree) = true)
    {f__law_over : Addr} {od__law_over an__law_over : Option Addr} {sl__law_over : Array (Option Value)} {oc__law_over kV__law_over dc__law_over pm__law_over cd__law_over ct__law_over : Value}
    (a__law_over : PySem.W.nsIn K mainGlobals "_law_over" = some (some (.ref f__law_over))) (l__law_over : K.lookup f__law_over = some ⟨oc__law_over,od__law_over,.func (PySem.W.fnOf "_law_over" "_law_over" (defArgs s__law_over) (defBody s__law_over) (defScope s__law_over) .none kV__law_over dc__law_over pm__law_over an__law_over cd__law_over ct__law_over),sl__law_over⟩) (c__law_over : PySem.W.codeIn K cd__law_over "_law_over" = true) (k__law_over : PySem.W.keepIn K (.ref f__law_over) = true)
    {f__law_either : Addr} {od__law_either an__law_either : Option Addr} {sl__law_either : Array (Option Value)} {oc__law_either kV__law_either dc__law_either pm__law_either cd__law_either ct__law_either : Value}
    (a__law_either : PySem.W.nsIn K mainGlobals "_law_either" = some (some (.ref f__law_either))) (l__law_either : K.lookup f__law_either = some ⟨oc__law_either,od__law_either,.func (PySem.W.fnOf "_law_either" "_law_either" (defArgs s__law_either) (defBody s__law_either) (defScope s__law_either) .none kV__law_either dc__law_either pm__law_either an__law_either cd__law_either ct__law_either),sl__law_either⟩) (c__law_either : PySem.W.codeIn K cd__law_either "_law_either" = true) (k__law_either : PySem.W.keepIn K (.ref f__law_either) = true)
    {f__law_pair : Addr} {od__law_pair an__law_pair : Option Addr} {sl__law_pair : Array (Option Value)} {oc__law_pair kV__law_pair dc__law_pair pm__law_pair cd__law_pair ct__law_pair : Value}
    (a__law_pair : PySem.W.nsIn K mainGlobals "_law_pair" = some (some (.ref f__law_pair))) (l__law_pair : K.lookup f__law_pair = some ⟨oc__law_pair,od__law_pair,.func (PySem.W.fnOf "_law_pair" "_law_pair" (defArgs s__law_pair) (defBody s__law_pair) (defScope s__law_pair) .none kV__law_pair dc__law_pair pm__law_pair an__law_pair cd__law_pair ct__law_pair),sl__law_pair⟩) (c__law_pair : PySem.W.codeIn K cd__law_pair "_law_pair" = true) (k__law_pair : PySem.W.keepIn K (.ref f__law_pair) = true)
    {f__law_under : Addr} {od__law_under an__law_under : Option Addr} {sl__law_under : Array (Option Value)} {oc__law_under kV__law_under dc__law_under pm__law_under cd__law_under ct__law_under : Value}
    (a__law_under : PySem.W.nsIn K mainGlobals "_law_under" = some (some (.ref f__law_under))) (l__law_under : K.lookup f__law_under = some ⟨oc__law_under,od__law_under,.func (PySem.W.fnOf "_law_under" "_law_under" (defArgs s__law_under) (defBody s__law_under) (defScope s__law_under) .none kV__law_under dc__law_under pm__law_under an__law_under cd__law_under ct__law_under),sl__law_under⟩) (c__law_under : PySem.W.codeIn K cd__law_under "_law_under" = true) (k__law_under : PySem.W.keepIn K (.ref f__law_under) = true)
    {f__law_hand : Addr} {od__law_hand an__law_hand : Option Addr} {sl__law_hand : Array (Option Value)} {oc__law_hand kV__law_hand dc__law_hand pm__law_hand cd__law_hand ct__law_hand : Value}
    (a__law_hand : PySem.W.nsIn K mainGlobals "_law_hand" = some (some (.ref f__law_hand))) (l__law_hand : K.lookup f__law_hand = some ⟨oc__law_hand,od__law_hand,.func (PySem.W.fnOf "_law_hand" "_law_hand" (defArgs s__law_hand) (defBody s__law_hand) (defScope s__law_hand) .none kV__law_hand dc__law_hand pm__law_hand an__law_hand cd__law_hand ct__law_hand),sl__law_hand⟩) (c__law_hand : PySem.W.codeIn K cd__law_hand "_law_hand" = true) (k__law_hand : PySem.W.keepIn K (.ref f__law_hand) = true)
    {f__law_ruled : Addr} {od__law_ruled an__law_ruled : Option Addr} {sl__law_ruled : Array (Option Value)} {oc__law_ruled kV__law_ruled dc__law_ruled pm__law_ruled cd__law_ruled ct__law_ruled : Value}
    (a__law_ruled : PySem.W.nsIn K mainGlobals "_law_ruled" = some (some (.ref f__law_ruled))) (l__law_ruled : K.lookup f__law_ruled = some ⟨oc__law_ruled,od__law_ruled,.func (PySem.W.fnOf "_law_ruled" "_law_ruled" (defArgs s__law_ruled) (defBody s__law_ruled) (defScope s__law_ruled) .none kV__law_ruled dc__law_ruled pm__law_ruled an__law_ruled cd__law_ruled ct__law_ruled),sl__law_ruled⟩) (c__law_ruled : PySem.W.codeIn K cd__law_ruled "_law_ruled" = true) (k__law_ruled : PySem.W.keepIn K (.ref f__law_ruled) = true)
    {f__law_table : Addr} {od__law_table an__law_table : Option Addr} {sl__law_table : Array (Option Value)} {oc__law_table kV__law_table dc__law_table pm__law_table cd__law_table ct__law_table : Value}
    {cc__law_table PT__law_table : Addr} {oq__law_table : Value} {oz__law_table : Option Addr} {vs__law_table : Array Value} {sq__law_table : Array (Option Value)}
    (a__law_table : PySem.W.nsIn K mainGlobals "_law_table" = some (some (.ref f__law_table))) (l__law_table : K.lookup f__law_table = some ⟨oc__law_table,od__law_table,.func (PySem.W.fnOf "_law_table" "_law_table" (defArgs s__law_table) (defBody s__law_table) (defScope s__law_table) .none kV__law_table dc__law_table pm__law_table an__law_table cd__law_table ct__law_table),sl__law_table⟩) (c__law_table : PySem.W.codeIn K cd__law_table "_law_table" = true) (k__law_table : PySem.W.keepIn K (.ref f__law_table) = true)
    (le__law_table : cd__law_table = .ref cc__law_table) (lk__law_table : K.lookup cc__law_table = some ⟨oq__law_table,oz__law_table,.fields vs__law_table,sq__law_table⟩) (lp__law_table : vs__law_table[11]? = some (.ref PT__law_table)) (lh__law_table : PySem.W.codeHdIn K cc__law_table PT__law_table = true) (ln__law_table : K.lookup PT__law_table = none) (lm__law_table : PT__law_table ∈ ts)
    {f__law_pair_bent : Addr} {od__law_pair_bent an__law_pair_bent : Option Addr} {sl__law_pair_bent : Array (Option Value)} {oc__law_pair_bent kV__law_pair_bent dc__law_pair_bent pm__law_pair_bent cd__law_pair_bent ct__law_pair_bent : Value}
    (a__law_pair_bent : PySem.W.nsIn K mainGlobals "_law_pair_bent" = some (some (.ref f__law_pair_bent))) (l__law_pair_bent : K.lookup f__law_pair_bent = some ⟨oc__law_pair_bent,od__law_pair_bent,.func (PySem.W.fnOf "_law_pair_bent" "_law_pair_bent" (defArgs s__law_pair_bent) (defBody s__law_pair_bent) (defScope s__law_pair_bent) .none kV__law_pair_bent dc__law_pair_bent pm__law_pair_bent an__law_pair_bent cd__law_pair_bent ct__law_pair_bent),sl__law_pair_bent⟩) (c__law_pair_bent : PySem.W.codeIn K cd__law_pair_bent "_law_pair_bent" = true) (k__law_pair_bent : PySem.W.keepIn K (.ref f__law_pair_bent) = true)
    {f__law_bent : Addr} {od__law_bent an__law_bent : Option Addr} {sl__law_bent : Array (Option Value)} {oc__law_bent kV__law_bent dc__law_bent pm__law_bent cd__law_bent ct__law_bent : Value}
    (a__law_bent : PySem.W.nsIn K mainGlobals "_law_bent" = some (some (.ref f__law_bent))) (l__law_bent : K.lookup f__law_bent = some ⟨oc__law_bent,od__law_bent,.func (PySem.W.fnOf "_law_bent" "_law_bent" (defArgs s__law_bent) (defBody s__law_bent) (defScope s__law_bent) .none kV__law_bent dc__law_bent pm__law_bent an__law_bent cd__law_bent ct__law_bent),sl__law_bent⟩) (c__law_bent : PySem.W.codeIn K cd__law_bent "_law_bent" = true) (k__law_bent : PySem.W.keepIn K (.ref f__law_bent) = true)
    {f__law_is_table : Addr} {od__law_is_table an__law_is_table : Option Addr} {sl__law_is_table : Array (Option Value)} {oc__law_is_table kV__law_is_table dc__law_is_table pm__law_is_table cd__law_is_table ct__law_is_table : Value}
    (a__law_is_table : PySem.W.nsIn K mainGlobals "_law_is_table" = some (some (.ref f__law_is_table))) (l__law_is_table : K.lookup f__law_is_table = some ⟨oc__law_is_table,od__law_is_table,.func (PySem.W.fnOf "_law_is_table" "_law_is_table" (defArgs s__law_is_table) (defBody s__law_is_table) (defScope s__law_is_table) .none kV__law_is_table dc__law_is_table pm__law_is_table an__law_is_table cd__law_is_table ct__law_is_table),sl__law_is_table⟩) (c__law_is_table : PySem.W.codeIn K cd__law_is_table "_law_is_table" = true) (k__law_is_table : PySem.W.keepIn K (.ref f__law_is_table) = true)
    {f_law : Addr} {od_law an_law : Option Addr} {sl_law : Array (Option Value)} {oc_law kV_law dc_law pm_law cd_law ct_law : Value}
    (a_law : PySem.W.nsIn K mainGlobals "law" = some (some (.ref f_law))) (l_law : K.lookup f_law = some ⟨oc_law,od_law,.func (PySem.W.fnOf "law" "law" (defArgs s_law) (defBody s_law) (defScope s_law) .none kV_law dc_law pm_law an_law cd_law ct_law),sl_law⟩) (c_law : PySem.W.codeIn K cd_law "law" = true) (k_law : PySem.W.keepIn K (.ref f_law) = true)
    {C_DipError : Addr} (n_DipError : PySem.W.nsIn K mainGlobals "DipError" = some (some (.ref C_DipError))) (x_DipError : PySem.W.excIn K C_DipError bmV newV = true) (d_DipError : PySem.W.hasDictIn K C_DipError = true) (y_DipError : PySem.W.typeIn K (.ref C_DipError) = some (.type "type"))
    {C_Empty : Addr} (n_Empty : PySem.W.nsIn K mainGlobals "Empty" = some (some (.ref C_Empty))) (x_Empty : PySem.W.excIn K C_Empty bmV newV = true) (d_Empty : PySem.W.hasDictIn K C_Empty = true) (y_Empty : PySem.W.typeIn K (.ref C_Empty) = some (.type "type"))
    {C_TooMany : Addr} (n_TooMany : PySem.W.nsIn K mainGlobals "TooMany" = some (some (.ref C_TooMany))) (x_TooMany : PySem.W.excIn K C_TooMany bmV newV = true) (d_TooMany : PySem.W.hasDictIn K C_TooMany = true) (y_TooMany : PySem.W.typeIn K (.ref C_TooMany) = some (.type "type"))
    (b_bool : PySem.W.nsIn K mainGlobals "bool" = some none)
    (b_enumerate : PySem.W.nsIn K mainGlobals "enumerate" = some none)
    (b_isinstance : PySem.W.nsIn K mainGlobals "isinstance" = some none)
    (b_len : PySem.W.nsIn K mainGlobals "len" = some none)
    (b_list : PySem.W.nsIn K mainGlobals "list" = some none)
    (b_max : PySem.W.nsIn K mainGlobals "max" = some none)
    (b_min : PySem.W.nsIn K mainGlobals "min" = some none)
    (b_range : PySem.W.nsIn K mainGlobals "range" = some none)
    (b_sorted : PySem.W.nsIn K mainGlobals "sorted" = some none)
    (b_tuple : PySem.W.nsIn K mainGlobals "tuple" = some none)
    {t_MOST_HELD : Tok} (m_MOST_HELD : PySem.W.nsIn K mainGlobals "MOST_HELD" = some (some (.int 6 t_MOST_HELD)))
    {t_MOST_HOLDING : Tok} (m_MOST_HOLDING : PySem.W.nsIn K mainGlobals "MOST_HOLDING" = some (some (.int 16 t_MOST_HOLDING)))
    (nd : [PT_from_below,PT_best_ahead,PT_best_behind,PT__law_table].Nodup)
    : ∃ fd : FuncData,(∀ (s : Shared) (v : Value),BindsTo s fd ⟨[v],[]⟩ [("script",v)])∧(∀ p ∈ tabsL K mg,p.1 ∈ ts∧K.lookup p.1 = none∧∃ c,PySem.W.codeHdIn K c p.1 = true)∧((tabsL K mg).map (·.1)).Nodup∧∀ base : Heap,K.In base→base.Ns mainGlobals mg→BM mg base→FnOk l.prog w K mg base (CXE l.prog w) 9 fa fd ["script"] (spLaw K mg):=by
  have e:=hfa.symm.trans (PySem.W.mg_of X G a_law)
  cases e
  have q_DipError : clsAt mg "DipError" = C_DipError:=by unfold clsAt; rw [PySem.W.mg_of X G n_DipError]
  have q_Empty : clsAt mg "Empty" = C_Empty:=by unfold clsAt; rw [PySem.W.mg_of X G n_Empty]
  have q_TooMany : clsAt mg "TooMany" = C_TooMany:=by unfold clsAt; rw [PySem.W.mg_of X G n_TooMany]
  have q_MOST_HELD : tokAt mg "MOST_HELD" = t_MOST_HELD:=by unfold tokAt; rw [PySem.W.mg_of X G m_MOST_HELD]
  have q_MOST_HOLDING : tokAt mg "MOST_HOLDING" = t_MOST_HOLDING:=by unfold tokAt; rw [PySem.W.mg_of X G m_MOST_HOLDING]
  have T : Txt K mg:={
    b_bool:=PySem.W.mg_none_of X G b_bool
    b_enumerate:=PySem.W.mg_none_of X G b_enumerate
    b_isinstance:=PySem.W.mg_none_of X G b_isinstance
    b_len:=PySem.W.mg_none_of X G b_len
    b_list:=PySem.W.mg_none_of X G b_list
    b_max:=PySem.W.mg_none_of X G b_max
    b_min:=PySem.W.mg_none_of X G b_min
    b_range:=PySem.W.mg_none_of X G b_range
    b_sorted:=PySem.W.mg_none_of X G b_sorted
    b_tuple:=PySem.W.mg_none_of X G b_tuple
    c_DipError:=by rw [q_DipError]; exact PySem.W.mg_of X G n_DipError
    x_DipError:=by rw [q_DipError]; exact x_DipError
    c_Empty:=by rw [q_Empty]; exact PySem.W.mg_of X G n_Empty
    x_Empty:=by rw [q_Empty]; exact x_Empty
    c_TooMany:=by rw [q_TooMany]; exact PySem.W.mg_of X G n_TooMany
    x_TooMany:=by rw [q_TooMany]; exact x_TooMany
    m_MOST_HELD:=by rw [q_MOST_HELD]; exact PySem.W.mg_of X G m_MOST_HELD
    m_MOST_HOLDING:=by rw [q_MOST_HOLDING]; exact PySem.W.mg_of X G m_MOST_HOLDING
  }
  subst le_from_below
  have tq_from_below:=tabP_of (PySem.W.mg_of X G a_from_below) l_from_below rfl lk_from_below lp_from_below
  have L_from_below : LamD K mg "from_below" f_from_below:=⟨cc_from_below,tq_from_below.2,by rw [tq_from_below.1]; exact lh_from_below⟩
  subst le_best_ahead
  have tq_best_ahead:=tabP_of (PySem.W.mg_of X G a_best_ahead) l_best_ahead rfl lk_best_ahead lp_best_ahead
  have L_best_ahead : LamD K mg "best_ahead" f_best_ahead:=⟨cc_best_ahead,tq_best_ahead.2,by rw [tq_best_ahead.1]; exact lh_best_ahead⟩
  subst le_best_behind
  have tq_best_behind:=tabP_of (PySem.W.mg_of X G a_best_behind) l_best_behind rfl lk_best_behind lp_best_behind
  have L_best_behind : LamD K mg "best_behind" f_best_behind:=⟨cc_best_behind,tq_best_behind.2,by rw [tq_best_behind.1]; exact lh_best_behind⟩
  subst le__law_table
  have tq__law_table:=tabP_of (PySem.W.mg_of X G a__law_table) l__law_table rfl lk__law_table lp__law_table
  have L__law_table : LamD K mg "_law_table" f__law_table:=⟨cc__law_table,tq__law_table.2,by rw [tq__law_table.1]; exact lh__law_table⟩
  have F_need_numbers:=fun_mkD (st:=s_need_numbers) l_need_numbers c_need_numbers k_need_numbers
  have B_need_numbers:=F_need_numbers.binds (ps:=["row","fewest"]) (ds:=[]) t_need_numbers fun _ _ _ _ _ _ us hl=>match us,hl with | [_,_],_=>⟨_,rfl,rfl⟩
  have BD_need_numbers:=F_need_numbers.binds (ps:=["row","fewest"]) (ds:=[.int 1 tk_need_numbers]) t_need_numbers fun _ _ _ _ _ _ us hl=>match us,(show us.length = 1 from Nat.succ.inj (List.length_append.symm.trans hl)) with | [_],_=>⟨_,rfl,rfl⟩
  have F_settle:=fun_mk (st:=s_settle) l_settle c_settle k_settle
  have B_settle:=F_settle.binds (ps:=["elders","spine","place","keep"]) fun _ _ _ _ _ _ us hl=>match us,hl with | [_,_,_,_],_=>rfl
  have F_tree_of:=fun_mk (st:=s_tree_of) l_tree_of c_tree_of k_tree_of
  have B_tree_of:=F_tree_of.binds (ps:=["row"]) fun _ _ _ _ _ _ us hl=>match us,hl with | [_],_=>rfl
  have F_way_up:=fun_mk (st:=s_way_up) l_way_up c_way_up k_way_up
  have B_way_up:=F_way_up.binds (ps:=["tree","place"]) fun _ _ _ _ _ _ us hl=>match us,hl with | [_,_],_=>rfl
  have F_young_of:=fun_mk (st:=s_young_of) l_young_of c_young_of k_young_of
  have B_young_of:=F_young_of.binds (ps:=["tree"]) fun _ _ _ _ _ _ us hl=>match us,hl with | [_],_=>rfl
  have F_from_below:=fun_mk (st:=s_from_below) l_from_below c_from_below k_from_below
  have B_from_below:=F_from_below.binds (ps:=["tree"]) fun _ _ _ _ _ _ us hl=>match us,hl with | [_],_=>rfl
  have F_need_loose:=fun_mk (st:=s_need_loose) l_need_loose c_need_loose k_need_loose
  have B_need_loose:=F_need_loose.binds (ps:=["row","text"]) fun _ _ _ _ _ _ us hl=>match us,hl with | [_,_],_=>rfl
  have F_best_ahead:=fun_mk (st:=s_best_ahead) l_best_ahead c_best_ahead k_best_ahead
  have B_best_ahead:=F_best_ahead.binds (ps:=["text","pairs","i"]) fun _ _ _ _ _ _ us hl=>match us,hl with | [_,_,_],_=>rfl
  have F_best_behind:=fun_mk (st:=s_best_behind) l_best_behind c_best_behind k_best_behind
  have B_best_behind:=F_best_behind.binds (ps:=["text","pairs","i"]) fun _ _ _ _ _ _ us hl=>match us,hl with | [_,_,_],_=>rfl
  have F_pair_at:=fun_mk (st:=s_pair_at) l_pair_at c_pair_at k_pair_at
  have B_pair_at:=F_pair_at.binds (ps:=["text","table","young","i"]) fun _ _ _ _ _ _ us hl=>match us,hl with | [_,_,_,_],_=>rfl
  have F_table_by:=fun_mk (st:=s_table_by) l_table_by c_table_by k_table_by
  have B_table_by:=F_table_by.binds (ps:=["tree","text"]) fun _ _ _ _ _ _ us hl=>match us,hl with | [_,_],_=>rfl
  have F_table_of:=fun_mk (st:=s_table_of) l_table_of c_table_of k_table_of
  have B_table_of:=F_table_of.binds (ps:=["row","text"]) fun _ _ _ _ _ _ us hl=>match us,hl with | [_,_],_=>rfl
  have F_table_right:=fun_mk (st:=s_table_right) l_table_right c_table_right k_table_right
  have B_table_right:=F_table_right.binds (ps:=["row","text","table"]) fun _ _ _ _ _ _ us hl=>match us,hl with | [_,_,_],_=>rfl
  have F__law_deal:=fun_mk (st:=s__law_deal) l__law_deal c__law_deal k__law_deal
  have B__law_deal:=F__law_deal.binds (ps:=["script","k"]) fun _ _ _ _ _ _ us hl=>match us,hl with | [_,_],_=>rfl
  have F__law_take:=fun_mk (st:=s__law_take) l__law_take c__law_take k__law_take
  have B__law_take:=F__law_take.binds (ps:=["pot","many"]) fun _ _ _ _ _ _ us hl=>match us,hl with | [_,_],_=>rfl
  have F__law_row:=fun_mk (st:=s__law_row) l__law_row c__law_row k__law_row
  have B__law_row:=F__law_row.binds (ps:=["pot","most"]) fun _ _ _ _ _ _ us hl=>match us,hl with | [_,_],_=>rfl
  have F__law_elder:=fun_mk (st:=s__law_elder) l__law_elder c__law_elder k__law_elder
  have B__law_elder:=F__law_elder.binds (ps:=["row","place"]) fun _ _ _ _ _ _ us hl=>match us,hl with | [_,_],_=>rfl
  have F__law_tree:=fun_mk (st:=s__law_tree) l__law_tree c__law_tree k__law_tree
  have B__law_tree:=F__law_tree.binds (ps:=["row"]) fun _ _ _ _ _ _ us hl=>match us,hl with | [_],_=>rfl
  have F__law_over:=fun_mk (st:=s__law_over) l__law_over c__law_over k__law_over
  have B__law_over:=F__law_over.binds (ps:=["tree","place"]) fun _ _ _ _ _ _ us hl=>match us,hl with | [_,_],_=>rfl
  have F__law_either:=fun_mk (st:=s__law_either) l__law_either c__law_either k__law_either
  have B__law_either:=F__law_either.binds (ps:=["pot","some"]) fun _ _ _ _ _ _ us hl=>match us,hl with | [_,_],_=>rfl
  have F__law_pair:=fun_mk (st:=s__law_pair) l__law_pair c__law_pair k__law_pair
  have B__law_pair:=F__law_pair.binds (ps:=["pot","most","wide"]) fun _ _ _ _ _ _ us hl=>match us,hl with | [_,_,_],_=>rfl
  have F__law_under:=fun_mk (st:=s__law_under) l__law_under c__law_under k__law_under
  have B__law_under:=F__law_under.binds (ps:=["tree","place"]) fun _ _ _ _ _ _ us hl=>match us,hl with | [_,_],_=>rfl
  have F__law_hand:=fun_mk (st:=s__law_hand) l__law_hand c__law_hand k__law_hand
  have B__law_hand:=F__law_hand.binds (ps:=["tree","place","later"]) fun _ _ _ _ _ _ us hl=>match us,hl with | [_,_,_],_=>rfl
  have F__law_ruled:=fun_mk (st:=s__law_ruled) l__law_ruled c__law_ruled k__law_ruled
  have B__law_ruled:=F__law_ruled.binds (ps:=["tree","text","table","place","at"]) fun _ _ _ _ _ _ us hl=>match us,hl with | [_,_,_,_,_],_=>rfl
  have F__law_table:=fun_mk (st:=s__law_table) l__law_table c__law_table k__law_table
  have B__law_table:=F__law_table.binds (ps:=["row","text"]) fun _ _ _ _ _ _ us hl=>match us,hl with | [_,_],_=>rfl
  have F__law_pair_bent:=fun_mk (st:=s__law_pair_bent) l__law_pair_bent c__law_pair_bent k__law_pair_bent
  have B__law_pair_bent:=F__law_pair_bent.binds (ps:=["pot","pair","many"]) fun _ _ _ _ _ _ us hl=>match us,hl with | [_,_,_],_=>rfl
  have F__law_bent:=fun_mk (st:=s__law_bent) l__law_bent c__law_bent k__law_bent
  have B__law_bent:=F__law_bent.binds (ps:=["pot","table","many"]) fun _ _ _ _ _ _ us hl=>match us,hl with | [_,_,_],_=>rfl
  have F__law_is_table:=fun_mk (st:=s__law_is_table) l__law_is_table c__law_is_table k__law_is_table
  have B__law_is_table:=F__law_is_table.binds (ps:=["row","text","table"]) fun _ _ _ _ _ _ us hl=>match us,hl with | [_,_,_],_=>rfl
  have F_law:=fun_mk (st:=s_law) l_law c_law k_law
  refine ⟨PySem.W.fnOf "law" "law" (defArgs s_law) (defBody s_law) (defScope s_law) .none kV_law dc_law pm_law an_law cd_law ct_law,fun s v=>.of_eq rfl,?tb,?nd,fun base _ _ B=>?_⟩
  case tb =>
    intro p hp
    unfold tabsL at hp
    simp only [List.mem_cons,List.not_mem_nil,or_false] at hp
    rcases hp with rfl | rfl | rfl | rfl
    · exact ⟨by rw [tq_from_below.1]; exact lm_from_below,by rw [tq_from_below.1]; exact ln_from_below,cc_from_below,by rw [tq_from_below.1]; exact lh_from_below⟩
    · exact ⟨by rw [tq_best_ahead.1]; exact lm_best_ahead,by rw [tq_best_ahead.1]; exact ln_best_ahead,cc_best_ahead,by rw [tq_best_ahead.1]; exact lh_best_ahead⟩
    · exact ⟨by rw [tq_best_behind.1]; exact lm_best_behind,by rw [tq_best_behind.1]; exact ln_best_behind,cc_best_behind,by rw [tq_best_behind.1]; exact lh_best_behind⟩
    · exact ⟨by rw [tq__law_table.1]; exact lm__law_table,by rw [tq__law_table.1]; exact ln__law_table,cc__law_table,by rw [tq__law_table.1]; exact lh__law_table⟩
  case nd =>
    unfold tabsL
    simp only [List.map_cons,List.map_nil]
    rw [tq_from_below.1,tq_best_ahead.1,tq_best_behind.1,tq__law_table.1]
    exact nd
  have G_settle : Callee l.prog w K mg base "settle" 1 ["elders","spine","place","keep"] (sp_settle K mg):=⟨_,_,PySem.W.mg_of X G a_settle,k_settle,B_settle,ok_settle F_settle  T⟩
  have G_tree_of : Callee l.prog w K mg base "tree_of" 2 ["row"] (sp_tree_of K mg):=⟨_,_,PySem.W.mg_of X G a_tree_of,k_tree_of,B_tree_of,ok_tree_of F_tree_of G_settle T⟩
  have G_need_numbers : Callee l.prog w K mg base "need_numbers" 1 ["row","fewest"] (sp_need_numbers K mg):=⟨_,_,PySem.W.mg_of X G a_need_numbers,k_need_numbers,B_need_numbers,ok_need_numbers F_need_numbers  T⟩
  have GD_need_numbers : CalleeD l.prog w K mg base "need_numbers" 1 ["row","fewest"] [V.int 1] (sp_need_numbers K mg):=⟨_,_,_,PySem.W.mg_of X G a_need_numbers,k_need_numbers,BD_need_numbers,.cons ⟨_,rfl⟩ .nil,ok_need_numbers F_need_numbers  T⟩
  have G_need_loose : Callee l.prog w K mg base "need_loose" 2 ["row","text"] (sp_need_loose K mg):=⟨_,_,PySem.W.mg_of X G a_need_loose,k_need_loose,B_need_loose,ok_need_loose F_need_loose GD_need_numbers T⟩
  have G_young_of : Callee l.prog w K mg base "young_of" 1 ["tree"] (sp_young_of K mg):=⟨_,_,PySem.W.mg_of X G a_young_of,k_young_of,B_young_of,ok_young_of F_young_of  T⟩
  have G_way_up : Callee l.prog w K mg base "way_up" 1 ["tree","place"] (sp_way_up K mg):=⟨_,_,PySem.W.mg_of X G a_way_up,k_way_up,B_way_up,ok_way_up F_way_up  T⟩
  have G_from_below : Callee l.prog w K mg base "from_below" 5 ["tree"] (sp_from_below K mg):=⟨_,_,PySem.W.mg_of X G a_from_below,k_from_below,B_from_below,ok_from_below F_from_below G_way_up L_from_below B T⟩
  have G_best_ahead : Callee l.prog w K mg base "best_ahead" 1 ["text","pairs","i"] (sp_best_ahead K mg):=⟨_,_,PySem.W.mg_of X G a_best_ahead,k_best_ahead,B_best_ahead,ok_best_ahead F_best_ahead  L_best_ahead B T⟩
  have G_best_behind : Callee l.prog w K mg base "best_behind" 1 ["text","pairs","i"] (sp_best_behind K mg):=⟨_,_,PySem.W.mg_of X G a_best_behind,k_best_behind,B_best_behind,ok_best_behind F_best_behind  L_best_behind B T⟩
  have G_pair_at : Callee l.prog w K mg base "pair_at" 2 ["text","table","young","i"] (sp_pair_at K mg):=⟨_,_,PySem.W.mg_of X G a_pair_at,k_pair_at,B_pair_at,ok_pair_at F_pair_at G_best_ahead G_best_behind T⟩
  have G_table_by : Callee l.prog w K mg base "table_by" 6 ["tree","text"] (sp_table_by K mg):=⟨_,_,PySem.W.mg_of X G a_table_by,k_table_by,B_table_by,ok_table_by F_table_by G_young_of G_from_below G_pair_at T⟩
  have G_table_of : Callee l.prog w K mg base "table_of" 7 ["row","text"] (sp_table_of K mg):=⟨_,_,PySem.W.mg_of X G a_table_of,k_table_of,B_table_of,ok_table_of F_table_of G_tree_of G_need_loose G_table_by T⟩
  have G_table_right : Callee l.prog w K mg base "table_right" 8 ["row","text","table"] (sp_table_right K mg):=⟨_,_,PySem.W.mg_of X G a_table_right,k_table_right,B_table_right,ok_table_right F_table_right G_table_of T⟩
  have G__law_deal : Callee l.prog w K mg base "_law_deal" 1 ["script","k"] (sp__law_deal K mg):=⟨_,_,PySem.W.mg_of X G a__law_deal,k__law_deal,B__law_deal,ok__law_deal F__law_deal  T⟩
  have G__law_take : Callee l.prog w K mg base "_law_take" 1 ["pot","many"] (sp__law_take K mg):=⟨_,_,PySem.W.mg_of X G a__law_take,k__law_take,B__law_take,ok__law_take F__law_take  T⟩
  have G__law_either : Callee l.prog w K mg base "_law_either" 2 ["pot","some"] (sp__law_either K mg):=⟨_,_,PySem.W.mg_of X G a__law_either,k__law_either,B__law_either,ok__law_either F__law_either G__law_take T⟩
  have G__law_row : Callee l.prog w K mg base "_law_row" 2 ["pot","most"] (sp__law_row K mg):=⟨_,_,PySem.W.mg_of X G a__law_row,k__law_row,B__law_row,ok__law_row F__law_row G__law_take T⟩
  have G__law_pair : Callee l.prog w K mg base "_law_pair" 3 ["pot","most","wide"] (sp__law_pair K mg):=⟨_,_,PySem.W.mg_of X G a__law_pair,k__law_pair,B__law_pair,ok__law_pair F__law_pair G__law_take G__law_row T⟩
  have G__law_elder : Callee l.prog w K mg base "_law_elder" 1 ["row","place"] (sp__law_elder K mg):=⟨_,_,PySem.W.mg_of X G a__law_elder,k__law_elder,B__law_elder,ok__law_elder F__law_elder  T⟩
  have G__law_tree : Callee l.prog w K mg base "_law_tree" 2 ["row"] (sp__law_tree K mg):=⟨_,_,PySem.W.mg_of X G a__law_tree,k__law_tree,B__law_tree,ok__law_tree F__law_tree G__law_elder T⟩
  have G__law_over : Callee l.prog w K mg base "_law_over" 1 ["tree","place"] (sp__law_over K mg):=⟨_,_,PySem.W.mg_of X G a__law_over,k__law_over,B__law_over,ok__law_over F__law_over  T⟩
  have G__law_under : Callee l.prog w K mg base "_law_under" 2 ["tree","place"] (sp__law_under K mg):=⟨_,_,PySem.W.mg_of X G a__law_under,k__law_under,B__law_under,ok__law_under F__law_under G__law_over T⟩
  have G__law_hand : Callee l.prog w K mg base "_law_hand" 1 ["tree","place","later"] (sp__law_hand K mg):=⟨_,_,PySem.W.mg_of X G a__law_hand,k__law_hand,B__law_hand,ok__law_hand F__law_hand  T⟩
  have G__law_ruled : Callee l.prog w K mg base "_law_ruled" 2 ["tree","text","table","place","at"] (sp__law_ruled K mg):=⟨_,_,PySem.W.mg_of X G a__law_ruled,k__law_ruled,B__law_ruled,ok__law_ruled F__law_ruled G__law_hand T⟩
  have G__law_table : Callee l.prog w K mg base "_law_table" 6 ["row","text"] (sp__law_table K mg):=⟨_,_,PySem.W.mg_of X G a__law_table,k__law_table,B__law_table,ok__law_table F__law_table G__law_tree G__law_under G__law_ruled L__law_table B T⟩
  have G__law_pair_bent : Callee l.prog w K mg base "_law_pair_bent" 2 ["pot","pair","many"] (sp__law_pair_bent K mg):=⟨_,_,PySem.W.mg_of X G a__law_pair_bent,k__law_pair_bent,B__law_pair_bent,ok__law_pair_bent F__law_pair_bent G__law_take T⟩
  have G__law_bent : Callee l.prog w K mg base "_law_bent" 3 ["pot","table","many"] (sp__law_bent K mg):=⟨_,_,PySem.W.mg_of X G a__law_bent,k__law_bent,B__law_bent,ok__law_bent F__law_bent G__law_take G__law_pair_bent T⟩
  have G__law_is_table : Callee l.prog w K mg base "_law_is_table" 7 ["row","text","table"] (sp__law_is_table K mg):=⟨_,_,PySem.W.mg_of X G a__law_is_table,k__law_is_table,B__law_is_table,ok__law_is_table F__law_is_table G__law_table T⟩
  exact ok_law F_law G_table_right G__law_deal G__law_either G__law_pair G__law_table G__law_bent G__law_is_table T
theorem walk {l : PySem.W.OpenLaw} {q : Program} {loose : List Str} {XP : (Str→Option Value)→Heap→Prop} {YP : World→Heap→Prop} {d : DefRec} {K : Params→PySem.W.Frag} {ts : List Addr} (hn : l.most = some 63) (hdf : d.params.defaults = [])
    (hY : ∀ (w : World) (h : Heap),YP w h→(K w.params).In h) (hY2 : ∀ (w : World) (h : Heap),YP w h→∀ P ∈ ts,h.get? P = some (PySem.W.tabObj #[]))
    (F : ∀ (w : World) (mg : Str→Option Value) (fa : Addr) (h : Heap),(K w.params).In h→h.Ns mainGlobals mg→mg d.name = some (.ref fa) →
      ∃ fd : FuncData,(∀ (s : Shared) (u : Value),BindsTo s fd ⟨[u],[]⟩ [("script",u)])∧(∀ p ∈ tabsL (K w.params) mg,p.1 ∈ ts∧(K w.params).lookup p.1 = none∧∃ c,PySem.W.codeHdIn (K w.params) c p.1 = true)∧((tabsL (K w.params) mg).map (·.1)).Nodup∧∀ base : Heap,(K w.params).In base→base.Ns mainGlobals mg→BM mg base→FnOk l.prog w (K w.params) mg base (CXE l.prog w) 9 fa fd ["script"] (spLaw (K w.params) mg)) :
    PySem.W.WalkO q loose XP YP l.row.toRowW d [] (fun f vs=>PySem.call f vs) :=
  L2.walk_ofT (n:=63) (k:=9) (x:="script") (ts:=ts) (tabs:=tabsL) (CX:=fun w=>CXE l.prog w) (sp:=fun w mg=>spLaw (K w.params) mg) hn (by decide) hdf ⟨rfl,by decide,by decide⟩ hY hY2 F (fun _ _ _ a ns hl hS hT=>⟨a,ns,rfl,hS,hl,hT,fun _=>rfl⟩) fun _ _ _ _ _ ⟨_,_,_,_,_,_,_,z⟩=>z
end K51
def PySem.W.Fast.tw12150787430270978788 : Unit:=()
def PySem.W.Fast.tw61654260213328984 : Unit:=()
def PySem.W.Fast.tw6582275762537695794 : Unit:=()
def PySem.W.Fast.tw17542051393036098857 : Unit:=()
def PySem.W.Fast.tw8340916028098466195 : Unit:=()
def PySem.W.Fast.tw8081801306778539844 : Unit:=()
def PySem.W.Fast.tw13091967359912561827 : Unit:=()
def PySem.W.Fast.tw10023163156110048067 : Unit:=()
def PySem.W.Fast.tw4594106177577135357 : Unit:=()
def PySem.W.Fast.tw13795510217394053799 : Unit:=()
def PySem.W.Fast.tw7714668392352978965 : Unit:=()
def PySem.W.Fast.tw755901215798540413 : Unit:=()
def PySem.W.Fast.tw15718212658732813761 : Unit:=()
def PySem.W.Fast.tw11444351089504211428 : Unit:=()
def PySem.W.Fast.tw6690582965614157146 : Unit:=()
def PySem.W.Fast.tw6257039825436064468 : Unit:=()
def PySem.W.Fast.tw8985343469667281761 : Unit:=()
def PySem.W.Fast.tw4713407460497555792 : Unit:=()
def PySem.W.Fast.tw3826383119675573540 : Unit:=()
def PySem.W.Fast.tw18278886663700152404 : Unit:=()
def PySem.W.Fast.tw10289876643271057995 : Unit:=()
def PySem.W.Fast.tw14805327226381167791 : Unit:=()
def PySem.W.Fast.tw11802035553234039469 : Unit:=()
def PySem.W.Fast.tw10246181487487709079 : Unit:=()
def PySem.W.Fast.tw15406112172430342042 : Unit:=()
def PySem.W.Fast.tw7896694567707365121 : Unit:=()
def PySem.W.Fast.tw14715155979131307105 : Unit:=()
def PySem.W.Fast.tw15353422194635107385 : Unit:=()
def PySem.W.Fast.tw621298041537920052 : Unit:=()
def PySem.W.Fast.tw11235672444201954592 : Unit:=()
def PySem.W.Fast.tw2618409091256989046 : Unit:=()
def PySem.W.Fast.tw16630909536510359815 : Unit:=()
def PySem.W.Fast.tw944348259996441056 : Unit:=()
def PySem.W.Fast.tw5709033817611915646 : Unit:=()
def PySem.W.Fast.tw810160296101934442 : Unit:=()
def PySem.W.Fast.tw936422428388841916 : Unit:=()
def PySem.W.Fast.tw14091033807558901578 : Unit:=()
def PySem.W.Fast.tw5001560961076553049 : Unit:=()
def PySem.W.Fast.tw17278307741984828347 : Unit:=()
def PySem.W.Fast.tw4353546352868357990 : Unit:=()
def PySem.W.Fast.tw18135755573109717873 : Unit:=()
def PySem.W.Fast.tw12544415944776603097 : Unit:=()
def PySem.W.Fast.tw4448966578856953218 : Unit:=()
def PySem.W.Fast.tw14167119522136092726 : Unit:=()
def PySem.W.Fast.tw4525780915708968135 : Unit:=()
def PySem.W.Fast.tw18057570761599446674 : Unit:=()
def PySem.W.Fast.tw4330594327895842379 : Unit:=()
def PySem.W.Fast.tw15437416728155145524 : Unit:=()
def PySem.W.Fast.tw14935482527980157365 : Unit:=()
def PySem.W.Fast.tw10227923510230402028 : Unit:=()
def PySem.W.Fast.tw15106334627621405555 : Unit:=()
def PySem.W.Fast.tw12295124095572445058 : Unit:=()
def PySem.W.Fast.tw4137631584334686774 : Unit:=()
def PySem.W.Fast.tw10815134774271302560 : Unit:=()
def PySem.W.Fast.tw5975101156660791347 : Unit:=()
def PySem.W.Fast.tw13710647936255950398 : Unit:=()
def PySem.W.Fast.tw12044427926233886488 : Unit:=()
def PySem.W.Fast.tw13247814619356322774 : Unit:=()
def PySem.W.Fast.tw15992176857004043916 : Unit:=()
def PySem.W.Fast.tw3346375736495386952 : Unit:=()
def PySem.W.Fast.tw4603272401982693706 : Unit:=()
def PySem.W.Fast.tw17705262990995994046 : Unit:=()
def PySem.W.Fast.tw14276077215014782899 : Unit:=()
def PySem.W.Fast.tw57505392321968355 : Unit:=()
def PySem.W.Fast.tw7122852884457132174 : Unit:=()
def PySem.W.Fast.tw11684119849015008026 : Unit:=()
def PySem.W.Fast.tw15402942635072105988 : Unit:=()
def PySem.W.Fast.tw9200593179001260263 : Unit:=()
def PySem.W.Fast.tw6880142303695403131 : Unit:=()
def PySem.W.Fast.tw14444363376155804850 : Unit:=()
def PySem.W.Fast.tw3588712103257701553 : Unit:=()
def PySem.W.Fast.tw3146932204849546765 : Unit:=()
def PySem.W.Fast.tw15375745266655700926 : Unit:=()
def PySem.W.Fast.tw6173722218190320629 : Unit:=()
def PySem.W.Fast.tw17438889755550514742 : Unit:=()
def PySem.W.Fast.tw1113158168010498861 : Unit:=()
def PySem.W.Fast.tw15952563319589781766 : Unit:=()
def PySem.W.Fast.tw17485902774909373488 : Unit:=()
open PySem PySem.W PyProof.Rows
set_option maxRecDepth 100000 in
set_option maxHeartbeats 0 in
theorem PySem.Challenge.cw_dipkin_k51_tables_judged_holds : PySem.Challenge.rw_dipkin_k51_tables_judged.Holds := by
  w_on; o_law; k_head; (case hw=>w_witness2)
  k_fill
  refine K51.walk (l:=PySem.Challenge.rw_dipkin_k51_tables_judged) rfl rfl (fun w h Y=>PySem.W.km_in_of Y) (fun w h Y=>PySem.W.km_tabs_of Y) ?F
  case F =>
    intro w mg fa h KX G hmg
    refine' K51.all_mk KX G hmg ?a_need_numbers ?l_need_numbers ?c_need_numbers ?k_need_numbers ?t_need_numbers ?a_settle ?l_settle ?c_settle ?k_settle ?a_tree_of ?l_tree_of ?c_tree_of ?k_tree_of ?a_way_up ?l_way_up ?c_way_up ?k_way_up ?a_young_of ?l_young_of ?c_young_of ?k_young_of ?a_from_below ?l_from_below ?c_from_below ?k_from_below ?le_from_below ?lk_from_below ?lp_from_below ?lh_from_below ?ln_from_below ?lm_from_below ?a_need_loose ?l_need_loose ?c_need_loose ?k_need_loose ?a_best_ahead ?l_best_ahead ?c_best_ahead ?k_best_ahead ?le_best_ahead ?lk_best_ahead ?lp_best_ahead ?lh_best_ahead ?ln_best_ahead ?lm_best_ahead ?a_best_behind ?l_best_behind ?c_best_behind ?k_best_behind ?le_best_behind ?lk_best_behind ?lp_best_behind ?lh_best_behind ?ln_best_behind ?lm_best_behind ?a_pair_at ?l_pair_at ?c_pair_at ?k_pair_at ?a_table_by ?l_table_by ?c_table_by ?k_table_by ?a_table_of ?l_table_of ?c_table_of ?k_table_of ?a_table_right ?l_table_right ?c_table_right ?k_table_right ?a__law_deal ?l__law_deal ?c__law_deal ?k__law_deal ?a__law_take ?l__law_take ?c__law_take ?k__law_take ?a__law_row ?l__law_row ?c__law_row ?k__law_row ?a__law_elder ?l__law_elder ?c__law_elder ?k__law_elder ?a__law_tree ?l__law_tree ?c__law_tree ?k__law_tree ?a__law_over ?l__law_over ?c__law_over ?k__law_over ?a__law_either ?l__law_either ?c__law_either ?k__law_either ?a__law_pair ?l__law_pair ?c__law_pair ?k__law_pair ?a__law_under ?l__law_under ?c__law_under ?k__law_under ?a__law_hand ?l__law_hand ?c__law_hand ?k__law_hand ?a__law_ruled ?l__law_ruled ?c__law_ruled ?k__law_ruled ?a__law_table ?l__law_table ?c__law_table ?k__law_table ?le__law_table ?lk__law_table ?lp__law_table ?lh__law_table ?ln__law_table ?lm__law_table ?a__law_pair_bent ?l__law_pair_bent ?c__law_pair_bent ?k__law_pair_bent ?a__law_bent ?l__law_bent ?c__law_bent ?k__law_bent ?a__law_is_table ?l__law_is_table ?c__law_is_table ?k__law_is_table ?a_law ?l_law ?c_law ?k_law ?n_DipError ?x_DipError ?d_DipError ?y_DipError ?n_Empty ?x_Empty ?d_Empty ?y_Empty ?n_TooMany ?x_TooMany ?d_TooMany ?y_TooMany ?b_bool ?b_enumerate ?b_isinstance ?b_len ?b_list ?b_max ?b_min ?b_range ?b_sorted ?b_tuple ?m_MOST_HELD ?m_MOST_HOLDING ?nd
    (case a_need_numbers=>k_is)
    (case l_need_numbers=>k_is)
    (case c_need_numbers=>k_is)
    (case k_need_numbers=>k_is)
    (case t_need_numbers=>k_is)
    (case a_settle=>k_is)
    (case l_settle=>k_is)
    (case c_settle=>k_is)
    (case k_settle=>k_is)
    (case a_tree_of=>k_is)
    (case l_tree_of=>k_is)
    (case c_tree_of=>k_is)
    (case k_tree_of=>k_is)
    (case a_way_up=>k_is)
    (case l_way_up=>k_is)
    (case c_way_up=>k_is)
    (case k_way_up=>k_is)
    (case a_young_of=>k_is)
    (case l_young_of=>k_is)
    (case c_young_of=>k_is)
    (case k_young_of=>k_is)
    (case a_from_below=>k_is)
    (case l_from_below=>k_is)
    (case c_from_below=>k_is)
    (case k_from_below=>k_is)
    (case le_from_below=>exact rfl)
    (case lk_from_below=>k_is)
    (case lp_from_below=>exact rfl)
    (case lh_from_below=>kernel_rfl)
    (case ln_from_below=>kernel_rfl)
    (case lm_from_below=>decide)
    (case a_need_loose=>k_is)
    (case l_need_loose=>k_is)
    (case c_need_loose=>k_is)
    (case k_need_loose=>k_is)
    (case a_best_ahead=>k_is)
    (case l_best_ahead=>k_is)
    (case c_best_ahead=>k_is)
    (case k_best_ahead=>k_is)
    (case le_best_ahead=>exact rfl)
    (case lk_best_ahead=>k_is)
    (case lp_best_ahead=>exact rfl)
    (case lh_best_ahead=>kernel_rfl)
    (case ln_best_ahead=>kernel_rfl)
    (case lm_best_ahead=>decide)
    (case a_best_behind=>k_is)
    (case l_best_behind=>k_is)
    (case c_best_behind=>k_is)
    (case k_best_behind=>k_is)
    (case le_best_behind=>exact rfl)
    (case lk_best_behind=>k_is)
    (case lp_best_behind=>exact rfl)
    (case lh_best_behind=>kernel_rfl)
    (case ln_best_behind=>kernel_rfl)
    (case lm_best_behind=>decide)
    (case a_pair_at=>k_is)
    (case l_pair_at=>k_is)
    (case c_pair_at=>k_is)
    (case k_pair_at=>k_is)
    (case a_table_by=>k_is)
    (case l_table_by=>k_is)
    (case c_table_by=>k_is)
    (case k_table_by=>k_is)
    (case a_table_of=>k_is)
    (case l_table_of=>k_is)
    (case c_table_of=>k_is)
    (case k_table_of=>k_is)
    (case a_table_right=>k_is)
    (case l_table_right=>k_is)
    (case c_table_right=>k_is)
    (case k_table_right=>k_is)
    (case a__law_deal=>k_is)
    (case l__law_deal=>k_is)
    (case c__law_deal=>k_is)
    (case k__law_deal=>k_is)
    (case a__law_take=>k_is)
    (case l__law_take=>k_is)
    (case c__law_take=>k_is)
    (case k__law_take=>k_is)
    (case a__law_row=>k_is)
    (case l__law_row=>k_is)
    (case c__law_row=>k_is)
    (case k__law_row=>k_is)
    (case a__law_elder=>k_is)
    (case l__law_elder=>k_is)
    (case c__law_elder=>k_is)
    (case k__law_elder=>k_is)
    (case a__law_tree=>k_is)
    (case l__law_tree=>k_is)
    (case c__law_tree=>k_is)
    (case k__law_tree=>k_is)
    (case a__law_over=>k_is)
    (case l__law_over=>k_is)
    (case c__law_over=>k_is)
    (case k__law_over=>k_is)
    (case a__law_either=>k_is)
    (case l__law_either=>k_is)
    (case c__law_either=>k_is)
    (case k__law_either=>k_is)
    (case a__law_pair=>k_is)
    (case l__law_pair=>k_is)
    (case c__law_pair=>k_is)
    (case k__law_pair=>k_is)
    (case a__law_under=>k_is)
    (case l__law_under=>k_is)
    (case c__law_under=>k_is)
    (case k__law_under=>k_is)
    (case a__law_hand=>k_is)
    (case l__law_hand=>k_is)
    (case c__law_hand=>k_is)
    (case k__law_hand=>k_is)
    (case a__law_ruled=>k_is)
    (case l__law_ruled=>k_is)
    (case c__law_ruled=>k_is)
    (case k__law_ruled=>k_is)
    (case a__law_table=>k_is)
    (case l__law_table=>k_is)
    (case c__law_table=>k_is)
    (case k__law_table=>k_is)
    (case le__law_table=>exact rfl)
    (case lk__law_table=>k_is)
    (case lp__law_table=>exact rfl)
    (case lh__law_table=>kernel_rfl)
    (case ln__law_table=>kernel_rfl)
    (case lm__law_table=>decide)
    (case a__law_pair_bent=>k_is)
    (case l__law_pair_bent=>k_is)
    (case c__law_pair_bent=>k_is)
    (case k__law_pair_bent=>k_is)
    (case a__law_bent=>k_is)
    (case l__law_bent=>k_is)
    (case c__law_bent=>k_is)
    (case k__law_bent=>k_is)
    (case a__law_is_table=>k_is)
    (case l__law_is_table=>k_is)
    (case c__law_is_table=>k_is)
    (case k__law_is_table=>k_is)
    (case a_law=>k_is)
    (case l_law=>k_is)
    (case c_law=>k_is)
    (case k_law=>k_is)
    (case n_DipError=>k_is)
    (case x_DipError=>k_exc)
    (case d_DipError=>k_is)
    (case y_DipError=>k_is)
    (case n_Empty=>k_is)
    (case x_Empty=>k_exc)
    (case d_Empty=>k_is)
    (case y_Empty=>k_is)
    (case n_TooMany=>k_is)
    (case x_TooMany=>k_exc)
    (case d_TooMany=>k_is)
    (case y_TooMany=>k_is)
    (case b_bool=>k_is)
    (case b_enumerate=>k_is)
    (case b_isinstance=>k_is)
    (case b_len=>k_is)
    (case b_list=>k_is)
    (case b_max=>k_is)
    (case b_min=>k_is)
    (case b_range=>k_is)
    (case b_sorted=>k_is)
    (case b_tuple=>k_is)
    (case m_MOST_HELD=>k_is)
    (case m_MOST_HOLDING=>k_is)
    (case nd=>decide)
