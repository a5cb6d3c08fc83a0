import PyProof.Rows.All
import Wide.All
import OpenK.AllK
import Wide.FinOn
import Lean
import PyProof.EqAt
import PyProof.EqKinds
import PyProof.TupleCall
import PyProof.MeetsSeq
import PyProof.NeKinds
import PyProof.TupleOfSeq
import PyProof.ListRange
import PyProof.TupleOfGen
import PyProof.ZipIter
import KE.KRevIter
import PyProof.StrWalks
import PyProof.StrBlock2
import PyProof.MeetsStr
import PyProof.StrCalls2
import PyProof.StrLawsIn
import KE.KIntText
import PyProof.StrLawsTight
import PyProof.StrLawsChain
import PyProof.StrLawsAffix
import PyProof.Rows.StrItems
import PyProof.Rows.ReprOcc
import KE.KDictSum
import PyProof.Rows.SeqMore
import KE.KDictList
import PySem.Challenge.RW_dipkin_k64_clashing_told
set_option Elab.async false
set_option linter.all false
set_option maxRecDepth 100000

namespace L2
open PySem PySem.Spec PyProof.Rows


abbrev Key := Sum Int Str
def keyIs : Key → Value → Bool
  | .inl k, v => Value.isInt k v
  | .inr x, v => Value.isStrOf x v
def keyH (w : World) : Key → Int
  | .inl k => hashInt k
  | .inr x => hashStr w x
theorem keyIs_shape : ∀ {k : Key} {v : Value}, keyIs k v = true → (∃ i t, k = Sum.inl i ∧ v = Value.int i t) ∨ (∃ x t, k = Sum.inr x ∧ v = Value.str x t)
  | .inl i, v, h => by
    obtain ⟨t, e⟩ := Value.isInt_shape (k := i) (v := v) h
    exact .inl ⟨i, t, rfl, e⟩
  | .inr x, v, h => by
    obtain ⟨t, e⟩ := Value.isStrOf_shape (x := x) (v := v) h
    exact .inr ⟨x, t, rfl, e⟩
theorem key_ll (a b : Int) : decide ((Sum.inl a : Key) = Sum.inl b) = (a == b) := by
  by_cases e : a = b
  · subst e; simp
  · have h : ¬ (Sum.inl a : Key) = Sum.inl b := fun q => e (Sum.inl.inj q)
    rw [decide_eq_false h]
    exact (beq_eq_false_iff_ne.mpr e).symm
theorem key_rr (a b : Str) : decide ((Sum.inr a : Key) = Sum.inr b) = decide (a = b) := by
  by_cases e : a = b
  · subst e; simp
  · have h : ¬ (Sum.inr a : Key) = Sum.inr b := fun q => e (Sum.inr.inj q)
    rw [decide_eq_false h, decide_eq_false e]
theorem key_lr (a : Int) (b : Str) : decide ((Sum.inl a : Key) = Sum.inr b) = false := decide_eq_false (fun q => nomatch q)
theorem key_rl (a : Str) (b : Int) : decide ((Sum.inr a : Key) = Sum.inl b) = false := decide_eq_false (fun q => nomatch q)

def mixKind (prog : Program) (w : World) : PySem.KeyKind prog w Key where
  is := keyIs
  hash := keyH w
  inj := fun v a b ha hb => by
    rcases keyIs_shape ha with ⟨i, t, rfl, rfl⟩ | ⟨x, t, rfl, rfl⟩
    · rcases keyIs_shape hb with ⟨j, u, rfl, e⟩ | ⟨y, u, rfl, e⟩
      · injection e with e1 _; rw [e1]
      · exact nomatch e
    · rcases keyIs_shape hb with ⟨j, u, rfl, e⟩ | ⟨y, u, rfl, e⟩
      · exact nomatch e
      · injection e with e1 _; rw [e1]
  byValue := fun k v h => by
    rcases keyIs_shape h with ⟨i, t, rfl, rfl⟩ | ⟨x, t, rfl, rfl⟩ <;> rfl
  pyHash := fun hv h => by
    rcases keyIs_shape hv with ⟨i, t, rfl, rfl⟩ | ⟨x, t, rfl, rfl⟩
    · exact wpAny_pyHash_int h
    · exact wpAny_pyHash_str h
  eqBool := fun hu hv h => by
    rcases keyIs_shape hu with ⟨i, t, rfl, rfl⟩ | ⟨x, t, rfl, rfl⟩
    · rcases keyIs_shape hv with ⟨j, u, rfl, rfl⟩ | ⟨y, u, rfl, rfl⟩
      · rw [key_ll] at h; exact wpAny_eqBool_int h
      · rw [key_lr] at h; exact SeqAt.EqAt.int_str i t y u _ _ _ _ h
    · rcases keyIs_shape hv with ⟨j, u, rfl, rfl⟩ | ⟨y, u, rfl, rfl⟩
      · rw [key_rl] at h; exact SeqAt.EqAt.str_int x t j u _ _ _ _ h
      · rw [key_rr] at h; exact wpAny_eqBool_str h
  «strs» := fun k x t v h => by
    rcases keyIs_shape h with ⟨i, u, rfl, e⟩ | ⟨y, u, rfl, e⟩
    · exact nomatch e
    · injection e with e1 _
      subst e1
      cases v <;> rfl

end L2

namespace L2
open PySem PySem.Spec PyProof.Rows


inductive V where
  | non | bl (b : Bool) | int (i : Int) | str (x : Str) | byt (b : Array UInt8) | flt (b : UInt64) | ref (a : Addr) | ty (n : String)
  deriving DecidableEq

def RelV : V → Value → Prop
  | .non, u => u = Value.none
  | .bl b, u => u = Value.bool b
  | .int i, u => ∃ t, u = Value.int i t
  | .str x, u => ∃ t, u = Value.str x t
  | .byt b, u => ∃ t, u = Value.bytes b t
  | .flt b, u => ∃ t, u = Value.float b t
  | .ref a, u => u = Value.ref a
  | .ty n, u => u = Value.type n

abbrev Vals : List V → List Value → Prop := Paired RelV
theorem Vals.length {xs : List V} {us : List Value} (r : Vals xs us) : xs.length = us.length := Paired.length r
theorem Vals.get : ∀ {xs : List V} {us : List Value} {i : Nat} {x : V}, Vals xs us → xs[i]? = some x → ∃ u, us[i]? = some u ∧ RelV x u
  | _, _, _, _, .nil, e => by simp at e
  | _, _, 0, _, .cons r _, e => by simp at e; subst e; exact ⟨_, rfl, r⟩
  | _, _, i + 1, x, .cons _ t, e => by
    obtain ⟨u, h1, h2⟩ := Vals.get (i := i) (x := x) t (by simpa using e)
    exact ⟨u, by simpa using h1, h2⟩
theorem Vals.set {x : V} {u : Value} (r : RelV x u) : ∀ {xs : List V} {us : List Value} (i : Nat), Vals xs us → Vals (xs.set i x) (us.set i u)
  | _, _, _, .nil => .nil
  | _, _, 0, .cons _ t => .cons r t
  | _, _, i + 1, .cons q t => .cons q (Vals.set r i t)
theorem Vals.append : ∀ {xs ys : List V} {us ws : List Value}, Vals xs us → Vals ys ws → Vals (xs ++ ys) (us ++ ws)
  | _, _, _, _, .nil, s => s
  | _, _, _, _, .cons r t, s => .cons r (Vals.append t s)
theorem Vals.take : ∀ {xs : List V} {us : List Value} (n : Nat), Vals xs us → Vals (xs.take n) (us.take n)
  | _, _, 0, _ => .nil
  | _, _, _ + 1, .nil => .nil
  | _, _, n + 1, .cons r t => .cons r (Vals.take n t)
theorem Vals.drop : ∀ {xs : List V} {us : List Value} (n : Nat), Vals xs us → Vals (xs.drop n) (us.drop n)
  | _, _, 0, r => r
  | _, _, _ + 1, .nil => .nil
  | _, _, n + 1, .cons _ t => Vals.drop n t
def RelO : Option V → Option Value → Prop
  | some v, some u => RelV v u
  | none, none => True
  | _, _ => False
def KV {κ : Type} : List (κ × V) → List (κ × Value) → Prop := Paired fun (p : κ × V) (q : κ × Value) => p.1 = q.1 ∧ RelV p.2 q.2


def kV : Key → V
  | .inl i => .int i
  | .inr x => .str x


inductive HO where
  
  | lst (xs : List V)
  
  | tup (xs : List V)
  
  | dK (kvs : List (Key × V)) | dT (kvs : List (List Key × V))
  
  | set (S : Int → Bool) (n : Nat)
  
  | ins (C dx : Addr) (fs : List (Str × V))
  
  | own (x : Addr)
  
  | xd (fs : List (Str × V))
  
  | met (f x : Addr)
  
  | rng (lo hi : Int)
  
  | frz (o : Obj) (u : HO)
  
  | tbl (ps : Array Value)
  
  | ext (φ : Heap → Prop)

abbrev Hp := Addr → Option HO
def upd (H : Hp) (a : Addr) (o : HO) : Hp := fun b => if b = a then some o else H b
theorem upd_same {H : Hp} {a : Addr} {o : HO} : upd H a o a = some o := by unfold upd; rw [if_pos rfl]
theorem upd_ne {H : Hp} {a b : Addr} {o : HO} (h : b ≠ a) : upd H a o b = H b := by unfold upd; rw [if_neg h]
theorem ne_of_none {H : Hp} {a b : Addr} {o : HO} (h : H a = some o) (h' : H b = none) : a ≠ b := by
  intro e; subst e; rw [h] at h'; cases h'

section
variable (P : Program) (w : World)
def ObjOk (H : Hp) (h : Heap) (a : Addr) : HO → Prop
  | .lst xs => xs.length ≤ sizeLine ∧ ∃ (its : List Value) (n : Nat), Vals xs its ∧ h.get? a = some { cls := .type "list", data := .seq its.toArray n }
  | .tup xs => xs.length ≤ sizeLine ∧ ∃ its : List Value, Vals xs its ∧ IsTup h a its.toArray
  | .dK kvs => kvs.length ≤ sizeLine ∧ (a == sysModules) = false ∧ ∃ vs, KV kvs vs ∧ h.DictOf (mixKind P w) a vs
  | .dT kvs => kvs.length ≤ sizeLine ∧ (a == sysModules) = false ∧ ∃ xs : List (List Key × Addr × Value),
      Paired (fun (p : List Key × V) (q : List Key × Addr × Value) => p.1 = q.1 ∧ H q.2.1 = some (.tup (p.1.map kV)) ∧ RelV p.2 q.2.2) kvs xs ∧
      ∃ o es ep, h.get? a = some o ∧ o.ExactDict ∧ o.data = .dict es ep ∧ es.toList = xs.map (entryOfKey (tupleKind (mixKind P w))) ∧ (xs.map (·.1)).Nodup
  | .set S n => h.SetOf (intKind P w) a S n
  | .ins C dx fs => H dx = some (.own a) ∧ fs.length ≤ 1000 ∧ dx ≠ a ∧ h.get? a = some (PySem.W.instObj C dx) ∧
      ∃ mA, h.Ns1 dx mA ∧ (∀ f, RelO (fs.lookup f) (mA f)) ∧ PySem.Within mA (fs.map (·.1))
  | .own _ => ∃ o, h.get? a = some o
  | .xd fs => ∃ mA, h.Ns1 a mA ∧ ∀ f, RelO (fs.lookup f) (mA f)
  | .rng lo hi => ∃ t u v, h.get? a = some { cls := .type "range", data := .fields #[.int lo t, .int hi u, .int 1 v] }
  | .frz o u => h.get? a = some o ∧ ObjOk H h a u
  | .tbl ps => ∃ ts : Array Value, h.get? a = some { cls := .none, data := .fields ts } ∧ TriplesOk ts.toList ∧ ∀ pos cv, codeAmong pos ts.toList = some cv → ∃ c oc vs q t t', cv = .ref c ∧ H c = some (.frz oc (.own a)) ∧ oc.data = .fields vs ∧ ps[0]? = some (.str q t) ∧ vs[1]? = some (.str q t')
  | .met f x => h.get? a = some (PySem.W.methodObj (.ref f) (.ref x))
  | .ext φ => φ h ∧ (∃ o, h.get? a = some o) ∧ ∀ h1 h2 : Heap, φ h1 → (∀ o, h1.get? a = some o → h2.get? a = some o) → φ h2

def HOk (H : Hp) (h : Heap) : Prop := ∀ a o, H a = some o → ObjOk P w H h a o
end

section
variable {P : Program} {w : World} {H H' : Hp} {h h' : Heap} {a : Addr} {o : HO}
theorem ObjOk.lt (x : ObjOk P w H h a o) : a < h.objs.size := by
  cases o with
  | lst xs => obtain ⟨_, _, _, _, e⟩ := x; exact Heap.lt_size e
  | tup xs => obtain ⟨_, _, _, p⟩ := x; exact p.lt
  | dK kvs => obtain ⟨_, _, _, _, o, _, _, e, _⟩ := x; exact Heap.lt_size e
  | dT kvs => obtain ⟨_, _, _, _, o, _, _, e, _⟩ := x; exact Heap.lt_size e
  | set S n => obtain ⟨o, _, _, _, e, _⟩ := x; exact Heap.lt_size e
  | ins C dx fs => obtain ⟨_, _, _, e, _⟩ := x; exact Heap.lt_size e
  | own y => obtain ⟨_, e⟩ := x; exact Heap.lt_size e
  | xd fs => obtain ⟨_, ⟨_, _, _, e, _⟩, _⟩ := x; exact Heap.lt_size e
  | rng lo hi => obtain ⟨_, _, _, e⟩ := x; exact Heap.lt_size e
  | frz ob u => obtain ⟨e, _⟩ := x; exact Heap.lt_size e
  | tbl ps => obtain ⟨_, e, _⟩ := x; exact Heap.lt_size e
  | met f y => exact Heap.lt_size (show h.get? a = some _ from x)
  | ext φ => obtain ⟨_, ⟨_, e⟩, _⟩ := x; exact Heap.lt_size e
theorem Paired.mapP {α β : Type} {F G : α → β → Prop} : ∀ {l₁ : List α} {l₂ : List β}, Paired F l₁ l₂ → (∀ a b, F a b → G a b) → Paired G l₁ l₂
  | _, _, .nil, _ => .nil
  | _, _, .cons r t, f => .cons (f _ _ r) (Paired.mapP t f)
theorem ObjOk.stay (x : ObjOk P w H h a o) (k : ∀ b u, (b = a ∨ H b = some (.own a)) → h.get? b = some u → h'.get? b = some u)
    (ho : ∀ b, H b = some (.own a) → H' b = some (.own a)) (ht : ∀ b xs, H b = some (.tup xs) → H' b = some (.tup xs)) (hz : ∀ b o u, H b = some (.frz o u) → H' b = some (.frz o u)) : ObjOk P w H' h' a o := by
  induction o with
  | lst xs => obtain ⟨z, its, n, r, e⟩ := x; exact ⟨z, its, n, r, k _ _ (.inl rfl) e⟩
  | tup xs => obtain ⟨z, its, r, ob, e, c⟩ := x; exact ⟨z, its, r, ob, k _ _ (.inl rfl) e, c⟩
  | dK kvs => obtain ⟨z, y, vs, r, ob, es, ep, e, c⟩ := x; exact ⟨z, y, vs, r, ob, es, ep, k _ _ (.inl rfl) e, c⟩
  | dT kvs =>
    obtain ⟨z, y, xs, r, ob, es, ep, e, c⟩ := x
    exact ⟨z, y, xs, Paired.mapP r fun p q z => ⟨z.1, ht _ _ z.2.1, z.2.2⟩, ob, es, ep, k _ _ (.inl rfl) e, c⟩
  | set S n => obtain ⟨ob, es, ep, t, e, c⟩ := x; exact ⟨ob, es, ep, t, k _ _ (.inl rfl) e, c⟩
  | ins C dx fs =>
    obtain ⟨d, z, ne, e, mA, ⟨od, es, ep, e2, c⟩, r⟩ := x
    exact ⟨ho _ d, z, ne, k _ _ (.inl rfl) e, mA, ⟨od, es, ep, k _ _ (.inr d) e2, c⟩, r⟩
  | own y => obtain ⟨ob, e⟩ := x; exact ⟨ob, k _ _ (.inl rfl) e⟩
  | xd fs => obtain ⟨mA, ⟨od, es, ep, e, c⟩, r⟩ := x; exact ⟨mA, ⟨od, es, ep, k _ _ (.inl rfl) e, c⟩, r⟩
  | rng lo hi => obtain ⟨t, u, v, e⟩ := x; exact ⟨t, u, v, k _ _ (.inl rfl) e⟩
  | frz ob u ih => obtain ⟨e, q⟩ := x; exact ⟨k _ _ (.inl rfl) e, ih q⟩
  | tbl ps =>
    obtain ⟨ts, e, t3, z⟩ := x
    refine ⟨ts, k a _ (.inl rfl) e, t3, fun pos cv hc => ?_⟩
    obtain ⟨c, oc, vs, q, t, t', e1, e2, r⟩ := z pos cv hc
    exact ⟨c, oc, vs, q, t, t', e1, hz _ _ _ e2, r⟩
  | met f y =>
    have e : h.get? a = some (PySem.W.methodObj (.ref f) (.ref y)) := x
    show h'.get? a = some (PySem.W.methodObj (.ref f) (.ref y))
    exact k a _ (.inl rfl) e
  | ext φ => obtain ⟨p, ⟨o, e⟩, st⟩ := x; exact ⟨st _ _ p fun o q => k _ _ (.inl rfl) q, ⟨o, k _ _ (.inl rfl) e⟩, st⟩
theorem HOk.lt (x : HOk P w H h) (e : H a = some o) : a < h.objs.size := (x a o e).lt
theorem HOk.fresh (x : HOk P w H h) (e : h.objs.size ≤ a) : H a = none := by
  cases q : H a with
  | none => rfl
  | some u => exact absurd (Nat.lt_of_lt_of_le (x.lt q) e) (Nat.lt_irrefl _)

theorem HOk.kept (x : HOk P w H h) (k : ∀ b u, h.get? b = some u → h'.get? b = some u) : HOk P w H h' := fun a o e =>
  (x a o e).stay (fun b u _ q => k b u q) (fun _ q => q) (fun _ _ q => q) fun _ _ _ q => q

theorem HOk.laid (x : HOk P w H h) (k : ∀ b u, h.get? b = some u → h'.get? b = some u) (hp : h.objs.size ≤ a) (new : ObjOk P w (upd H a o) h' a o) : HOk P w (upd H a o) h' := fun b u e => by
  have hn := x.fresh hp
  by_cases hb : b = a
  · subst hb; rw [upd_same] at e; cases e; exact new
  · rw [upd_ne hb] at e
    exact (x b u e).stay (fun c v _ q => k c v q) (fun c q => by rw [upd_ne (ne_of_none q hn)]; exact q) (fun c xs q => by rw [upd_ne (ne_of_none q hn)]; exact q) fun c o u q => by rw [upd_ne (ne_of_none q hn)]; exact q
end


def Rd (H : Hp) (a : Addr) (u : HO) : Prop := H a = some u ∨ ∃ o, H a = some (.frz o u)
theorem Rd.of {H : Hp} {a : Addr} {u : HO} (h : H a = some u) : Rd H a u := .inl h
theorem Rd.ok {P : Program} {w : World} {H : Hp} {h : Heap} {a : Addr} {u : HO} (r : Rd H a u) (x : HOk P w H h) : ObjOk P w H h a u := by
  rcases r with r | ⟨o, r⟩
  · exact x a u r
  · obtain ⟨_, q⟩ := x a _ r
    exact q

def Mut : Option HO → Prop
  | some (.lst _) => True
  | some (.dK _) => True
  | some (.dT _) => True
  | some (.set _ _) => True
  | some (.ins _ _ _) => True
  | some (.ext _) => True
  | _ => False
section
variable {P : Program} {w : World} {H : Hp} {h h' : Heap} {x e : Addr} {o' : HO}

theorem HOk.write (ok : HOk P w H h) (mu : Mut (H x)) (he : e = x ∨ H e = some (.own x)) (k : ∀ b u, b ≠ e → h.get? b = some u → h'.get? b = some u) (heo : ∃ u, h'.get? e = some u)
    (new : ObjOk P w (upd H x o') h' x o') : HOk P w (upd H x o') h' := fun b u q => by
  have nown : ∀ c y, H c = some (.own y) → c ≠ x := fun c y r z => by subst z; rw [r] at mu; exact mu
  have ntup : ∀ c xs, H c = some (.tup xs) → c ≠ x := fun c xs r z => by subst z; rw [r] at mu; exact mu
  have nfrz : ∀ c o u, H c = some (.frz o u) → c ≠ x := fun c o u r z => by subst z; rw [r] at mu; exact mu
  by_cases hb : b = x
  · subst hb; rw [upd_same] at q; cases q; exact new
  · rw [upd_ne hb] at q
    by_cases hbe : b = e
    · have q' : H b = some (.own x) := by
        rcases he with z | z
        · exact absurd (hbe.trans z) hb
        · rw [hbe]; exact z
      rw [q] at q'; cases q'
      obtain ⟨v, hv⟩ := heo
      exact ⟨v, by rw [hbe]; exact hv⟩
    · refine (ok b u q).stay (fun c v hc r => k c v ?_ r) (fun c r => by rw [upd_ne (nown c b r)]; exact r) (fun c xs r => by rw [upd_ne (ntup c xs r)]; exact r) fun c o u r => by rw [upd_ne (nfrz c o u r)]; exact r
      rcases hc with rfl | hc
      · exact hbe
      · rintro rfl
        rcases he with z | z
        · exact nown c b hc z
        · rw [hc] at z; cases z; exact hb rfl
end


structure Un (fs ex : List Addr) (H H' : Hp) (h h' : Heap) : Prop where
  keep : ∀ b o, h.get? b = some o → H b = none → b ∉ fs → b ∉ ex → h'.get? b = some o
  slot : ∀ b o, h.get? b = some o → H b = none → b ∈ fs → b ∉ ex → ∃ sl, h'.get? b = some { o with slots := sl }
  free : ∀ b o, h.get? b = some o → H b = none → b ∉ ex → H' b = none
  there : ∀ b o, h.get? b = some o → b ∉ ex → ∃ o', h'.get? b = some o'
  tups : ∀ b xs, H b = some (.tup xs) → H' b = some (.tup xs)
  frzs : ∀ b o u, H b = some (.frz o u) → H' b = some (.frz o u)
  tbls : ∀ b ps, H b = some (.tbl ps) → ∃ more, H' b = some (.tbl (ps ++ more))
section
variable {fs fs' ex ex' : List Addr} {H H1 H2 : Hp} {h h1 h2 h' : Heap} {a x e : Addr} {o : HO}
theorem Un.any (u : Un fs ex H H1 h h1) {b : Addr} {ob : Obj} (q : h.get? b = some ob) (n : H b = none) (hx : b ∉ ex) : ∃ sl, h1.get? b = some { ob with slots := sl } := by
  by_cases hb : b ∈ fs
  · exact u.slot b ob q n hb hx
  · exact ⟨ob.slots, u.keep b ob q n hb hx⟩
theorem Un.trans (a : Un fs ex H H1 h h1) (b : Un fs ex H1 H2 h1 h2) : Un fs ex H H2 h h2 where
  keep := fun c ob q n hc hx => b.keep c ob (a.keep c ob q n hc hx) (a.free c ob q n hx) hc hx
  slot := fun c ob q n hc hx => by
    obtain ⟨sl, e1⟩ := a.slot c ob q n hc hx
    obtain ⟨sl', e2⟩ := b.slot c _ e1 (a.free c ob q n hx) hc hx
    exact ⟨sl', e2⟩
  free := fun c ob q n hx => by
    obtain ⟨o', e1⟩ := a.there c ob q hx
    exact b.free c o' e1 (a.free c ob q n hx) hx
  there := fun c ob q hx => by
    obtain ⟨o', e1⟩ := a.there c ob q hx
    exact b.there c o' e1 hx
  tups := fun c xs q => b.tups c xs (a.tups c xs q)
  frzs := fun c ob xs q => b.frzs c ob xs (a.frzs c ob xs q)
  tbls := fun c ps q => by
    obtain ⟨m1, e1⟩ := a.tbls c ps q
    obtain ⟨m2, e2⟩ := b.tbls c _ e1
    exact ⟨m1 ++ m2, by rw [e2, Array.append_assoc]⟩
theorem Un.kept (k : ∀ b u, h.get? b = some u → h'.get? b = some u) : Un fs ex H H h h' :=
  ⟨fun b ob q _ _ _ => k b ob q, fun b ob q _ _ _ => ⟨ob.slots, k b ob q⟩, fun _ _ _ n _ => n, fun b ob q _ => ⟨ob, k b ob q⟩, fun _ _ q => q, fun _ _ _ q => q, fun _ ps q => ⟨#[], by rw [q]; simp⟩⟩
theorem Un.refl : Un fs ex H H h h := Un.kept fun _ _ q => q
theorem Un.laid (k : ∀ b u, h.get? b = some u → h'.get? b = some u) (hp : h.objs.size ≤ a) (hn : H a = none) : Un fs ex H (upd H a o) h h' where
  keep := fun b u q _ _ _ => k b u q
  slot := fun b u q _ _ _ => ⟨u.slots, k b u q⟩
  free := fun b u q n _ => by rw [upd_ne (Nat.ne_of_lt (Nat.lt_of_lt_of_le (Heap.lt_size q) hp))]; exact n
  there := fun b u q _ => ⟨u, k b u q⟩
  tups := fun b xs q => by rw [upd_ne (ne_of_none q hn)]; exact q
  frzs := fun b u xs q => by rw [upd_ne (ne_of_none q hn)]; exact q
  tbls := fun b ps q => ⟨#[], by rw [upd_ne (ne_of_none q hn), q]; simp⟩
theorem Un.write (mu : Mut (H x)) (he : e = x ∨ H e = some (.own x)) (k : ∀ b u, b ≠ e → h.get? b = some u → h'.get? b = some u) (heo : ∃ u, h'.get? e = some u) : Un fs ex H (upd H x o) h h' := by
  have hx : ∀ b, H b = none → b ≠ x := fun b n z => by subst z; rw [n] at mu; exact mu
  have hb : ∀ b, H b = none → b ≠ e := fun b n z => by
    subst z
    rcases he with r | r
    · exact hx b n r
    · rw [n] at r; cases r
  have hm : ∀ b u, H b = some u → ¬ Mut (some u) → b ≠ x := fun b u q nm z => by subst z; rw [q] at mu; exact nm mu
  refine ⟨fun b u q n _ _ => k b u (hb b n) q, fun b u q n _ _ => ⟨u.slots, k b u (hb b n) q⟩, fun b u q n _ => by rw [upd_ne (hx b n)]; exact n, fun b u q _ => ?_,
    fun b xs q => by rw [upd_ne (hm b _ q fun z => z)]; exact q, fun b u xs q => by rw [upd_ne (hm b _ q fun z => z)]; exact q, fun b ps q => ⟨#[], by rw [upd_ne (hm b _ q fun z => z), q]; simp⟩⟩
  by_cases hbe : b = e
  · subst hbe; exact heo
  · exact ⟨u, k b u hbe q⟩
theorem Un.mono (u : Un fs ex H H1 h h1) (hs : ∀ b ∈ fs, b ∈ fs') (hx : ∀ b ∈ ex, b ∈ ex') : Un fs' ex' H H1 h h1 :=
  ⟨fun b ob q n hb he => u.keep b ob q n (fun z => hb (hs b z)) fun z => he (hx b z), fun _ _ q n _ he => u.any q n fun z => he (hx _ z), fun b ob q n he => u.free b ob q n fun z => he (hx b z), fun b ob q he => u.there b ob q fun z => he (hx b z), u.tups, u.frzs, u.tbls⟩
end


def trk (h : Heap) (H : Hp) : List Addr := (List.range h.objs.size).filter fun a => (H a).isSome
def hidT (h : Heap) (H : Hp) : Heap := PySem.W.hideAll h (trk h H)
theorem hidT_size (h : Heap) (H : Hp) : (hidT h H).objs.size = h.objs.size := PySem.W.hideAll_size _ _
theorem hidT_get {h : Heap} {H : Hp} {b : Addr} {o : Obj} (e : h.get? b = some o) (n : H b = none) : (hidT h H).get? b = some o :=
  PySem.W.hideAll_get _ e fun hm => by
    have q : (H b).isSome = true := (List.mem_filter.mp hm).2
    rw [n] at q; simp at q
theorem of_hidT {h : Heap} {H : Hp} {b : Addr} {o : Obj} (e : (hidT h H).get? b = some o) : h.get? b = some o ∧ H b = none := by
  have e' : h.get? b = some o := PySem.W.of_hideAll (trk h H) e
  refine ⟨e', ?_⟩
  cases q : H b with
  | none => rfl
  | some x =>
    have hm : b ∈ trk h H := List.mem_filter.mpr ⟨List.mem_range.mpr (Heap.lt_size e'), by simp [q]⟩
    have z : (hidT h H).get? b = none := PySem.W.hideAll_none (trk h H) hm
    rw [z] at e; cases e


def allNews (g h : Heap) (L : Addr) : List (Addr × Obj) := (List.range h.objs.size).filterMap fun a => if a = L ∨ (g.get? a).isSome = true then none else (h.get? a).map fun o => (a, o)
def rest (g h : Heap) (L d : Addr) : List (Addr × Obj) := (allNews g h L).filter fun p => decide (p.1 ≠ d)
end L2

namespace L2
open PySem PySem.Spec PyProof.Rows


structure Mod (K : PySem.W.Frag) (mg : Str → Option Value) (base : Heap) : Prop where
  kin : K.In base
  glob : base.Ns mainGlobals mg
  blt : ∃ mb, base.Ns builtinsNs mb ∧ ∀ x : Str, x ≠ "__name__" → mb x = bootBuiltins x
  nolimit : base.NoLimit


structure Cx where
  prog : Program
  w : World
  K : PySem.W.Frag
  mg : Str → Option Value
  base : Heap
  A : Around
  N : List Str
  s₀ : Shared
  H₀ : Hp
  env : Env
  outer : List Env
  stack : List Env
  ex : List Addr
  fn : Str → Bool
  calm : Bool
  pn : List (Addr × Obj)
  xe : Value → Shared → Prop

def frs (l : List Env) : List Addr := l.filterMap (·.frame)
abbrev Cx.fs (X : Cx) : List Addr := frs X.outer

def Vis (sc : Scope) (x : Str) : Prop := sc.names.lookup x = some .local ∨ sc.names.lookup x = some .cell ∨ sc.names.lookup x = some .free
def Loc (sc : Scope) (x : Str) : Prop := sc.names.lookup x = some .local ∨ sc.names.lookup x = some .cell
def Look (env : Env) (h : Heap) (m : Str → Option Value) (x : Str) (u : Value) : Prop :=
  (env.kindOf x = some .local ∧ m x = some u) ∨ ((env.kindOf x = some .cell ∨ env.kindOf x = some .free) ∧ ∃ c, env.cells.lookup x = some c ∧ h.IsCell c (some u))

structure Cx.Ok (X : Cx) : Prop where
  mod : Mod X.K X.mg X.base
  kind : X.env.scope.kind = .function
  glob : X.env.globals = mainGlobals
  blt : X.env.builtins = builtinsNs
  above : X.s₀.heap.objs.size ≤ X.env.locals
  inj : ∀ x y c, X.env.cells.lookup x = some c → X.env.cells.lookup y = some c → x = y
  has : ∀ x, (X.env.kindOf x = some .cell ∨ X.env.kindOf x = some .free) → ∃ c, X.env.cells.lookup x = some c
  cab : ∀ x c, X.fn x = true → X.env.cells.lookup x = some c → X.s₀.heap.objs.size ≤ c
  hd : X.calm = true → X.A.handled = none
  frames : X.A.frames = some X.stack
  stk : X.stack = X.outer ∨ (X.stack = X.env :: X.outer ∧ X.env.frame = some X.env.locals)
  exf : ∀ b ∈ X.ex, b ≠ X.env.locals ∧ ∀ x c, X.env.cells.lookup x = some c → c ≠ b
  bs : ∀ b o, X.base.get? b = some o → X.s₀.heap.get? b = some o ∧ X.H₀ b = none
  bsz : X.base.objs.size ≤ X.s₀.heap.objs.size
  noex : ∀ b o, X.base.get? b = some o → b ∉ X.ex
  exfs : ∀ b ∈ X.ex, b ∉ X.fs
  funs : X.s₀.heap.FunFrames X.base X.outer
  frf : ∀ b ∈ X.fs, X.H₀ b = none

structure Inv (X : Cx) (pins : List (Addr × Obj)) (σ : List (Option V)) (H : Hp) (s : Shared) : Prop where
  ok : X.Ok
  os : s.os = X.s₀.os
  bare : AllBare s.gens
  base : Un X.fs X.ex X.H₀ H X.s₀.heap s.heap
  loc : ∃ m, s.heap.Ns X.env.locals m ∧ ∀ (i : Nat) (x : Str) (v : V), X.N[i]? = some x → σ[i]? = some (some v) → Vis X.env.scope x → ∃ u, RelV v u ∧ Look X.env s.heap m x u
  cell : ∀ x c, X.env.cells.lookup x = some c → ∃ v, s.heap.IsCell c v
  free : H X.env.locals = none
  freeC : ∀ x c, X.env.cells.lookup x = some c → H c = none
  pin : ∀ p ∈ X.pn ++ pins, s.heap.get? p.1 = some p.2 ∧ H p.1 = none ∧ p.1 ≠ X.env.locals ∧ p.1 ∉ X.fs ∧ ∀ v, p.2.data ≠ .cell v
  hok : HOk X.prog X.w H s.heap
  len : σ.length = X.N.length

section
variable {X : Cx} {pins : List (Addr × Obj)} {σ : List (Option V)} {H H' : Hp} {s : Shared} {h' : Heap}

theorem Cx.Ok.nofr (ok : X.Ok) {b : Addr} {o : Obj} (e : X.base.get? b = some o) : b ∉ X.fs := fun hb => by
  have := (ok.funs.mem hb).1
  rw [e] at this; cases this
theorem Inv.bs (I : Inv X pins σ H s) : ∀ b o, X.base.get? b = some o → s.heap.get? b = some o ∧ H b = none := fun b o e =>
  ⟨I.base.keep b o (I.ok.bs b o e).1 (I.ok.bs b o e).2 (I.ok.nofr e) (I.ok.noex b o e), I.base.free b o (I.ok.bs b o e).1 (I.ok.bs b o e).2 (I.ok.noex b o e)⟩
theorem Inv.bk (I : Inv X pins σ H s) : ∀ b o, X.base.get? b = some o → s.heap.get? b = some o := fun b o e => (I.bs b o e).1
theorem Inv.mod (I : Inv X pins σ H s) : Mod X.K X.mg X.base := I.ok.mod
theorem Inv.kIn (I : Inv X pins σ H s) : X.K.In s.heap := I.ok.mod.kin.keeps I.bk
theorem Inv.nolimit (I : Inv X pins σ H s) : s.heap.NoLimit := I.ok.mod.nolimit.keeps I.bk

theorem Inv.lt (I : Inv X pins σ H s) : X.env.locals < s.heap.objs.size := let ⟨_, hn, _⟩ := I.loc; hn.lt
theorem Inv.sz (I : Inv X pins σ H s) : X.s₀.heap.objs.size ≤ s.heap.objs.size := Nat.le_trans I.ok.above (Nat.le_of_lt I.lt)
theorem Inv.nofs (I : Inv X pins σ H s) {a : Addr} (h : s.heap.objs.size ≤ a) : a ∉ X.fs := fun hb => by
  obtain ⟨_, o, ho, _⟩ := I.ok.funs.mem hb
  exact absurd (Nat.lt_of_lt_of_le (Heap.lt_size ho) (Nat.le_trans I.sz h)) (Nat.lt_irrefl _)
theorem Inv.cne (I : Inv X pins σ H s) : ∀ x c, X.env.cells.lookup x = some c → c ≠ X.env.locals := fun x c e z => by
  obtain ⟨v, o, ho, hd⟩ := I.cell x c e
  obtain ⟨m, ⟨o', es, ep, ho', hd', _⟩, _⟩ := I.loc
  rw [z, ho'] at ho; cases ho; rw [hd'] at hd; cases hd
theorem Inv.funs (I : Inv X pins σ H s) : s.heap.FunFrames X.base X.outer := by
  have all : ∀ (l : List Env), (∀ b ∈ frs l, b ∈ X.fs) → X.s₀.heap.FunFrames X.base l → s.heap.FunFrames X.base l := by
    intro l
    induction l with
    | nil => intro _ _; trivial
    | cons env r ih =>
      intro hs hl
      obtain ⟨hk, ⟨L, o, hf, hn, ho, hd⟩, hr⟩ := hl
      have hL : L ∈ X.fs := hs L (by unfold frs; rw [List.filterMap_cons, hf]; exact List.mem_cons_self)
      obtain ⟨sl, e⟩ := I.base.slot L o ho (I.ok.frf L hL) hL fun z => I.ok.exfs L z hL
      exact ⟨hk, ⟨L, _, hf, hn, e, hd⟩, ih (fun b hb => hs b (by unfold frs; rw [List.filterMap_cons, hf]; exact List.mem_cons_of_mem _ hb)) hr⟩
  exact all X.outer (fun _ hb => hb) I.ok.funs


theorem Inv.stack (I : Inv X pins σ H s) : s.heap.FunFrames X.base X.stack := by
  rcases I.ok.stk with e | ⟨e, hf⟩
  · rw [e]; exact I.funs
  · rw [e]
    obtain ⟨m, hn, _⟩ := I.loc
    refine .cons (by rw [I.ok.kind]; decide) hf hn ?_ I.funs
    exact Heap.get?_none_of_le (Nat.le_trans I.ok.bsz I.ok.above)
theorem Inv.stkSub (I : Inv X pins σ H s) : ∀ b ∈ frs X.stack, b ∈ X.env.locals :: X.fs := fun b hb => by
  rcases I.ok.stk with e | ⟨e, hf⟩
  · rw [e] at hb; exact List.mem_cons_of_mem _ hb
  · rw [e] at hb
    unfold frs at hb
    rw [List.filterMap_cons, hf] at hb
    exact hb
theorem Inv.stkFree (I : Inv X pins σ H s) : ∀ b ∈ frs X.stack, H b = none := fun b hb => by
  rcases List.mem_cons.mp (I.stkSub b hb) with e | hb
  · rw [e]; exact I.free
  · obtain ⟨_, o, ho, _⟩ := I.ok.funs.mem hb
    exact I.base.free b o ho (I.ok.frf b hb) fun z => I.ok.exfs b z hb


theorem Inv.step {g' : Array GenState} {t' : Nat} {d' : Drawn} {ch : List Addr} (I : Inv X pins σ H s)
    (hch : ∀ b ∈ ch, (b ∈ X.ex ∨ X.s₀.heap.objs.size ≤ b) ∧ b ≠ X.env.locals ∧ (∀ x c, X.env.cells.lookup x = some c → c ≠ b) ∧ ∀ p ∈ X.pn ++ pins, p.1 ≠ b)
    (keep : ∀ b o, b ≠ X.env.locals → b ∉ X.fs → b ∉ ch → s.heap.get? b = some o → H b = none → h'.get? b = some o)
    (slot : ∀ b o, b ≠ X.env.locals → b ∈ X.fs → b ∉ ch → s.heap.get? b = some o → H b = none → ∃ sl, h'.get? b = some { o with slots := sl }) (free : ∀ b o, b ∉ ch → s.heap.get? b = some o → H b = none → H' b = none)
    (there : ∀ b o, b ∉ ch → s.heap.get? b = some o → ∃ o', h'.get? b = some o')
    (tups : ∀ b xs, H b = some (.tup xs) → H' b = some (.tup xs)) (frzs : ∀ b o u, H b = some (.frz o u) → H' b = some (.frz o u)) (tbls : ∀ b ps, H b = some (.tbl ps) → ∃ more, H' b = some (.tbl (ps ++ more)))
    (ns : ∀ m, s.heap.Ns X.env.locals m → h'.Ns X.env.locals m) (hok : HOk X.prog X.w H' h') (hg : AllBare g') :
    Inv X pins σ H' { s with heap := h', gens := g', drawn := d', toks := t' } := by
  have neL : ∀ b o, X.s₀.heap.get? b = some o → b ≠ X.env.locals := fun b o e => Nat.ne_of_lt (Nat.lt_of_lt_of_le (Heap.lt_size e) I.ok.above)
  have neC : ∀ b o, X.s₀.heap.get? b = some o → b ∉ X.ex → b ∉ ch := fun b o e hx hb => by
    rcases (hch b hb).1 with z | z
    · exact hx z
    · exact absurd (Nat.lt_of_lt_of_le (Heap.lt_size e) z) (Nat.lt_irrefl _)
  have cellK : ∀ x c, X.env.cells.lookup x = some c → ∀ v, s.heap.IsCell c v → h'.IsCell c v := fun x c e v ⟨o, ho, hd⟩ => by
    have nch : c ∉ ch := fun z => (hch c z).2.2.1 x c e rfl
    by_cases hc : c ∈ X.fs
    · obtain ⟨sl, q⟩ := slot c o (I.cne x c e) hc nch ho (I.freeC x c e)
      exact ⟨_, q, hd⟩
    · exact ⟨o, keep c o (I.cne x c e) hc nch ho (I.freeC x c e), hd⟩
  refine ⟨I.ok, I.os, hg, ⟨fun b o e n hb hx => ?_, fun b o e n hb hx => ?_, fun b o e n hx => ?_, fun b o e hx => ?_, fun b xs e => tups b xs (I.base.tups b xs e), fun b o xs e => frzs b o xs (I.base.frzs b o xs e), fun b ps e => ?_⟩, ?_, fun x c e => ?_, ?_, fun x c e => ?_, fun p hp => ?_, hok, I.len⟩
  · exact keep b o (neL b o e) hb (neC b o e hx) (I.base.keep b o e n hb hx) (I.base.free b o e n hx)
  · obtain ⟨sl, e1⟩ := I.base.slot b o e n hb hx
    obtain ⟨sl', e2⟩ := slot b _ (neL b o e) hb (neC b o e hx) e1 (I.base.free b o e n hx)
    exact ⟨sl', e2⟩
  · obtain ⟨o', e1⟩ := I.base.there b o e hx
    exact free b o' (neC b o e hx) e1 (I.base.free b o e n hx)
  · obtain ⟨o', e1⟩ := I.base.there b o e hx
    exact there b o' (neC b o e hx) e1
  · obtain ⟨m1, e1⟩ := I.base.tbls b ps e
    obtain ⟨m2, e2⟩ := tbls b _ e1
    exact ⟨m1 ++ m2, by rw [e2, Array.append_assoc]⟩
  · obtain ⟨m, hn, hl⟩ := I.loc
    refine ⟨m, ns m hn, fun i x v e1 e2 e3 => ?_⟩
    obtain ⟨u, r, l⟩ := hl i x v e1 e2 e3
    refine ⟨u, r, ?_⟩
    rcases l with l | ⟨k, c, e, z⟩
    · exact .inl l
    · exact .inr ⟨k, c, e, cellK x c e _ z⟩
  · obtain ⟨v, z⟩ := I.cell x c e
    exact ⟨v, cellK x c e v z⟩
  · obtain ⟨m, ⟨o, _, _, ho, _⟩, _⟩ := I.loc
    exact free _ o (fun z => (hch _ z).2.1 rfl) ho I.free
  · obtain ⟨v, o, ho, hd⟩ := I.cell x c e
    exact free c o (fun z => (hch c z).2.2.1 x c e rfl) ho (I.freeC x c e)
  · obtain ⟨e, n, ne, nf, d⟩ := I.pin p hp
    have nch : p.1 ∉ ch := fun z => (hch p.1 z).2.2.2 p hp rfl
    exact ⟨keep p.1 p.2 ne nf nch e n, free p.1 p.2 nch e n, ne, nf, d⟩

theorem Inv.un {t' : Nat} (I : Inv X pins σ H s) (u : Un X.fs [] H H' s.heap h') (hok : HOk X.prog X.w H' h') : Inv X pins σ H' { s with heap := h', toks := t' } := by
  obtain ⟨m, ⟨o, es, ep, ho, r⟩, _⟩ := id I.loc
  obtain ⟨sl, hL⟩ := u.any ho I.free (by simp)
  exact I.step (g' := s.gens) (d' := s.drawn) (ch := []) (fun _ z => nomatch z) (fun b o _ hb _ e n => u.keep b o e n hb (by simp)) (fun b o _ hb _ e n => u.slot b o e n hb (by simp)) (fun b o _ e n => u.free b o e n (by simp)) (fun b o _ e => u.there b o e (by simp)) u.tups u.frzs u.tbls (fun m' hm => by
    obtain ⟨o', es', ep', ho', r'⟩ := hm
    rw [ho] at ho'; cases ho'
    exact ⟨_, es', ep', hL, r'⟩) hok I.bare

theorem Inv.call {g' : Array GenState} {t' : Nat} {d' : Drawn} {ch : List Addr} (I : Inv X pins σ H s) (u : Un (frs X.stack) ch H H' s.heap h') (hok : HOk X.prog X.w H' h') (hg : AllBare g')
    (hch : ∀ b ∈ ch, (b ∈ X.ex ∨ X.s₀.heap.objs.size ≤ b) ∧ b ≠ X.env.locals ∧ (∀ x c, X.env.cells.lookup x = some c → c ≠ b) ∧ ∀ p ∈ X.pn ++ pins, p.1 ≠ b) :
    Inv X pins σ H' { s with heap := h', gens := g', drawn := d', toks := t' } := by
  obtain ⟨m, ⟨o, es, ep, ho, r⟩, _⟩ := id I.loc
  obtain ⟨sl, hL⟩ := u.any ho I.free fun z => (hch _ z).2.1 rfl
  exact I.step (ch := ch) hch (fun b o hL hb hc e n => u.keep b o e n (fun z => (List.mem_cons.mp (I.stkSub b z)).elim hL hb) hc) (fun b o _ _ hc e n => u.any e n hc) (fun b o hc e n => u.free b o e n hc) (fun b o hc e => u.there b o e hc) u.tups u.frzs u.tbls (fun m' hm => by
    obtain ⟨o', es', ep', ho', r'⟩ := hm
    rw [ho] at ho'; cases ho'
    exact ⟨_, es', ep', hL, r'⟩) hok hg

theorem Inv.turned {t' : Nat} {it : Addr} (I : Inv X pins σ H s) (k : ∀ b o, b ≠ it → s.heap.get? b = some o → h'.get? b = some o) (hn : H it = none) (hL : it ≠ X.env.locals)
    (h1 : it ∈ X.ex ∨ X.s₀.heap.objs.size ≤ it) (h2 : ∀ x c, X.env.cells.lookup x = some c → c ≠ it) (h3 : ∀ p ∈ X.pn ++ pins, p.1 ≠ it) : Inv X pins σ H { s with heap := h', toks := t' } := by
  have nit : ∀ b u, H b = some u → b ≠ it := fun b u e z => by rw [z, hn] at e; cases e
  refine I.step (g' := s.gens) (d' := s.drawn) (ch := [it]) (fun b hb => ?_) (fun b o _ _ hc e _ => k b o (fun z => hc (by simp [z])) e) (fun b o _ _ hc e _ => ⟨o.slots, k b o (fun z => hc (by simp [z])) e⟩) (fun _ _ _ _ n => n)
    (fun b o hc e => ⟨o, k b o (fun z => hc (by simp [z])) e⟩) (fun _ _ e => e) (fun _ _ _ e => e) (fun b ps e => ⟨#[], by rw [e]; simp⟩) (fun m hm => ?_) (fun b u e => ?_) I.bare
  · have e : b = it := by simpa using hb
    subst e
    exact ⟨h1, hL, h2, h3⟩
  · obtain ⟨o, es, ep, ho, r⟩ := hm
    exact ⟨o, es, ep, k _ o (Ne.symm hL) ho, r⟩
  · refine (I.hok b u e).stay (fun c v hc q => k c v ?_ q) (fun _ q => q) (fun _ _ q => q) fun _ _ _ q => q
    rcases hc with z | z
    · rw [z]; exact nit b u e
    · exact nit c _ z
theorem Inv.tok (I : Inv X pins σ H s) (t : Nat) : Inv X pins σ H { s with toks := t } := I.un (h' := s.heap) (t' := t) Un.refl I.hok

theorem Inv.kept {t' : Nat} (I : Inv X pins σ H s) (k : ∀ b u, s.heap.get? b = some u → h'.get? b = some u) : Inv X pins σ H { s with heap := h', toks := t' } := I.un (Un.kept k) (I.hok.kept k)

theorem Inv.laid {a : Addr} {o : HO} {t' : Nat} (I : Inv X pins σ H s) (k : ∀ b u, s.heap.get? b = some u → h'.get? b = some u) (hp : s.heap.objs.size ≤ a) (new : ObjOk X.prog X.w (upd H a o) h' a o) :
    Inv X pins σ (upd H a o) { s with heap := h', toks := t' } := I.un (Un.laid k hp (I.hok.fresh hp)) (I.hok.laid k hp new)

theorem Inv.write {x e : Addr} {o : HO} {t' : Nat} (I : Inv X pins σ H s) (mu : Mut (H x)) (he : e = x ∨ H e = some (.own x)) (k : ∀ b u, b ≠ e → s.heap.get? b = some u → h'.get? b = some u) (heo : ∃ u, h'.get? e = some u)
    (new : ObjOk X.prog X.w (upd H x o) h' x o) : Inv X pins σ (upd H x o) { s with heap := h', toks := t' } := I.un (Un.write mu he k heo) (I.hok.write mu he k heo new)

theorem Inv.weak {σ' : List (Option V)} (I : Inv X pins σ H s) (hl : σ'.length = σ.length) (w : ∀ (i : Nat) v, σ'[i]? = some (some v) → σ[i]? = some (some v)) : Inv X pins σ' H s :=
  ⟨I.ok, I.os, I.bare, I.base, let ⟨m, hn, hl'⟩ := I.loc; ⟨m, hn, fun i x v e1 e2 e3 => hl' i x v e1 (w i v e2) e3⟩, I.cell, I.free, I.freeC, I.pin, I.hok, hl.trans I.len⟩
theorem Inv.pins_of {pins' : List (Addr × Obj)} (I : Inv X pins σ H s) (h : ∀ p ∈ pins', s.heap.get? p.1 = some p.2 ∧ H p.1 = none ∧ p.1 ≠ X.env.locals ∧ p.1 ∉ X.fs ∧ ∀ v, p.2.data ≠ .cell v) : Inv X pins' σ H s :=
  ⟨I.ok, I.os, I.bare, I.base, I.loc, I.cell, I.free, I.freeC, fun p hp => (List.mem_append.mp hp).elim (fun z => I.pin p (List.mem_append_left _ z)) (h p), I.hok, I.len⟩

theorem nodup_ix {N : List Str} (hN : N.Nodup) {i j : Nat} {x : Str} (a : N[i]? = some x) (b : N[j]? = some x) : i = j := by
  obtain ⟨h1, e1⟩ := List.getElem?_eq_some_iff.mp a
  obtain ⟨h2, e2⟩ := List.getElem?_eq_some_iff.mp b
  exact (List.getElem_inj hN).mp (e1.trans e2.symm)


theorem store_ok2 {M : Model} {A : Around} {E : Value → Shared → Prop} {i : Nat} {x : Str} {v : V} {u : Value} {Q : Unit → Shared → Prop} (I : Inv X pins σ H s) (hN : X.N.Nodup) (hi : X.N[i]? = some x) (hx : Loc X.env.scope x) (r : RelV v u)
    (h : ∀ s', Inv X pins (σ.set i (some v)) H s' → (∃ a, Heap.SameBut a s.heap s'.heap ∧ (a = X.env.locals ∨ X.env.cells.lookup x = some a)) → Q () s') (hf : X.fn x = true ∨ X.env.scope.names.lookup x = some .local := by first | exact .inl rfl | exact .inr rfl | assumption) : wpAny M A (storeName X.env x u) Q E s := by
  obtain ⟨m, hn, hl⟩ := id I.loc
  have hcls : (X.env.scope.kind == .class || (X.env.scope.kind == .module && X.env.locals != X.env.globals)) = false := by rw [I.ok.kind]; rfl
  have hiσ : i < σ.length := by rw [I.len]; exact (List.getElem?_eq_some_iff.mp hi).1
  have cne := I.cne
  have tracked : ∀ {a : Addr} {h' : Heap}, (∃ o, s.heap.get? a = some o ∧ H a = none) → Heap.SameBut a s.heap h' → HOk X.prog X.w H h' := fun {a h'} ha hs b ob e => by
    obtain ⟨_, _, hfree⟩ := ha
    refine (I.hok b ob e).stay (fun c w' hc q => (hs.2 c ?_).trans q) (fun _ q => q) (fun _ _ q => q) fun _ _ _ q => q
    rintro rfl
    rcases hc with rfl | hc
    · rw [hfree] at e; cases e
    · rw [hfree] at hc; cases hc
  rcases hx with hk | hk
  · refine wpAny_storeName_local hk hn (fun h' hn' hs => ?_) hcls
    obtain ⟨oL, _, _, hoL, _⟩ := id hn
    refine h _ ⟨I.ok, I.os, I.bare, ⟨fun b o e n hb hx => ?_, fun b o e n hb hx => ?_, I.base.free, fun b o e hx => ?_, I.base.tups, I.base.frzs, I.base.tbls⟩, ⟨_, hn', fun j y v' e1 e2 e3 => ?_⟩, fun y c e => ?_, I.free, I.freeC, fun p hp => ?_, tracked ⟨oL, hoL, I.free⟩ hs, by simpa using I.len⟩ ⟨_, hs, .inl rfl⟩
    · exact (hs.2 b (Nat.ne_of_lt (Nat.lt_of_lt_of_le (Heap.lt_size e) I.ok.above))).trans (I.base.keep b o e n hb hx)
    · obtain ⟨sl, e1⟩ := I.base.slot b o e n hb hx
      exact ⟨sl, (hs.2 b (Nat.ne_of_lt (Nat.lt_of_lt_of_le (Heap.lt_size e) I.ok.above))).trans e1⟩
    · obtain ⟨o', e1⟩ := I.base.there b o e hx
      exact ⟨o', (hs.2 b (Nat.ne_of_lt (Nat.lt_of_lt_of_le (Heap.lt_size e) I.ok.above))).trans e1⟩
    · by_cases hj : j = i
      · subst hj
        rw [hi] at e1; cases e1
        rw [List.getElem?_set_self hiσ] at e2
        cases e2
        exact ⟨u, r, .inl ⟨hk, by simp⟩⟩
      · rw [List.getElem?_set_ne (Ne.symm hj)] at e2
        obtain ⟨u', r', q⟩ := hl j y v' e1 e2 e3
        refine ⟨u', r', ?_⟩
        rcases q with ⟨k, e⟩ | ⟨k, c, e, z⟩
        · refine .inl ⟨k, ?_⟩
          have : y ≠ x := fun e => hj (nodup_ix hN e1 (e ▸ hi))
          simp [this, e]
        · exact .inr ⟨k, c, e, z.sameBut hs (cne y c e)⟩
    · obtain ⟨w', z⟩ := I.cell y c e
      exact ⟨w', z.sameBut hs (cne y c e)⟩
    · obtain ⟨e, n, ne, nf, d⟩ := I.pin p hp
      exact ⟨(hs.2 p.1 ne).trans e, n, ne, nf, d⟩
  · have hfn : X.fn x = true := by
      rcases hf with z | z
      · exact z
      · rw [z] at hk; cases hk
    obtain ⟨c, hc⟩ := I.ok.has x (.inl hk)
    obtain ⟨w', z⟩ := I.cell x c hc
    refine wpAny_storeName_cell I.ok.kind hk hc z (fun h' hc' hs => ?_)
    obtain ⟨oc, hoc, hocd⟩ := id z
    refine h { s with heap := h' } ⟨I.ok, I.os, I.bare, ⟨fun b o e n hb hx => ?_, fun b o e n hb hx => ?_, I.base.free, fun b o e hx => ?_, I.base.tups, I.base.frzs, I.base.tbls⟩, ⟨m, hn.sameBut hs (Ne.symm (cne x c hc)), fun j y v' e1 e2 e3 => ?_⟩, fun y c' e => ?_, I.free, I.freeC, fun p hp => ?_, tracked ⟨oc, hoc, I.freeC x c hc⟩ hs, by simpa using I.len⟩ ⟨c, hs, .inr hc⟩
    · exact (hs.2 b (Nat.ne_of_lt (Nat.lt_of_lt_of_le (Heap.lt_size e) (I.ok.cab x c hfn hc)))).trans (I.base.keep b o e n hb hx)
    · obtain ⟨sl, e1⟩ := I.base.slot b o e n hb hx
      exact ⟨sl, (hs.2 b (Nat.ne_of_lt (Nat.lt_of_lt_of_le (Heap.lt_size e) (I.ok.cab x c hfn hc)))).trans e1⟩
    · obtain ⟨o', e1⟩ := I.base.there b o e hx
      exact ⟨o', (hs.2 b (Nat.ne_of_lt (Nat.lt_of_lt_of_le (Heap.lt_size e) (I.ok.cab x c hfn hc)))).trans e1⟩
    · by_cases hj : j = i
      · subst hj
        rw [hi] at e1; cases e1
        rw [List.getElem?_set_self hiσ] at e2
        cases e2
        exact ⟨u, r, .inr ⟨.inl hk, c, hc, hc'⟩⟩
      · rw [List.getElem?_set_ne (Ne.symm hj)] at e2
        obtain ⟨u', r', q⟩ := hl j y v' e1 e2 e3
        refine ⟨u', r', ?_⟩
        rcases q with q | ⟨k, c', e, z'⟩
        · exact .inl q
        · refine .inr ⟨k, c', e, z'.sameBut hs ?_⟩
          rintro rfl
          exact hj (nodup_ix hN e1 (I.ok.inj _ _ _ e hc ▸ hi))
    · by_cases hcc : c' = c
      · subst hcc; exact ⟨_, hc'⟩
      · obtain ⟨w2, z2⟩ := I.cell y c' e
        exact ⟨w2, z2.sameBut hs hcc⟩
    · obtain ⟨e, n, ne, nf, d⟩ := I.pin p hp
      refine ⟨(hs.2 p.1 ?_).trans e, n, ne, nf, d⟩
      intro q
      rw [q, hoc] at e
      have q' : oc = p.2 := Option.some.inj e
      exact d w' (by rw [← q']; exact hocd)
theorem store_ok {M : Model} {A : Around} {E : Value → Shared → Prop} {i : Nat} {x : Str} {v : V} {u : Value} {Q : Unit → Shared → Prop} (I : Inv X pins σ H s) (hN : X.N.Nodup) (hi : X.N[i]? = some x) (hx : Loc X.env.scope x) (r : RelV v u)
    (h : ∀ s', Inv X pins (σ.set i (some v)) H s' → Q () s') (hf : X.fn x = true ∨ X.env.scope.names.lookup x = some .local := by first | exact .inl rfl | exact .inr rfl | assumption) : wpAny M A (storeName X.env x u) Q E s :=
  store_ok2 I hN hi hx r (fun s' I' _ => h s' I') hf

theorem Inv.call' {s' : Shared} {ch : List Addr} (I : Inv X pins σ H s) (ho : s'.os = s.os) (u : Un (frs X.stack) ch H H' s.heap s'.heap) (hok : HOk X.prog X.w H' s'.heap) (hg : AllBare s'.gens)
    (hch : ∀ b ∈ ch, (b ∈ X.ex ∨ X.s₀.heap.objs.size ≤ b) ∧ b ≠ X.env.locals ∧ (∀ x c, X.env.cells.lookup x = some c → c ≠ b) ∧ ∀ p ∈ X.pn ++ pins, p.1 ≠ b) : Inv X pins σ H' s' := by
  obtain ⟨h', g', d', t', o'⟩ := s'
  have e : o' = s.os := ho
  subst e
  exact I.call (g' := g') (t' := t') (d' := d') u hok hg hch
end



abbrev XK := Value → Option Addr → Hp → Prop
abbrev St := List (Option V)
abbrev VK := V → Hp → Prop

abbrev TE := St → Hp → VK → Prop
abbrev TT := St → Hp → (Bool → Hp → Prop) → Prop
abbrev TA := St → Hp → (List V → Hp → Prop) → Prop

structure Ends where
  nx : St → Hp → Prop
  rt : VK
  bk : St → Hp → Prop := fun _ _ => False
  ct : St → Hp → Prop := fun _ _ => False
abbrev TS := Ends → St → Hp → Prop

def EP (X : Cx) (pins : List (Addr × Obj)) (σ : St) (Q : VK) (u : Value) (s' : Shared) : Prop := ∃ v H', Inv X pins σ H' s' ∧ RelV v u ∧ Q v H'
def TP (X : Cx) (pins : List (Addr × Obj)) (σ : St) (Q : Bool → Hp → Prop) (b : Bool) (s' : Shared) : Prop := ∃ H', Inv X pins σ H' s' ∧ Q b H'
def AP (X : Cx) (pins : List (Addr × Obj)) (σ : St) (Q : List V → Hp → Prop) (us : List Value) (s' : Shared) : Prop := ∃ vs H', Inv X pins σ H' s' ∧ Vals vs us ∧ Q vs H'
def SP (X : Cx) (pins : List (Addr × Obj)) (D : Ends) (f : Flow) (s' : Shared) : Prop :=
  match f with
  | .next => ∃ σ' H', Inv X pins σ' H' s' ∧ D.nx σ' H'
  | .brk => ∃ σ' H', Inv X pins σ' H' s' ∧ D.bk σ' H'
  | .cont => ∃ σ' H', Inv X pins σ' H' s' ∧ D.ct σ' H'
  | .ret u => ∃ v σ' H', Inv X pins σ' H' s' ∧ RelV v u ∧ D.rt v H'

def PE (X : Cx) (e : Expr) (t : TE) : Prop :=
  ∀ (pins : List (Addr × Obj)) (s : Shared) (σ : St) (H : Hp) (Q : VK), Inv X pins σ H s → t σ H Q → wpAny (model X.prog X.w) X.A (eval e X.env) (EP X pins σ Q) X.xe s
def PT (X : Cx) (e : Expr) (t : TT) : Prop :=
  ∀ (pins : List (Addr × Obj)) (s : Shared) (σ : St) (H : Hp) (Q : Bool → Hp → Prop), Inv X pins σ H s → t σ H Q → wpAny (model X.prog X.w) X.A (isTrue e X.env (eval e X.env)) (TP X pins σ Q) X.xe s

def PW (X : Cx) (e : Expr) (t : TT) : Prop :=
  ∀ (whole : Sem Value) (pins : List (Addr × Obj)) (s : Shared) (σ : St) (H : Hp) (Q : Bool → Hp → Prop), Inv X pins σ H s → t σ H Q → wpAny (model X.prog X.w) X.A (isTrue e X.env whole) (TP X pins σ Q) X.xe s
theorem PW.pt {X : Cx} {e : Expr} {t : TT} (h : PW X e t) : PT X e t := h _

def PA (X : Cx) (es : List Expr) (t : TA) : Prop :=
  ∀ (pos : Pos) (pins : List (Addr × Obj)) (s : Shared) (σ : St) (H : Hp) (Q : List V → Hp → Prop), Inv X pins σ H s → t σ H Q → wpAny (model X.prog X.w) X.A (spliced (backTo pos (starEach es X.env))) (AP X pins σ Q) X.xe s
def PS (X : Cx) (st : Stmt) (t : TS) : Prop :=
  ∀ (pins : List (Addr × Obj)) (s : Shared) (σ : St) (H : Hp) (D : Ends), Inv X pins σ H s → t D σ H → wpAny (model X.prog X.w) X.A (exec st X.env) (SP X pins D) X.xe s
def PSs (X : Cx) (st : List Stmt) (t : TS) : Prop :=
  ∀ (pins : List (Addr × Obj)) (s : Shared) (σ : St) (H : Hp) (D : Ends), Inv X pins σ H s → t D σ H → wpAny (model X.prog X.w) X.A (execs st X.env) (SP X pins D) X.xe s

theorem thn {α : Type} {t : Sem α} {Q Q' : α → Shared → Prop} {M : Model} {A : Around} {E : Value → Shared → Prop} {s : Shared} (h : wpAny M A t Q E s) (hQ : ∀ a s, Q a s → Q' a s) : wpAny M A t Q' E s := wpAny_mono h hQ fun _ _ x => x
end L2

namespace L2
open PySem PySem.Spec PyProof.Rows
section
variable {X : Cx}


def tVar (i : Nat) : TE := fun σ H Q => ∃ v, σ[i]? = some (some v) ∧ Q v H
def tC (v : V) : TE := fun _ H Q => Q v H
theorem pe_var {i : Nat} {x : Str} {pos : Pos} (hN : X.N[i]? = some x) (hv : Vis X.env.scope x) (hd : (x == ("__debug__" : Str)) = false := by decide) (hcd : (x == ("__classdict__" : Str)) = false := by decide) : PE X (.Name x pos) (tVar i) := by
  intro pins s σ H Q I h
  obtain ⟨v, e, h⟩ := h
  obtain ⟨m, hn, hl⟩ := I.loc
  obtain ⟨u, r, l⟩ := hl i x v hN e hv
  have fin : EP X pins σ Q u s := ⟨v, H, I, r, h⟩
  rcases l with ⟨hk, hm⟩ | ⟨hk, c, hc, hcell⟩
  · exact wpAny_Name (wpAny_loadName_local I.ok.kind hk hn hm fin) hd
  · rcases hk with hk | hk
    · exact wpAny_Name (wpAny_loadName_cell I.ok.kind hk hc hcell fin) hd
    · exact wpAny_Name (wpAny_loadName_free I.ok.kind hk hc hcell fin hcd) hd
theorem pe_int {i j pos} : PE X (.Constant (.int i) j pos) (tC (.int i)) := fun _ _ _ H _ I h => wpAny_Constant_int ⟨.int i, H, I.tok _, ⟨_, rfl⟩, h⟩
theorem pe_bl {b j pos} : PE X (.Constant (.bool b) j pos) (tC (.bl b)) := fun _ _ _ H _ I h => Constant_bool ⟨.bl b, H, I, rfl, h⟩
theorem pe_non {j pos} : PE X (.Constant .none j pos) (tC .non) := fun _ _ _ H _ I h => Constant_none ⟨.non, H, I, rfl, h⟩
def Gl (X : Cx) (x : Str) : Prop := X.env.kindOf x = some .globalImplicit
theorem ld_glob {E : Value → Shared → Prop} {pins : List (Addr × Obj)} {s : Shared} {σ : St} {H : Hp} {x : Str} {u : Value} {pos : Pos} {Q : Value → Shared → Prop} (I : Inv X pins σ H s) (hg : Gl X x) (hm : X.mg x = some u) (h : Q u s)
    (hd : (x == ("__debug__" : Str)) = false := by decide) : wpAny (model X.prog X.w) X.A (eval (.Name x pos) X.env) Q E s :=
  Calls.Name_function_global I.ok.kind hg (Calls.loadGlobal_global (by rw [I.ok.glob]; exact I.mod.glob.keeps I.bk) hm h) hd
theorem ld_blt {E : Value → Shared → Prop} {pins : List (Addr × Obj)} {s : Shared} {σ : St} {H : Hp} {x : Str} {u : Value} {pos : Pos} {Q : Value → Shared → Prop} (I : Inv X pins σ H s) (hg : Gl X x) (hm : X.mg x = none) (hv : bootBuiltins x = some u) (h : Q u s)
    (hn : x ≠ "__name__" := by decide) (hd : (x == ("__debug__" : Str)) = false := by decide) : wpAny (model X.prog X.w) X.A (eval (.Name x pos) X.env) Q E s := by
  obtain ⟨mb, h1, h2⟩ := I.mod.blt
  exact Calls.Name_function_global I.ok.kind hg (Calls.loadGlobal_builtin (by rw [I.ok.glob]; exact I.mod.glob.keeps I.bk) hm (by rw [I.ok.blt]; exact h1.keeps I.bk) ((h2 x hn).trans hv) h) hd

theorem pe_glob {x : Str} {v : V} {u : Value} {pos : Pos} (hg : Gl X x) (hm : X.mg x = some u) (r : RelV v u) (hd : (x == ("__debug__" : Str)) = false := by decide) : PE X (.Name x pos) (tC v) :=
  fun _ _ _ H _ I h => ld_glob I hg hm ⟨v, H, I, r, h⟩ hd
theorem pe_bltn {x : Str} {v : V} {u : Value} {pos : Pos} (hg : Gl X x) (hm : X.mg x = none) (hv : bootBuiltins x = some u) (r : RelV v u) (hn : x ≠ "__name__" := by decide) (hd : (x == ("__debug__" : Str)) = false := by decide) : PE X (.Name x pos) (tC v) :=
  fun _ _ _ H _ I h => ld_blt I hg hm hv ⟨v, H, I, r, h⟩ hn hd



variable {a b : Expr} {ta tb : TE} {pos : Pos}
def tB (t : TE) : TT := fun σ H Q => t σ H fun x H1 => ∃ c, x = .bl c ∧ Q c H1
theorem pt_val {e : Expr} {t : TE} (h : PE X e t) (he : ∀ whole, isTrue e X.env whole = (do let v ← whole; standAt e.pos; holding [v] (truthy v)) := by intro _; rfl) : PT X e (tB t) := by
  intro pins s σ H Q I hw
  refine isTrue_plain (thn (h pins s σ H _ I hw) fun v s1 ⟨x, H1, I1, r1, q1⟩ => ?_) (he _)
  obtain ⟨d, rfl, q⟩ := q1
  cases r1
  exact wpAny_truthy_bool ⟨H1, I1, q⟩


variable {tA tB' : TT} {rest : List Expr}
def tAnd (t u : TT) : TT := fun σ H Q => t σ H fun c H1 => if c = true then u σ H1 Q else Q false H1
def tOr (t u : TT) : TT := fun σ H Q => t σ H fun c H1 => if c = true then Q true H1 else u σ H1 Q
def tNot (t : TT) : TT := fun σ H Q => t σ H fun c H1 => Q (!c) H1
theorem pw_and1 (ha : PT X a tA) : PW X (.BoolOp .And [a] pos) tA := by
  intro wh pins s σ H Q I h
  refine isTrue_and (thn (ha pins s σ H Q I h) fun c s1 e => ?_)
  cases c with
  | true => exact isTrue_and_nil e
  | false => exact e
theorem pw_or1 (ha : PT X a tA) : PW X (.BoolOp .Or [a] pos) tA := by
  intro wh pins s σ H Q I h
  refine isTrue_or (thn (ha pins s σ H Q I h) fun c s1 e => ?_)
  cases c with
  | false => exact isTrue_or_nil e
  | true => exact e
theorem pw_and (ha : PT X a tA) (hb : PW X (.BoolOp .And (b :: rest) pos) tB') : PW X (.BoolOp .And (a :: b :: rest) pos) (tAnd tA tB') := by
  intro wh pins s σ H Q I h
  refine isTrue_and (thn (ha pins s σ H _ I h) fun c s1 ⟨H1, I1, q1⟩ => ?_)
  cases c with
  | true => exact hb wh pins s1 σ H1 Q I1 q1
  | false => exact ⟨H1, I1, q1⟩
theorem pw_or (ha : PT X a tA) (hb : PW X (.BoolOp .Or (b :: rest) pos) tB') : PW X (.BoolOp .Or (a :: b :: rest) pos) (tOr tA tB') := by
  intro wh pins s σ H Q I h
  refine isTrue_or (thn (ha pins s σ H _ I h) fun c s1 ⟨H1, I1, q1⟩ => ?_)
  cases c with
  | true => exact ⟨H1, I1, q1⟩
  | false => exact hb wh pins s1 σ H1 Q I1 q1
theorem pt_not (ha : PT X a tA) : PT X (.UnaryOp .Not a pos) (tNot tA) := by
  intro pins s σ H Q I h
  exact isTrue_not (ha pins s σ H (fun c H1 => Q (!c) H1) I h)

def tAndV (ta tb : TE) : TE := fun σ H Q => ta σ H fun x H1 => ∃ c, x = .bl c ∧ if c = true then tb σ H1 Q else Q (.bl false) H1
def tOrV (ta tb : TE) : TE := fun σ H Q => ta σ H fun x H1 => ∃ c, x = .bl c ∧ if c = true then Q (.bl true) H1 else tb σ H1 Q
def tNotV (ta : TE) : TE := fun σ H Q => ta σ H fun x H1 => ∃ c, x = .bl c ∧ Q (.bl (!c)) H1
theorem pe_one {op} {t : TE} (h : PE X a t) : PE X (.BoolOp op [a] pos) t := fun pins s σ H Q I hw => BoolOp_one (h pins s σ H Q I hw)
theorem pe_and (ha : PE X a ta) (hb : PE X (.BoolOp .And (b :: rest) pos) tb) : PE X (.BoolOp .And (a :: b :: rest) pos) (tAndV ta tb) := by
  intro pins s σ H Q I h
  refine BoolOp_and (thn (ha pins s σ H _ I h) fun v s1 ⟨x, H1, I1, r1, q1⟩ => ?_)
  obtain ⟨c, rfl, q1⟩ := q1
  cases r1
  refine wpAny_truthy_bool ?_
  cases c with
  | true => exact hb pins s1 σ H1 Q I1 q1
  | false => exact ⟨.bl false, H1, I1, rfl, q1⟩
theorem pe_not (ha : PE X a ta) : PE X (.UnaryOp .Not a pos) (tNotV ta) := by
  intro pins s σ H Q I h
  refine UnaryOp_ (thn (ha pins s σ H _ I h) fun v s1 ⟨x, H1, I1, r1, q1⟩ => ?_)
  obtain ⟨c, rfl, q1⟩ := q1
  cases r1
  exact not_of (wpAny_truthy_bool ⟨.bl (!c), H1, I1, rfl, q1⟩)

def tIf (t : TT) (ta tb : TE) : TE := fun σ H Q => t σ H fun c H1 => if c = true then ta σ H1 Q else tb σ H1 Q
end
end L2

namespace L2
open PySem PySem.Spec PyProof.Rows


def SqL (K : PySem.W.Frag) (H : Hp) (a : Addr) (xs : List V) : Prop :=
  Rd H a (.lst xs) ∨
    ∃ (o : Obj) (its : Array Value) (n : Nat), K.lookup a = some o ∧ o.cls = .type "list" ∧ o.dict = none ∧ o.data = .seq its n ∧ its.size ≤ sizeLine ∧ Vals xs its.toList
def SqT (K : PySem.W.Frag) (H : Hp) (a : Addr) (xs : List V) : Prop :=
  Rd H a (.tup xs) ∨
    ∃ (o : Obj) (its : Array Value) (n : Nat), K.lookup a = some o ∧ o.cls = .type "tuple" ∧ o.data = .seq its n ∧ its.size ≤ sizeLine ∧ Vals xs its.toList
def absV : Value → Option V
  | .none => some .non
  | .bool b => some (.bl b)
  | .int i _ => some (.int i)
  | .str x _ => some (.str x)
  | .bytes b _ => some (.byt b)
  | .float b _ => some (.flt b)
  | .ref a => some (.ref a)
  | .type n => some (.ty n)
  | _ => none
theorem RelV.abs {x : V} {u : Value} (r : RelV x u) : absV u = some x := by
  cases x with
  | non => cases r; rfl
  | bl _ => cases r; rfl
  | int _ => obtain ⟨t, rfl⟩ := r; rfl
  | str _ => obtain ⟨t, rfl⟩ := r; rfl
  | byt _ => obtain ⟨t, rfl⟩ := r; rfl
  | flt _ => obtain ⟨t, rfl⟩ := r; rfl
  | ref _ => cases r; rfl
  | ty _ => cases r; rfl
theorem RelV.inj {x y : V} {u : Value} (r : RelV x u) (q : RelV y u) : x = y := Option.some.inj (r.abs.symm.trans q.abs)
theorem Vals.inj : ∀ {xs ys : List V} {us : List Value}, Vals xs us → Vals ys us → xs = ys
  | _, _, _, .nil, .nil => rfl
  | _, _, _, .cons r t, .cons r' t' => by rw [r.inj r', Vals.inj t t']
section
variable {X : Cx} {pins : List (Addr × Obj)} {σ : St} {H : Hp} {s : Shared} {a : Addr} {xs ys : List V}
theorem SqL.of {K : PySem.W.Frag} (h : H a = some (.lst xs)) : SqL K H a xs := .inl (.inl h)
theorem SqT.of {K : PySem.W.Frag} (h : H a = some (.tup xs)) : SqT K H a xs := .inl (.inl h)
theorem Inv.list (I : Inv X pins σ H s) (h : SqL X.K H a xs) : ∃ its : List Value, Vals xs its ∧ PlainL s.heap a its.toArray ∧ xs.length ≤ sizeLine := by
  rcases h with h | ⟨o, its, n, hk, hc, hd, hs, hz, r⟩
  · obtain ⟨z, its, n, r, e⟩ := h.ok I.hok
    exact ⟨its, r, ⟨_, n, e, rfl, rfl, rfl⟩, z⟩
  · refine ⟨its.toList, r, ⟨o, n, I.kIn a o hk, hc, hd, by simpa using hs⟩, ?_⟩
    have e := r.length
    simp only [Array.length_toList] at e
    omega
theorem Inv.tuple (I : Inv X pins σ H s) (h : SqT X.K H a xs) : ∃ its : List Value, Vals xs its ∧ IsTup s.heap a its.toArray ∧ xs.length ≤ sizeLine := by
  rcases h with h | ⟨o, its, n, hk, hc, hs, hz, r⟩
  · obtain ⟨z, its, r, p⟩ := h.ok I.hok
    exact ⟨its, r, p, z⟩
  · refine ⟨its.toList, r, ⟨o, I.kIn a o hk, hc, n, by simpa using hs⟩, ?_⟩
    have e := r.length
    simp only [Array.length_toList] at e
    omega
theorem Inv.list_inj (I : Inv X pins σ H s) (h : SqL X.K H a xs) (h' : SqL X.K H a ys) : xs = ys := by
  obtain ⟨its, r, ⟨o, n, e, _, _, d⟩, _⟩ := I.list h
  obtain ⟨its', r', ⟨o', n', e', _, _, d'⟩, _⟩ := I.list h'
  rw [e] at e'; cases e'
  rw [d] at d'
  injection d' with d1 _
  have : its = its' := by simpa using congrArg Array.toList d1
  subst this
  exact r.inj r'
theorem Inv.tuple_inj (I : Inv X pins σ H s) (h : SqT X.K H a xs) (h' : SqT X.K H a ys) : xs = ys := by
  obtain ⟨its, r, ⟨o, e, _, n, d⟩, _⟩ := I.tuple h
  obtain ⟨its', r', ⟨o', e', _, n', d'⟩, _⟩ := I.tuple h'
  rw [e] at e'; cases e'
  rw [d] at d'
  injection d' with d1 _
  have : its = its' := by simpa using congrArg Array.toList d1
  subst this
  exact r.inj r'
end


abbrev Cx.wish (X : Cx) (E : Value → Shared → Prop) : Cx := { X with xe := E }

abbrev Cx.nox (X : Cx) : Cx := X.wish fun _ _ => False
theorem Cx.Ok.wish {X : Cx} (ok : X.Ok) (E : Value → Shared → Prop) : (X.wish E).Ok :=
  ⟨ok.mod, ok.kind, ok.glob, ok.blt, ok.above, ok.inj, ok.has, ok.cab, ok.hd, ok.frames, ok.stk, ok.exf, ok.bs, ok.bsz, ok.noex, ok.exfs, ok.funs, ok.frf⟩
theorem Cx.Ok.unwish {X : Cx} {E : Value → Shared → Prop} (ok : (X.wish E).Ok) : X.Ok :=
  ⟨ok.mod, ok.kind, ok.glob, ok.blt, ok.above, ok.inj, ok.has, ok.cab, ok.hd, ok.frames, ok.stk, ok.exf, ok.bs, ok.bsz, ok.noex, ok.exfs, ok.funs, ok.frf⟩
section
variable {X : Cx} {pins : List (Addr × Obj)} {σ : St} {H : Hp} {s : Shared} {E : Value → Shared → Prop}
theorem Inv.wish (I : Inv X pins σ H s) (E : Value → Shared → Prop) : Inv (X.wish E) pins σ H s := ⟨I.ok.wish E, I.os, I.bare, I.base, I.loc, I.cell, I.free, I.freeC, I.pin, I.hok, I.len⟩
theorem Inv.unwish (I : Inv (X.wish E) pins σ H s) : Inv X pins σ H s := ⟨I.ok.unwish, I.os, I.bare, I.base, I.loc, I.cell, I.free, I.freeC, I.pin, I.hok, I.len⟩
theorem SP.unwish {D : Ends} {f : Flow} {s' : Shared} (h : SP (X.wish E) pins D f s') : SP X pins D f s' := by
  cases f with
  | next => obtain ⟨σ', H', I, q⟩ := h; exact ⟨σ', H', I.unwish, q⟩
  | brk => obtain ⟨σ', H', I, q⟩ := h; exact ⟨σ', H', I.unwish, q⟩
  | cont => obtain ⟨σ', H', I, q⟩ := h; exact ⟨σ', H', I.unwish, q⟩
  | ret u => obtain ⟨v, σ', H', I, r, q⟩ := h; exact ⟨v, σ', H', I.unwish, r, q⟩
theorem PE.nox {e : Expr} {t : TE} (h : PE X.nox e t) : PE X e t := fun pins s σ H Q I hw =>
  wpAny_mono (h pins s σ H Q (I.wish _) hw) (fun _ _ ⟨v, H', I', r, q⟩ => ⟨v, H', I'.unwish, r, q⟩) fun _ _ z => False.elim z
theorem PT.nox {e : Expr} {t : TT} (h : PT X.nox e t) : PT X e t := fun pins s σ H Q I hw =>
  wpAny_mono (h pins s σ H Q (I.wish _) hw) (fun _ _ ⟨H', I', q⟩ => ⟨H', I'.unwish, q⟩) fun _ _ z => False.elim z
theorem PSs.nox {st : List Stmt} {t : TS} (h : PSs X.nox st t) : PSs X st t := fun pins s σ H D I hw =>
  wpAny_mono (h pins s σ H D (I.wish _) hw) (fun _ _ q => q.unwish) fun _ _ z => False.elim z
end


section
variable {X : Cx} {st : Stmt} {rest : List Stmt} {t u : TS} {e : Expr} {te : TE} {pos : Pos}
def tNext : TS := fun D σ H => D.nx σ H
def tSeq (t u : TS) : TS := fun D σ H => t { D with nx := u D } σ H
theorem pss_nil : PSs X [] tNext := fun _ _ σ H _ I h => wpAny_execs_nil ⟨σ, H, I, h⟩
theorem pss_cons (h1 : PS X st t) (h2 : PSs X rest u) : PSs X (st :: rest) (tSeq t u) := by
  intro pins s σ H D I h
  refine wpAny_execs_cons (thn (h1 pins s σ H { D with nx := u D } I h) fun f s1 q => ?_)
  cases f with
  | next =>
    obtain ⟨σ', H', I', q⟩ := q
    exact h2 pins s1 σ' H' D I' q
  | ret v => exact q
  | brk => exact q
  | cont => exact q
theorem pss_one (h1 : PS X st t) : PSs X [st] t := by
  intro pins s σ H D I h
  refine wpAny_execs_cons (thn (h1 pins s σ H D I h) fun f s1 q => ?_)
  cases f with
  | next => exact wpAny_execs_nil q
  | ret v => exact q
  | brk => exact q
  | cont => exact q
theorem Inv.quiet {pins : List (Addr × Obj)} {σ : St} {H : Hp} {s : Shared} (I : Inv X pins σ H s) : interactive X.env = false := by simp [interactive, I.ok.kind]

def tDrop (te : TE) : TS := fun D σ H => te σ H fun _ H1 => D.nx σ H1
theorem ps_expr (he : PE X e te) (hs : swapsWith e none pos.line X.env = pure false := by rfl) : PS X (.Expr e pos) (tDrop te) := by
  intro pins s σ H D I h
  exact wpAny_Expr_any (thn (he pins s σ H _ I h) fun v s1 ⟨x, H1, I1, r1, q1⟩ => ⟨σ, H1, I1, q1⟩) I.quiet hs
def tRet (te : TE) : TS := fun D σ H => te σ H D.rt
theorem ps_ret (he : PE X e te) : PS X (.Return (some e) pos) (tRet te) := by
  intro pins s σ H D I h
  exact wpAny_Return_some (thn (he pins s σ H _ I h) fun v s1 ⟨x, H1, I1, r1, q1⟩ => ⟨x, σ, H1, I1, r1, q1⟩)
def tIfS (c : TT) (t u : TS) : TS := fun D σ H => c σ H fun b H1 => if b = true then t D σ H1 else u D σ H1
theorem ps_if {c : Expr} {a b : List Stmt} {tc : TT} (hc : PT X c tc) (ha : PSs X a t) (hb : PSs X b u) : PS X (.If c a b pos) (tIfS tc t u) := by
  intro pins s σ H D I h
  refine wpAny_If (thn (hc pins s σ H _ I h) fun d s1 ⟨H1, I1, q1⟩ => ?_)
  cases d with
  | true => exact ha pins s1 σ H1 D I1 q1
  | false => exact hb pins s1 σ H1 D I1 q1

end


abbrev TG := V → St → Hp → (St → Hp → Prop) → Prop
abbrev TGs := List V → St → Hp → (St → Hp → Prop) → Prop
def PG (X : Cx) (target : Expr) (t : TG) : Prop :=
  ∀ (pins : List (Addr × Obj)) (s : Shared) (σ : St) (H : Hp) (v : V) (u : Value) (Q : St → Hp → Prop), Inv X pins σ H s → RelV v u → t v σ H Q →
    wpAny (model X.prog X.w) X.A (assign target X.env u) (fun _ s' => ∃ σ' H', Inv X pins σ' H' s' ∧ Q σ' H') X.xe s

def PGs (X : Cx) (ts : List Expr) (t : TGs) : Prop :=
  ∀ (pins : List (Addr × Obj)) (s : Shared) (σ : St) (H : Hp) (vs : List V) (us : List Value) (Q : St → Hp → Prop), Inv X pins σ H s → Vals vs us → t vs σ H Q →
    wpAny (model X.prog X.w) X.A (assignInOrder ((assignEach ts X.env).map (·.2)) us) (fun _ s' => ∃ σ' H', Inv X pins σ' H' s' ∧ Q σ' H') X.xe s

abbrev TSet := V → V → V → Hp → (Hp → Prop) → Prop
def PSet (X : Cx) (t : TSet) : Prop :=
  ∀ (pins : List (Addr × Obj)) (s : Shared) (σ : St) (H : Hp) (o i v : V) (ov iv u : Value) (Q : Hp → Prop), Inv X pins σ H s → RelV o ov → RelV i iv → RelV v u → t o i v H Q →
    wpAny (model X.prog X.w) X.A (setItem ov iv u) (fun _ s' => ∃ H', Inv X pins σ H' s' ∧ Q H') X.xe s

abbrev TIp := V → V → Hp → VK → Prop
def PIp (X : Cx) (op : Operator) (t : TIp) : Prop :=
  ∀ (pins : List (Addr × Obj)) (s : Shared) (σ : St) (H : Hp) (x y : V) (v u : Value) (Q : VK), Inv X pins σ H s → RelV x v → RelV y u → t x y H Q →
    wpAny (model X.prog X.w) X.A (inplaceOp op v u) (EP X pins σ Q) X.xe s
section
variable {X : Cx} {pos : Pos}
def gName (i : Nat) : TG := fun v σ H Q => Q (σ.set i (some v)) H
theorem pg_name {i : Nat} {x : Str} (hN : X.N.Nodup) (hi : X.N[i]? = some x) (hx : Loc X.env.scope x) (hf : X.fn x = true ∨ X.env.scope.names.lookup x = some .local := by first | exact .inl rfl | exact .inr rfl | assumption) : PG X (.Name x pos) (gName i) := by
  intro pins s σ H v u Q I r h
  exact wpAny_assign_Name (store_ok I hN hi hx r (fun s' I' => ⟨_, H, I', h⟩) hf)
def gNil : TGs := fun vs σ H Q => vs = [] ∧ Q σ H
def gCons (t : TG) (u : TGs) : TGs := fun vs σ H Q => ∃ v r, vs = v :: r ∧ t v σ H fun σ' H' => u r σ' H' Q
theorem pgs_nil : PGs X [] gNil := by
  intro pins s σ H vs us Q I r h
  obtain ⟨e, h⟩ := h
  subst e
  cases r
  exact assignInOrder_nil ⟨σ, H, I, h⟩
theorem pgs_cons {e : Expr} {es : List Expr} {t : TG} {u : TGs} (h1 : PG X e t) (h2 : PGs X es u)
    (hs : (assignEach (e :: es) X.env).map (·.2) = assign e X.env :: (assignEach es X.env).map (·.2) := by rfl) : PGs X (e :: es) (gCons t u) := by
  intro pins s σ H vs us Q I r h
  obtain ⟨v, vr, e1, h⟩ := h
  subst e1
  cases r with
  | cons r rr =>
    rw [hs]
    refine assignInOrder_cons (thn (h1 pins s σ H _ _ _ I r h) fun _ s1 ⟨σ1, H1, I1, q1⟩ => ?_)
    exact h2 pins s1 σ1 H1 _ _ Q I1 rr q1

def gTup (K : PySem.W.Frag) (n : Nat) (t : TGs) : TG := fun v σ H Q => ∃ a xs, v = .ref a ∧ SqT K H a xs ∧ xs.length = n ∧ t xs σ H Q
theorem pg_tup {es : List Expr} {k : Nat} {t : TGs} {n : Nat} (hc : X.calm = true) (h : PGs X es t)
    (hn : (assignEach es X.env).length = n := by rfl) (hst : (assignEach es X.env).findIdx? (·.1) = none := by rfl) : PG X (.Tuple es k pos) (gTup X.K n t) := by
  intro pins s σ H v u Q I r hw
  obtain ⟨a, xs, e1, hq, hl, hw⟩ := hw
  subst e1
  cases r
  obtain ⟨its, rv, ht, hz⟩ := I.tuple hq
  refine assign_Tuple_tuple (I.ok.hd hc) ht (by simp [hn, ← hl, rv.length]) hst fun h' hx => ?_
  have I1 : Inv X pins σ H { s with heap := h' } := I.kept (t' := s.toks) fun b o e => hx b o (Nat.ne_of_lt (Heap.lt_size e)) e
  exact h pins _ σ H xs _ Q I1 (by simpa using rv) hw

def gSub (to ti : TE) (t : TSet) : TG := fun v σ H Q => to σ H fun o H1 => ti σ H1 fun i H2 => t o i v H2 fun H3 => Q σ H3
theorem pg_sub {o i : Expr} {to ti : TE} {t : TSet} (ho : PE X o to) (hi : PE X i ti) (hs : PSet X t)
    (ha : ∀ v, assign (.Subscript o i pos) X.env v = (do
      let ov ← holding [v] (eval o X.env)
      let iv ← holding [v, ov] (eval i X.env)
      standAt pos
      holding [v, ov, iv] (setItem ov iv v)
      release [v, ov, iv] []) := by intro _; rfl) : PG X (.Subscript o i pos) (gSub to ti t) := by
  intro pins s σ H v u Q I r h
  rw [ha]
  refine wpAny_bind (wpAny_holding (thn (ho pins s σ H _ I h) fun ov s1 ⟨x, H1, I1, r1, q1⟩ => ?_))
  refine wpAny_bind (wpAny_holding (thn (hi pins s1 σ H1 _ I1 q1) fun iv s2 ⟨y, H2, I2, r2, q2⟩ => ?_))
  refine wpAny_bind (wpAny_standAt (wpAny_bind (wpAny_holding (thn (hs pins s2 σ H2 x y v ov iv u _ I2 r1 r2 r q2) fun _ s3 ⟨H3, I3, q3⟩ => ?_))))
  exact wpAny_release ⟨σ, H3, I3, q3⟩

def tAsg (te : TE) (g : TG) : TS := fun D σ H => te σ H fun x H1 => g x σ H1 D.nx
theorem ps_asg {tg e : Expr} {te : TE} {g : TG} (he : PE X e te) (hg : PG X tg g) (hs : swapsWithSole [tg] e pos.line X.env = pure false := by rfl) (hw : swappedStores [tg] e X.env = pure none := by rfl)
    (h1 : (assignEach [tg] X.env).map (·.2) = [assign tg X.env] := by rfl) : PS X (.Assign [tg] e pos) (tAsg te g) := by
  intro pins s σ H D I h
  refine wpAny_Assign_stores (thn (he pins s σ H _ I h) fun v s1 ⟨x, H1, I1, r1, q1⟩ => ?_) hs hw
  rw [h1]
  exact thn (hg pins s1 σ H1 x v _ I1 r1 q1) fun _ s2 q => q

theorem ps_set {i : Nat} {x : Str} {e : Expr} {te : TE} {pos' : Pos} (hN : X.N.Nodup) (hi : X.N[i]? = some x) (hx : Loc X.env.scope x) (he : PE X e te) (hs : swapsWith e (some (.Name x pos')) pos.line X.env = pure false := by rfl) (hf : X.fn x = true ∨ X.env.scope.names.lookup x = some .local := by first | exact .inl rfl | exact .inr rfl | assumption) :
    PS X (.Assign [.Name x pos'] e pos) (tAsg te (gName i)) := by
  intro pins s σ H D I h
  refine wpAny_Assign_Name (thn (he pins s σ H _ I h) fun v s1 ⟨y, H1, I1, r1, q1⟩ => ?_) hs
  exact store_ok I1 hN hi hx r1 (fun s2 I2 => ⟨_, H1, I2, q1⟩) hf

def tPar (i j : Nat) (ta : TA) : TS := fun D σ H => ta σ H fun vs H1 => ∃ v w, vs = [v, w] ∧ D.nx ((σ.set i (some v)).set j (some w)) H1
def tAug (i : Nat) (te : TE) (ti : TIp) : TS := fun D σ H => ∃ x, σ[i]? = some (some x) ∧ te σ H fun y H1 => ti x y H1 fun z H2 => D.nx (σ.set i (some z)) H2
theorem ps_aug {i : Nat} {x : Str} {e : Expr} {te : TE} {op : Operator} {ti : TIp} {pos' : Pos} (hN : X.N.Nodup) (hi : X.N[i]? = some x) (hx : Loc X.env.scope x) (he : PE X e te) (ho : PIp X op ti) (hf : X.fn x = true ∨ X.env.scope.names.lookup x = some .local := by first | exact .inl rfl | exact .inr rfl | assumption) :
    PS X (.AugAssign (.Name x pos') op e pos) (tAug i te ti) := by
  intro pins s σ H D I h
  obtain ⟨v, e1, h⟩ := h
  obtain ⟨m, hn, hl⟩ := I.loc
  have vis : Vis X.env.scope x := by rcases hx with k | k; exact .inl k; exact .inr (.inl k)
  obtain ⟨u, r, l⟩ := hl i x v hi e1 vis
  refine wpAny_AugAssign_Name ?_
  have go : wpAny (model X.prog X.w) X.A (eval e X.env) (fun w s₂ => wpAny (model X.prog X.w) X.A (inplaceOp op u w) (fun r s₃ => wpAny (model X.prog X.w) X.A (storeName X.env x r) (fun _ => SP X pins D .next) X.xe s₃) X.xe s₂) X.xe s := by
    refine thn (he pins s σ H _ I h) fun w s1 ⟨y, H1, I1, r1, q1⟩ => ?_
    refine thn (ho pins s1 σ H1 v y u w _ I1 r r1 q1) fun z s2 ⟨zv, H2, I2, r2, q2⟩ => ?_
    exact store_ok I2 hN hi hx r2 (fun s3 I3 => ⟨_, H2, I3, q2⟩) hf
  rcases l with ⟨hk, hm⟩ | ⟨hk, c, hc, hcell⟩
  · exact wpAny_loadName_local I.ok.kind hk hn hm go
  · rcases hk with hk | hk
    · exact wpAny_loadName_cell I.ok.kind hk hc hcell go
    · rcases hx with k | k
      · have : X.env.scope.names.lookup x = some .free := hk
        rw [k] at this; cases this
      · have : X.env.scope.names.lookup x = some .free := hk
        rw [k] at this; cases this

def tAugS (to ti te : TE) (tget : V → V → Hp → VK → Prop) (tip : TIp) (tset : TSet) : TS := fun D σ H => to σ H fun o H1 => ti σ H1 fun i H2 => tget o i H2 fun x H3 => te σ H3 fun y H4 => tip x y H4 fun z H5 => tset o i z H5 fun H6 => D.nx σ H6

def ipI (f : Int → Int → Int) : TIp := fun x y H Q => ∃ i j, x = .int i ∧ y = .int j ∧ Q (.int (f i j)) H
theorem ip_sub : PIp X .Sub (ipI fun i j => i - j) := by
  intro pins s σ H x y v u Q I r1 r2 h
  obtain ⟨i, j, e1, e2, q⟩ := h
  subst e1; subst e2
  obtain ⟨t, rfl⟩ := r1
  obtain ⟨t', rfl⟩ := r2
  exact isub_int ⟨.int _, H, I.tok _, ⟨_, rfl⟩, q⟩
end


section
variable {X : Cx} {pos : Pos}

def tWhile (c : TT) (tb : TS) : TS := fun D σ H => ∃ W : Nat → St → Hp → Prop, (∃ m, W m σ H) ∧ ∀ m σ H, W m σ H →
  c σ H fun b H1 => if b = true then ∃ N : St → Hp → Prop, (∀ σ' H', N σ' H' → ∃ m', m' < m ∧ W m' σ' H') ∧ tb { D with nx := N, ct := N, bk := D.nx } σ H1 else D.nx σ H1
theorem ps_while {c : Expr} {body : List Stmt} {tc : TT} {tb : TS} (hp : PassesOwn (model X.prog X.w) X.A X.env X.xe) (hc : PT X c tc) (hb : PSs X body tb) : PS X (.While c body [] pos) (tWhile tc tb) := by
  intro pins s σ H D I h
  obtain ⟨W, ⟨m0, w0⟩, turn⟩ := h
  refine wpAny_While (codeAny_whileLoop (fun n s' => ∃ σ' H', Inv X pins σ' H' s' ∧ W n σ' H') ?_ m0 ⟨σ, H, I, w0⟩)
  rintro n s1 ⟨σ1, H1, I1, w1⟩
  refine wpAny_passesOwn hp (thn (hc pins s1 σ1 H1 _ I1 (turn n σ1 H1 w1)) fun b s2 ⟨H2, I2, q2⟩ => ?_)
  cases b with
  | true =>
    obtain ⟨N, hN, q2⟩ := q2
    rw [if_pos rfl]
    refine wpAny_passesOwn hp (thn (hb pins s2 σ1 H2 _ I2 q2) fun f s3 q3 => ?_)
    cases f with
    | next =>
      obtain ⟨σ3, H3, I3, n3⟩ := q3
      obtain ⟨m', hm, w3⟩ := hN σ3 H3 n3
      exact ⟨m', hm, σ3, H3, I3, w3⟩
    | cont =>
      obtain ⟨σ3, H3, I3, n3⟩ := q3
      obtain ⟨m', hm, w3⟩ := hN σ3 H3 n3
      exact ⟨m', hm, σ3, H3, I3, w3⟩
    | brk => exact q3
    | ret v => exact q3
  | false =>
    rw [if_neg Bool.false_ne_true]
    exact wpAny_execs_nil ⟨σ1, H2, I2, q2⟩
end



structure It where
  go : Nat → Hp → Prop
  yld : Nat → Hp → V → Hp → Prop
  stop : Nat → Hp → Prop

def FpOk (X : Cx) (pins : List (Addr × Obj)) (H : Hp) (b : Addr) : Prop :=
  H b = none ∧ b ≠ X.env.locals ∧ b ∉ X.fs ∧ (b ∈ X.ex ∨ X.s₀.heap.objs.size ≤ b) ∧ (∀ x c, X.env.cells.lookup x = some c → c ≠ b) ∧ ∀ p ∈ X.pn ++ pins, p.1 ≠ b
theorem Inv.fpOk {X : Cx} {pins : List (Addr × Obj)} {σ : St} {H H' : Hp} {s : Shared} {b : Addr} (I : Inv X pins σ H s) (hb : s.heap.objs.size ≤ b) (hn : H' b = none) : FpOk X pins H' b := by
  refine ⟨hn, Nat.ne_of_gt (Nat.lt_of_lt_of_le I.lt hb), I.nofs hb, .inr (Nat.le_trans I.sz hb), fun x c e z => ?_, fun p hp z => ?_⟩
  · obtain ⟨v, q⟩ := I.cell x c e
    exact absurd (Nat.lt_of_lt_of_le q.lt (by rw [z]; exact hb)) (Nat.lt_irrefl _)
  · exact absurd (Nat.lt_of_lt_of_le (Heap.lt_size (I.pin p hp).1) (by rw [z]; exact hb)) (Nat.lt_irrefl _)
structure Turn (P : Program) (w : World) (K : PySem.W.Frag) (tg : Expr) (J : It) (fp : List Addr) (it : Addr) (tn : Nat → Heap → Prop) : Prop where
  mem : it ∈ fp
  obj : ∀ i h, tn i h → ∀ b ∈ fp, ∃ o, h.get? b = some o ∧ ∀ v, o.data ≠ .cell v
  keep : ∀ i h h', tn i h → (∀ b ∈ fp, ∀ o, h.get? b = some o → h'.get? b = some o) → tn i h'
  item : ∀ (X : Cx), X.prog = P → X.w = w → X.K = K → X.calm = true → ∀ (i : Nat) (pins : List (Addr × Obj)) (s : Shared) (σ : St) (H : Hp) (E : Value → Shared → Prop), Inv X pins σ H s → (∀ b ∈ fp, FpOk X pins H b) → tn i s.heap → J.go i H →
    wpAny (model P w) X.A (pyNext (.ref it)) (fun r s1 => ∃ u, r = some u ∧
      wpAny (model P w) X.A (letOwnedTupleGo tg (.ref it) u) (fun _ s2 => ∃ x H', Inv X pins σ H' s2 ∧ RelV x u ∧ J.yld i H x H' ∧ tn (i + 1) s2.heap ∧ ∀ b ∈ fp, H' b = none) E s1) E s
  done : ∀ (X : Cx), X.prog = P → X.w = w → X.K = K → X.calm = true → ∀ (i : Nat) (pins : List (Addr × Obj)) (s : Shared) (σ : St) (H : Hp) (E : Value → Shared → Prop), Inv X pins σ H s → (∀ b ∈ fp, FpOk X pins H b) → tn i s.heap → J.stop i H →
    wpAny (model P w) X.A (pyNext (.ref it)) (fun r s1 => r = none ∧ Inv X pins σ H s1) E s
  self : ∀ (A : Around) (i : Nat) (s : Shared) (Q : Value → Shared → Prop) (E : Value → Shared → Prop), tn i s.heap → Q (.ref it) s → wpAny (model P w) A (pyIter (.ref it)) Q E s
abbrev TI := St → Hp → (It → Hp → Prop) → Prop

def PIE (X : Cx) (pins : List (Addr × Obj)) (σ : St) (tg : Expr) (R : It → Hp → Prop) (itv : Value) (s2 : Shared) : Prop :=
  ∃ (it : Addr) (fp : List Addr) (tn : Nat → Heap → Prop) (J : It) (H' : Hp), itv = .ref it ∧ Inv X pins σ H' s2 ∧ Turn X.prog X.w X.K tg J fp it tn ∧ tn 0 s2.heap ∧ (∀ b ∈ fp, FpOk X pins H' b) ∧ R J H'
def PI (X : Cx) (tg iter : Expr) (wi : TI) : Prop :=
  ∀ (pins : List (Addr × Obj)) (s : Shared) (σ : St) (H : Hp) (R : It → Hp → Prop), Inv X pins σ H s → wi σ H R →
    wpAny (model X.prog X.w) X.A (eval iter X.env) (fun v s1 => wpAny (model X.prog X.w) X.A (pyIter v) (PIE X pins σ tg R) X.xe s1) X.xe s


theorem go_of {M : Model} {A : Around} {E : Value → Shared → Prop} {s : Shared} {tg : Expr} {it : Addr} {u : Value} {o : Obj} {n : String} {vs : Array Value} {Q : Unit → Shared → Prop} (ho : s.heap.get? it = some o) (hc : o.cls = .type n) (hd : o.data = .fields vs)
    (hn : ["enumerate", "zip", "dict_itemiterator", "dict_reverseitemiterator", "odict_iterator", "itertools.zip_longest", "itertools.pairwise"].contains n = false) (hQ : Q () s) : wpAny M A (letOwnedTupleGo tg (.ref it) u) Q E s := by
  unfold letOwnedTupleGo
  cases tg <;> first
    | exact wpAny_pure hQ
    | (cases u <;> first
        | exact wpAny_pure hQ
        | (refine wpAny_bind (wpAny_load ho ?_)
           rw [hc, hd]
           show wpAny M A (if (["enumerate", "zip", "dict_itemiterator", "dict_reverseitemiterator", "odict_iterator", "itertools.zip_longest", "itertools.pairwise"].contains n && vs[0]? == some (rawInt _)) = true then _ else _) Q E s
           rw [if_neg (by intro h; rw [hn, Bool.false_and] at h; cases h)]
           exact wpAny_pure hQ))


def Itl (K : PySem.W.Frag) (a : Addr) : It :=
  ⟨fun i H => ∃ xs x, SqL K H a xs ∧ xs[i]? = some x, fun i H x H' => H' = H ∧ ∀ xs, SqL K H a xs → xs[i]? = some x, fun i H => ∃ xs, SqL K H a xs ∧ xs.length ≤ i⟩
def Itt (K : PySem.W.Frag) (a : Addr) : It :=
  ⟨fun i H => ∃ xs x, SqT K H a xs ∧ xs[i]? = some x, fun i H x H' => H' = H ∧ ∀ xs, SqT K H a xs → xs[i]? = some x, fun i H => ∃ xs, SqT K H a xs ∧ xs.length ≤ i⟩

def Itr (lo : Int) (n : Nat) : It := ⟨fun i _ => i < n, fun i H x H' => H' = H ∧ x = .int (lo + i), fun i _ => n ≤ i⟩
theorem turn_list {P : Program} {w : World} {K : PySem.W.Frag} {tg : Expr} (a it : Addr) : Turn P w K tg (Itl K a) [it] it (fun i h => h.IsListIter it a i) where
  mem := by simp
  obj := fun i h st b hb => by
    have e : b = it := by simpa using hb
    subst e
    obtain ⟨o, e, c, d⟩ := st
    exact ⟨o, e, fun v z => by rw [d] at z; cases z⟩
  keep := fun i h h' st k => st.at fun o e => k it (by simp) o e
  item := by
    intro X hP hw hK hc i pins s σ H E I hf st hg
    subst hP hw hK
    obtain ⟨xs, x, hq, hx⟩ := hg
    obtain ⟨its, rv, p, hz⟩ := I.list hq
    obtain ⟨u, hu, ru⟩ := rv.get hx
    obtain ⟨f0, f1, f2, f3, f4, f5⟩ := hf it (by simp)
    refine wpAny_pyNext_list_item st p.isList (x := u) (by simpa using hu) fun h' st' sb => ?_
    have I1 : Inv X pins σ H { s with heap := h' } := I.turned (t' := s.toks) (fun b o hb e => (sb.2 b hb).trans e) f0 f1 f3 f4 f5
    obtain ⟨o, e, c, d⟩ := id st'
    exact ⟨u, rfl, go_of (s := { s with heap := h' }) e c d (by decide) ⟨x, H, I1, ru, ⟨rfl, fun ys hy => by rw [I.list_inj hy hq]; exact hx⟩, st', fun b hb => (hf b hb).1⟩⟩
  done := by
    intro X hP hw hK hc i pins s σ H E I hf st hg
    subst hP hw hK
    obtain ⟨xs, hq, hx⟩ := hg
    obtain ⟨its, rv, p, hz⟩ := I.list hq
    obtain ⟨f0, f1, f2, f3, f4, f5⟩ := hf it (by simp)
    have hl := rv.length
    exact wpAny_pyNext_list_end (I.ok.hd hc) st p.isList (by simp; omega) fun h' eb => ⟨rfl, I.turned (t' := s.toks) (fun b o hb e => eb b o hb e) f0 f1 f3 f4 f5⟩
  self := fun _ _ _ _ _ st h => wpAny_pyIter_listiter st h
theorem turn_tuple {P : Program} {w : World} {K : PySem.W.Frag} {tg : Expr} (a it : Addr) : Turn P w K tg (Itt K a) [it] it (fun i h => h.IsTupleIter it a i) where
  mem := by simp
  obj := fun i h st b hb => by
    have e : b = it := by simpa using hb
    subst e
    obtain ⟨o, e, c, d⟩ := st
    exact ⟨o, e, fun v z => by rw [d] at z; cases z⟩
  keep := fun i h h' st k => st.at fun o e => k it (by simp) o e
  item := by
    intro X hP hw hK hc i pins s σ H E I hf st hg
    subst hP hw hK
    obtain ⟨xs, x, hq, hx⟩ := hg
    obtain ⟨its, rv, p, hz⟩ := I.tuple hq
    obtain ⟨u, hu, ru⟩ := rv.get hx
    obtain ⟨f0, f1, f2, f3, f4, f5⟩ := hf it (by simp)
    refine wpAny_pyNext_tuple_item st (show s.heap.IsTuple a its.toArray from p) (x := u) (by simpa using hu) fun h' st' sb => ?_
    have I1 : Inv X pins σ H { s with heap := h' } := I.turned (t' := s.toks) (fun b o hb e => (sb.2 b hb).trans e) f0 f1 f3 f4 f5
    obtain ⟨o, e, c, d⟩ := id st'
    exact ⟨u, rfl, go_of (s := { s with heap := h' }) e c d (by decide) ⟨x, H, I1, ru, ⟨rfl, fun ys hy => by rw [I.tuple_inj hy hq]; exact hx⟩, st', fun b hb => (hf b hb).1⟩⟩
  done := by
    intro X hP hw hK hc i pins s σ H E I hf st hg
    subst hP hw hK
    obtain ⟨xs, hq, hx⟩ := hg
    obtain ⟨its, rv, p, hz⟩ := I.tuple hq
    obtain ⟨f0, f1, f2, f3, f4, f5⟩ := hf it (by simp)
    have hl := rv.length
    exact wpAny_pyNext_tuple_end (I.ok.hd hc) st (show s.heap.IsTuple a its.toArray from p) (by simp; omega) fun h' eb => ⟨rfl, I.turned (t' := s.toks) (fun b o hb e => eb b o hb e) f0 f1 f3 f4 f5⟩
  self := fun _ _ _ _ _ st h => wpAny_pyIter_tupleiter st h
theorem turn_range {P : Program} {w : World} {K : PySem.W.Frag} {tg : Expr} (it : Addr) (lo : Int) (n : Nat) : Turn P w K tg (Itr lo n) [it] it (fun i h => IsRangeIter h it (lo + (i : Nat) * 1) ((n : Int) - (i : Nat)) 1) where
  mem := by simp
  obj := fun i h st b hb => by
    have e : b = it := by simpa using hb
    subst e
    exact ⟨_, st, fun v z => by
      have z' : Data.fields _ = Data.cell v := z
      cases z'⟩
  keep := fun i h h' st k => k it (by simp) _ st
  item := by
    intro X hP hw hK hc i pins s σ H E I hf st hg
    subst hP hw hK
    obtain ⟨f0, f1, f2, f3, f4, f5⟩ := hf it (by simp)
    have W := Walks.range (prog := X.prog) (w := X.w) (I.ok.hd hc) it lo 1 n
    refine W.item i s _ _ hg st fun v h' tk hv st' kk => ?_
    obtain ⟨t, rfl⟩ := hv
    have I1 : Inv X pins σ H { s with heap := h', toks := tk } := I.turned (fun b o hb e => kk b o (by simpa using hb) e) f0 f1 f3 f4 f5
    refine ⟨_, rfl, go_of (s := { s with heap := h', toks := tk }) (n := "range_iterator") st' rfl rfl (by decide) ⟨.int (lo + i), H, I1, ⟨t, ?_⟩, ⟨rfl, rfl⟩, st', fun b hb => (hf b hb).1⟩⟩
    rw [Int.mul_one]
  done := by
    intro X hP hw hK hc i pins s σ H E I hf st hg
    subst hP hw hK
    obtain ⟨f0, f1, f2, f3, f4, f5⟩ := hf it (by simp)
    exact wpAny_pyNext_range_end (I.ok.hd hc) st (by have : n ≤ i := hg; omega) fun h' eb => ⟨rfl, I.turned (t' := s.toks) (fun b o hb e => eb b o hb e) f0 f1 f3 f4 f5⟩
  self := fun _ _ _ _ _ st h => wpAny_pyIter_rangeiter st h
end L2

namespace L2
open PySem PySem.Spec PyProof.Rows
section
variable {X : Cx} {tg : Expr}
def iList (K : PySem.W.Frag) (tl : TE) : TI := fun σ H R => tl σ H fun x H1 => ∃ a, x = .ref a ∧ (∃ xs, SqL K H1 a xs) ∧ R (Itl K a) H1
def iTup (K : PySem.W.Frag) (tl : TE) : TI := fun σ H R => tl σ H fun x H1 => ∃ a, x = .ref a ∧ (∃ xs, SqT K H1 a xs) ∧ R (Itt K a) H1
theorem pi_list {l : Expr} {tl : TE} (hl : PE X l tl) : PI X tg l (iList X.K tl) := by
  intro pins s σ H R I h
  refine thn (hl pins s σ H _ I h) fun v s1 ⟨x, H1, I1, r1, q1⟩ => ?_
  obtain ⟨a, e, ⟨xs, hq⟩, q⟩ := q1
  subst e
  cases r1
  obtain ⟨its, rv, p, hz⟩ := I1.list hq
  refine wpAny_pyIter_list p.isList ?_
  refine ⟨s1.heap.objs.size, [s1.heap.objs.size], _, _, H1, rfl, I1.kept (t' := s1.toks) fun b o e => Heap.get?_push_of_some _ e, turn_list a _, ⟨_, Heap.get?_push_size _ rfl, rfl, rfl⟩, fun b hb => ?_, q⟩
  have e : b = s1.heap.objs.size := by simpa using hb
  subst e
  exact I1.fpOk (Nat.le_refl _) (I1.hok.fresh (Nat.le_refl _))
theorem pi_tup {l : Expr} {tl : TE} (hl : PE X l tl) : PI X tg l (iTup X.K tl) := by
  intro pins s σ H R I h
  refine thn (hl pins s σ H _ I h) fun v s1 ⟨x, H1, I1, r1, q1⟩ => ?_
  obtain ⟨a, e, ⟨xs, hq⟩, q⟩ := q1
  subst e
  cases r1
  obtain ⟨its, rv, p, hz⟩ := I1.tuple hq
  refine wpAny_pyIter_tuple (show s1.heap.IsTuple a its.toArray from p) ?_
  refine ⟨s1.heap.objs.size, [s1.heap.objs.size], _, _, H1, rfl, I1.kept (t' := s1.toks) fun b o e => Heap.get?_push_of_some _ e, turn_tuple a _, ⟨_, Heap.get?_push_size _ rfl, rfl, rfl⟩, fun b hb => ?_, q⟩
  have e : b = s1.heap.objs.size := by simpa using hb
  subst e
  exact I1.fpOk (Nat.le_refl _) (I1.hok.fresh (Nat.le_refl _))

theorem range_it {pins : List (Addr × Obj)} {σ : St} {H : Hp} {s : Shared} {R : It → Hp → Prop} {E : Value → Shared → Prop} {lo hi : Int} {t u v : Tok} {tk : Nat} (I : Inv X pins σ H s) (h1 : -(2 ^ 62) ≤ lo) (h2 : lo < 2 ^ 62) (h3 : -(2 ^ 62) ≤ hi) (h4 : hi < 2 ^ 62)
    (q : R (Itr lo (hi - lo).toNat) H) : wpAny (model X.prog X.w) X.A (pyIter (.ref s.heap.objs.size)) (PIE X pins σ tg R) E { s with heap := s.heap.push { cls := .type "range", data := .fields #[.int lo t, .int hi u, .int 1 v] }, toks := tk } := by
  refine wpAny_pyIter_range (IsRange.new ..) (small_one h1 h2 h3 h4) ?_
  have I1 : Inv X pins σ H { s with heap := s.heap.push { cls := .type "range", data := .fields #[.int lo t, .int hi u, .int 1 v] }, toks := tk } := I.kept fun b o e => Heap.get?_push_of_some _ e
  refine ⟨(s.heap.push { cls := .type "range", data := .fields #[.int lo t, .int hi u, .int 1 v] }).objs.size, [(s.heap.push { cls := .type "range", data := .fields #[.int lo t, .int hi u, .int 1 v] }).objs.size], _, _, H, rfl,
    I1.kept (t' := tk) fun b o e => Heap.get?_push_of_some _ e, turn_range _ lo (hi - lo).toNat, ?_, fun b hb => ?_, q⟩
  · have e1 : lo + ((0 : Nat) : Int) * 1 = lo := by simp
    have e2 : (((hi - lo).toNat : Nat) : Int) - ((0 : Nat) : Int) = Builtin.Range.rangeSize lo hi 1 := by rw [rangeSize_one]; split <;> omega
    show IsRangeIter _ _ (lo + ((0 : Nat) : Int) * 1) ((((hi - lo).toNat : Nat) : Int) - ((0 : Nat) : Int)) 1
    rw [e1, e2]
    exact Heap.get?_push_size _ rfl
  · have e : b = (s.heap.push { cls := .type "range", data := .fields #[.int lo t, .int hi u, .int 1 v] }).objs.size := by simpa using hb
    subst e
    exact I1.fpOk (Nat.le_refl _) (I1.hok.fresh (Nat.le_refl _))
def iRng1 (ta : TA) : TI := fun σ H R => ta σ H fun vs H1 => ∃ j : Int, vs = [.int j] ∧ -(2 ^ 62) ≤ j ∧ j < 2 ^ 62 ∧ R (Itr 0 j.toNat) H1
def iRng2 (ta : TA) : TI := fun σ H R => ta σ H fun vs H1 => ∃ i j : Int, vs = [.int i, .int j] ∧ (-(2 ^ 62) ≤ i ∧ i < 2 ^ 62 ∧ -(2 ^ 62) ≤ j ∧ j < 2 ^ 62) ∧ R (Itr i (j - i).toNat) H1
theorem pi_range1 {a : Expr} {ta : TA} {p pos : Pos} (hg : Gl X "range") (hm : X.mg "range" = none) (ha : PA X [a] ta) (hs : starEach [a] X.env = [(false, eval a X.env)] := by rfl) : PI X tg (.Call (.Name "range" p) [a] [] pos) (iRng1 ta) := by
  intro pins s σ H R I h
  refine Call_ (ld_blt I hg hm boot_range (PyProof.Rows.callWith_type1 (thn (ha pos pins s σ H _ I h) fun us s1 ⟨vs, H1, I1, r1, q1⟩ => ?_) hs rfl))
  obtain ⟨j, e, q1, q2, q⟩ := q1
  subst e
  cases r1 with
  | cons r rr =>
    cases rr
    obtain ⟨t, rfl⟩ := r
    exact call_range_1 (range_it I1 (by omega) (by omega) q1 q2 (by simpa using q))
def tFor (wi : TI) (g : TG) (tb : TS) : TS := fun D σ H => wi σ H fun J H1 => ∃ W : Nat → Nat → St → Hp → Prop, (∃ m, W 0 m σ H1) ∧ ∀ i m σ H, W i m σ H →
  (J.stop i H ∧ D.nx σ H) ∨ (J.go i H ∧ ∃ N : St → Hp → Prop, (∀ σ' H', N σ' H' → ∃ m', m' < m ∧ W (i + 1) m' σ' H') ∧ ∀ x H', J.yld i H x H' → g x σ H' fun σ2 H2 => tb { D with nx := N, ct := N, bk := D.nx } σ2 H2)

def pinsAt (fp : List Addr) (h : Heap) : List (Addr × Obj) := fp.filterMap fun b => (h.get? b).map fun o => (b, o)
theorem mem_pinsAt {fp : List Addr} {h : Heap} {b : Addr} {o : Obj} (hb : b ∈ fp) (e : h.get? b = some o) : (b, o) ∈ pinsAt fp h := List.mem_filterMap.mpr ⟨b, hb, by rw [e]; rfl⟩
theorem of_pinsAt {fp : List Addr} {h : Heap} {p : Addr × Obj} (hp : p ∈ pinsAt fp h) : p.1 ∈ fp ∧ h.get? p.1 = some p.2 := by
  obtain ⟨b, hb, e⟩ := List.mem_filterMap.mp hp
  cases q : h.get? b with
  | none => rw [q] at e; cases e
  | some o =>
    rw [q] at e
    have e' : (b, o) = p := Option.some.inj e
    subst e'
    exact ⟨hb, q⟩
theorem Inv.pinned {pins : List (Addr × Obj)} {σ : St} {H : Hp} {s : Shared} {fp : List Addr} (I : Inv X pins σ H s) (hf : ∀ b ∈ fp, FpOk X pins H b) (ho : ∀ b ∈ fp, ∃ o, s.heap.get? b = some o ∧ ∀ v, o.data ≠ .cell v) : Inv X (pins ++ pinsAt fp s.heap) σ H s :=
  I.pins_of fun p hp => (List.mem_append.mp hp).elim (fun z => I.pin p (List.mem_append_right _ z)) fun z => by
    obtain ⟨hb, e⟩ := of_pinsAt z
    obtain ⟨f0, f1, f2, _⟩ := hf p.1 hb
    obtain ⟨o, e', d⟩ := ho p.1 hb
    rw [e] at e'; cases e'
    exact ⟨e, f0, f1, f2, d⟩
theorem Inv.unpinned {pins pl : List (Addr × Obj)} {σ : St} {H : Hp} {s : Shared} (I : Inv X (pins ++ pl) σ H s) : Inv X pins σ H s := I.pins_of fun p hp => I.pin p (List.mem_append_right _ (List.mem_append_left _ hp))
theorem ps_for {iter : Expr} {body : List Stmt} {wi : TI} {g : TG} {tb : TS} {pos : Pos} (hp : PassesOwn (model X.prog X.w) X.A X.env X.xe) (hc : X.calm = true) (hi : PI X tg iter wi) (hg : PG X tg g) (hb : PSs X body tb)
    (hs : ∀ x, foldedSetIterable iter X.env x = pure x := by intro _; rfl) : PS X (.For tg iter body [] pos) (tFor wi g tb) := by
  intro pins s σ H D I h
  refine wpAny_For (thn (hi pins s σ H _ I h) fun v s1 h1 => thn h1 fun itv s2 h2 => ?_) hs
  obtain ⟨it, fp, tn, J, H2, e, I2, T, st2, f2, W, ⟨m0, w0⟩, turn⟩ := h2
  subst e
  -- what stays true of the iterator's objects through the loop
  have stat : ∀ {H' : Hp}, (∀ b ∈ fp, H' b = none) → ∀ b ∈ fp, FpOk X pins H' b := fun hn b hb => ⟨hn b hb, (f2 b hb).2⟩
  refine codeAny_forLoop_any (fun n s' => ∃ i σ' H', Inv X pins σ' H' s' ∧ tn i s'.heap ∧ (∀ b ∈ fp, H' b = none) ∧ W i n σ' H') ?_ m0 ⟨0, σ, H2, I2, st2, fun b hb => (f2 b hb).1, w0⟩
  rintro n s3 ⟨i, σ3, H3, I3, st3, fr3, w3⟩
  rcases turn i n σ3 H3 w3 with ⟨stop, qn⟩ | ⟨go, N, hN, step⟩
  · refine wpAny_passesOwn hp (thn (T.done X rfl rfl rfl hc i pins s3 σ3 H3 X.xe I3 (stat fr3) st3 stop) fun r s4 ⟨hr, I4⟩ => ?_)
    subst hr
    exact wpAny_execs_nil ⟨σ3, H3, I4, qn⟩
  · refine wpAny_passesOwn hp (thn (T.item X rfl rfl rfl hc i pins s3 σ3 H3 X.xe I3 (stat fr3) st3 go) fun r s4 ⟨u, hr, h4⟩ => ?_)
    subst hr
    refine wpAny_passesOwn hp (thn h4 fun _ s5 ⟨x, H5, I5, r5, y5, st5, fr5⟩ => ?_)
    have I5' := I5.pinned (stat fr5) (T.obj _ _ st5)
    refine wpAny_passesOwn hp (thn (hg _ s5 σ3 H5 x u _ I5' r5 (step x H5 y5)) fun _ s6 ⟨σ6, H6, I6, q6⟩ => ?_)
    refine wpAny_passesOwn hp (thn (hb _ s6 σ6 H6 _ I6 q6) fun f s7 q7 => ?_)
    have again : ∀ {σ7 : St} {H7 : Hp}, Inv X (pins ++ pinsAt fp s5.heap) σ7 H7 s7 → N σ7 H7 → ∃ m, m < n ∧ ∃ i σ' H', Inv X pins σ' H' s7 ∧ tn i s7.heap ∧ (∀ b ∈ fp, H' b = none) ∧ W i m σ' H' := fun {σ7 H7} I7 n7 => by
      obtain ⟨m', hm, w7⟩ := hN σ7 H7 n7
      refine ⟨m', hm, i + 1, σ7, H7, I7.unpinned, T.keep _ _ _ st5 fun b hb o e => (I7.pin (b, o) (List.mem_append_right _ (List.mem_append_right _ (mem_pinsAt hb e)))).1, fun b hb => ?_, w7⟩
      obtain ⟨o, e, d⟩ := T.obj _ _ st5 b hb
      exact (I7.pin (b, o) (List.mem_append_right _ (List.mem_append_right _ (mem_pinsAt hb e)))).2.1
    cases f with
    | next => obtain ⟨σ7, H7, I7, n7⟩ := q7; exact again I7 n7
    | cont => obtain ⟨σ7, H7, I7, n7⟩ := q7; exact again I7 n7
    | brk => obtain ⟨σ7, H7, I7, q7⟩ := q7; exact ⟨σ7, H7, I7.unpinned, q7⟩
    | ret v => obtain ⟨x7, σ7, H7, I7, r7, q7⟩ := q7; exact ⟨x7, σ7, H7, I7.unpinned, r7, q7⟩
end



theorem for_list {K : PySem.W.Frag} {a : Addr} {xs : List V} {g : TG} {tb : TS} {D : Ends} {σ : St} {H : Hp} (Pv : Nat → St → Hp → Prop) (h0 : Pv 0 σ H) (hl : ∀ i σ H, i ≤ xs.length → Pv i σ H → SqL K H a xs)
    (hs : ∀ i x σ H, xs[i]? = some x → Pv i σ H → g x σ H fun σ2 H2 => tb { D with nx := Pv (i + 1), ct := Pv (i + 1), bk := D.nx } σ2 H2) (hd : ∀ σ H, Pv xs.length σ H → D.nx σ H) :
    ∃ W : Nat → Nat → St → Hp → Prop, (∃ m, W 0 m σ H) ∧ ∀ i m σ H, W i m σ H →
      ((Itl K a).stop i H ∧ D.nx σ H) ∨ ((Itl K a).go i H ∧ ∃ N : St → Hp → Prop, (∀ σ' H', N σ' H' → ∃ m', m' < m ∧ W (i + 1) m' σ' H') ∧ ∀ x H', (Itl K a).yld i H x H' → g x σ H' fun σ2 H2 => tb { D with nx := N, ct := N, bk := D.nx } σ2 H2) := by
  refine ⟨fun i m σ H => m = xs.length - i ∧ i ≤ xs.length ∧ Pv i σ H, ⟨xs.length, by simp, Nat.zero_le _, h0⟩, ?_⟩
  rintro i m σ H ⟨rfl, hi, p⟩
  have q := hl i σ H hi p
  by_cases hlt : i < xs.length
  · refine .inr ⟨⟨xs, xs[i], q, by simp [hlt]⟩, Pv (i + 1), fun σ' H' p' => ⟨xs.length - (i + 1), by omega, rfl, hlt, p'⟩, fun x H' y => ?_⟩
    obtain ⟨e, y⟩ := y
    subst e
    exact hs i x σ _ (y xs q) p
  · have e : i = xs.length := by omega
    subst e
    exact .inl ⟨⟨xs, q, Nat.le_refl _⟩, hd σ H p⟩
theorem for_tup {K : PySem.W.Frag} {a : Addr} {xs : List V} {g : TG} {tb : TS} {D : Ends} {σ : St} {H : Hp} (Pv : Nat → St → Hp → Prop) (h0 : Pv 0 σ H) (hl : ∀ i σ H, i ≤ xs.length → Pv i σ H → SqT K H a xs)
    (hs : ∀ i x σ H, xs[i]? = some x → Pv i σ H → g x σ H fun σ2 H2 => tb { D with nx := Pv (i + 1), ct := Pv (i + 1), bk := D.nx } σ2 H2) (hd : ∀ σ H, Pv xs.length σ H → D.nx σ H) :
    ∃ W : Nat → Nat → St → Hp → Prop, (∃ m, W 0 m σ H) ∧ ∀ i m σ H, W i m σ H →
      ((Itt K a).stop i H ∧ D.nx σ H) ∨ ((Itt K a).go i H ∧ ∃ N : St → Hp → Prop, (∀ σ' H', N σ' H' → ∃ m', m' < m ∧ W (i + 1) m' σ' H') ∧ ∀ x H', (Itt K a).yld i H x H' → g x σ H' fun σ2 H2 => tb { D with nx := N, ct := N, bk := D.nx } σ2 H2) := by
  refine ⟨fun i m σ H => m = xs.length - i ∧ i ≤ xs.length ∧ Pv i σ H, ⟨xs.length, by simp, Nat.zero_le _, h0⟩, ?_⟩
  rintro i m σ H ⟨rfl, hi, p⟩
  have q := hl i σ H hi p
  by_cases hlt : i < xs.length
  · refine .inr ⟨⟨xs, xs[i], q, by simp [hlt]⟩, Pv (i + 1), fun σ' H' p' => ⟨xs.length - (i + 1), by omega, rfl, hlt, p'⟩, fun x H' y => ?_⟩
    obtain ⟨e, y⟩ := y
    subst e
    exact hs i x σ _ (y xs q) p
  · have e : i = xs.length := by omega
    subst e
    exact .inl ⟨⟨xs, q, Nat.le_refl _⟩, hd σ H p⟩
theorem for_range {lo : Int} {n : Nat} {g : TG} {tb : TS} {D : Ends} {σ : St} {H : Hp} (Pv : Nat → St → Hp → Prop) (h0 : Pv 0 σ H)
    (hs : ∀ i σ H, i < n → Pv i σ H → g (.int (lo + i)) σ H fun σ2 H2 => tb { D with nx := Pv (i + 1), ct := Pv (i + 1), bk := D.nx } σ2 H2) (hd : ∀ σ H, Pv n σ H → D.nx σ H) :
    ∃ W : Nat → Nat → St → Hp → Prop, (∃ m, W 0 m σ H) ∧ ∀ i m σ H, W i m σ H →
      ((Itr lo n).stop i H ∧ D.nx σ H) ∨ ((Itr lo n).go i H ∧ ∃ N : St → Hp → Prop, (∀ σ' H', N σ' H' → ∃ m', m' < m ∧ W (i + 1) m' σ' H') ∧ ∀ x H', (Itr lo n).yld i H x H' → g x σ H' fun σ2 H2 => tb { D with nx := N, ct := N, bk := D.nx } σ2 H2) := by
  refine ⟨fun i m σ H => m = n - i ∧ i ≤ n ∧ Pv i σ H, ⟨n, by simp, Nat.zero_le _, h0⟩, ?_⟩
  rintro i m σ H ⟨rfl, hi, p⟩
  by_cases hlt : i < n
  · refine .inr ⟨hlt, Pv (i + 1), fun σ' H' p' => ⟨n - (i + 1), by omega, rfl, hlt, p'⟩, fun x H' y => ?_⟩
    obtain ⟨e, y⟩ := y
    subst e y
    exact hs i σ _ hlt p
  · have e : i = n := by omega
    subst e
    exact .inl ⟨Nat.le_refl _, hd σ H p⟩

end L2

namespace L2
open PySem PySem.Spec PyProof.Rows

abbrev R2 := V → V → Hp → VK → Prop

def OpR (X : Cx) (f : Value → Value → Sem Value) (r : R2) : Prop :=
  ∀ (pins : List (Addr × Obj)) (s : Shared) (σ : St) (H : Hp) (x y : V) (v u : Value) (Q : VK), Inv X pins σ H s → RelV x v → RelV y u → r x y H Q →
    wpAny (model X.prog X.w) X.A (f v u) (EP X pins σ Q) X.xe s

def UnR (X : Cx) (f : Value → Sem Value) (r : V → Hp → VK → Prop) : Prop :=
  ∀ (pins : List (Addr × Obj)) (s : Shared) (σ : St) (H : Hp) (x : V) (v : Value) (Q : VK), Inv X pins σ H s → RelV x v → r x H Q →
    wpAny (model X.prog X.w) X.A (f v) (EP X pins σ Q) X.xe s

def CallR (X : Cx) (f : Value) (r : List V → Hp → VK → Prop) : Prop :=
  ∀ (pins : List (Addr × Obj)) (s : Shared) (σ : St) (H : Hp) (xs : List V) (us : List Value) (Q : VK), Inv X pins σ H s → Vals xs us → r xs H Q →
    wpAny (model X.prog X.w) X.A (call f us) (EP X pins σ Q) X.xe s

def tOp (r : R2) (ta tb : TE) : TE := fun σ H Q => ta σ H fun x H1 => tb σ H1 fun y H2 => r x y H2 Q
def tUn (r : V → Hp → VK → Prop) (ta : TE) : TE := fun σ H Q => ta σ H fun x H1 => r x H1 Q

def rI (C : Int → Int → Prop) (g : Int → Int → V) : R2 := fun x y H Q => ∃ i j, x = .int i ∧ y = .int j ∧ C i j ∧ Q (g i j) H
def rI0 (g : Int → Int → V) : R2 := fun x y H Q => ∃ i j, x = .int i ∧ y = .int j ∧ Q (g i j) H
def rU (g : Int → V) : V → Hp → VK → Prop := fun x H Q => ∃ i, x = .int i ∧ Q (g i) H

section
variable {X : Cx} {a b c : Expr} {ta tb tc : TE} {pos : Pos}

theorem binT (ha : PE X a ta) (hb : PE X b tb) {pins : List (Addr × Obj)} {s : Shared} {σ : St} {H : Hp} {R : V → V → Hp → Prop} (I : Inv X pins σ H s)
    (h : ta σ H fun x H1 => tb σ H1 fun y H2 => R x y H2) {Q : Value → Shared → Prop} {f : Value → Value → Sem Value}
    (hf : ∀ v u s2 x y H2, Inv X pins σ H2 s2 → RelV x v → RelV y u → R x y H2 → wpAny (model X.prog X.w) X.A (f v u) Q X.xe s2) :
    wpAny (model X.prog X.w) X.A (eval a X.env) (fun v s₁ => wpAny (model X.prog X.w) X.A (eval b X.env) (fun u s₂ => wpAny (model X.prog X.w) X.A (f v u) Q X.xe s₂) X.xe s₁) X.xe s := by
  refine thn (ha pins s σ H _ I h) fun v s1 ⟨x, H1, I1, r1, q1⟩ => ?_
  refine thn (hb pins s1 σ H1 _ I1 q1) fun u s2 ⟨y, H2, I2, r2, q2⟩ => ?_
  exact hf v u s2 x y H2 I2 r1 r2 q2

theorem pe_op {op : Operator} {r : R2} (ho : OpR X (binaryOp op) r) (ha : PE X a ta) (hb : PE X b tb) : PE X (.BinOp a op b pos) (tOp r ta tb) := by
  intro pins s σ H Q I h
  exact wpAny_BinOp (binT ha hb I h fun v u s2 x y H2 I2 rx ry q => ho pins s2 σ H2 x y v u Q I2 rx ry q)
theorem pe_un {op : UnaryOp} {r : V → Hp → VK → Prop} (ho : UnR X (unaryOp op) r) (ha : PE X a ta) : PE X (.UnaryOp op a pos) (tUn r ta) := by
  intro pins s σ H Q I h
  exact UnaryOp_ (thn (ha pins s σ H _ I h) fun v s1 ⟨x, H1, I1, r1, q1⟩ => ho pins s1 σ H1 x v Q I1 r1 q1)

theorem opI {f : Value → Value → Sem Value} {C : Int → Int → Prop} {g : Int → Int → Int}
    (rule : ∀ (i j : Int) (t u : Tok) (s : Shared) (Q : Value → Shared → Prop) (E : Value → Shared → Prop), C i j → Q (.int (g i j) s.toks) { s with toks := s.toks + 1 } → wpAny (model X.prog X.w) X.A (f (.int i t) (.int j u)) Q E s) :
    OpR X f (rI C fun i j => .int (g i j)) := by
  intro pins s σ H x y v u Q I rx ry h
  obtain ⟨i, j, rfl, rfl, hc, q⟩ := h
  obtain ⟨t, rfl⟩ := rx
  obtain ⟨t', rfl⟩ := ry
  exact rule i j t t' s _ _ hc ⟨.int (g i j), H, I.tok _, ⟨_, rfl⟩, q⟩
theorem opI0 {f : Value → Value → Sem Value} {g : Int → Int → Int}
    (rule : ∀ (i j : Int) (t u : Tok) (s : Shared) (Q : Value → Shared → Prop) (E : Value → Shared → Prop), Q (.int (g i j) s.toks) { s with toks := s.toks + 1 } → wpAny (model X.prog X.w) X.A (f (.int i t) (.int j u)) Q E s) :
    OpR X f (rI0 fun i j => .int (g i j)) := by
  intro pins s σ H x y v u Q I rx ry h
  obtain ⟨i, j, rfl, rfl, q⟩ := h
  obtain ⟨t, rfl⟩ := rx
  obtain ⟨t', rfl⟩ := ry
  exact rule i j t t' s _ _ ⟨.int (g i j), H, I.tok _, ⟨_, rfl⟩, q⟩
theorem opB0 {f : Value → Value → Sem Value} {g : Int → Int → Bool}
    (rule : ∀ (i j : Int) (t u : Tok) (s : Shared) (Q : Value → Shared → Prop) (E : Value → Shared → Prop), Q (.bool (g i j)) s → wpAny (model X.prog X.w) X.A (f (.int i t) (.int j u)) Q E s) :
    OpR X f (rI0 fun i j => .bl (g i j)) := by
  intro pins s σ H x y v u Q I rx ry h
  obtain ⟨i, j, rfl, rfl, q⟩ := h
  obtain ⟨t, rfl⟩ := rx
  obtain ⟨t', rfl⟩ := ry
  exact rule i j t t' s _ _ ⟨.bl (g i j), H, I, rfl, q⟩

def CDiv (i j : Int) : Prop := 0 < j ∧ j < 1073741824
def CPow (i j : Int) : Prop := 0 ≤ j ∧ j ≤ 1000000 ∧ i.natAbs < 2 ^ 64
def CMul (i j : Int) : Prop := (-(2 ^ 64) < i ∧ i < 2 ^ 64) ∨ (-(2 ^ 64) < j ∧ j < 2 ^ 64)
theorem CMul.ok {i j : Int} (h : CMul i j) : IntMulOk i j := by
  rcases h with ⟨h1, h2⟩ | ⟨h1, h2⟩
  · exact .of_left (intBits_le_64 h1 h2)
  · exact .of_right (intBits_le_64 h1 h2)
theorem op_add : OpR X (binaryOp .Add) (rI0 fun i j => .int (i + j)) := opI0 fun _ _ _ _ _ _ _ q => add_int q
theorem op_sub : OpR X (binaryOp .Sub) (rI0 fun i j => .int (i - j)) := opI0 fun _ _ _ _ _ _ _ q => sub_int q
theorem op_fdiv : OpR X (binaryOp .FloorDiv) (rI CDiv fun i j => .int (i / j)) := opI fun i j _ _ _ _ _ hc q => by
  have h1 : (0 : Int) < j := hc.1
  have h2 : j < 1073741824 := hc.2
  exact floordiv_int (by omega) (by rw [Int.fdiv_eq_ediv_of_nonneg i (by omega)]; exact q) (.inl (PyProof.noPylong_small (by omega)))
theorem op_mod : OpR X (binaryOp .Mod) (rI (fun _ j => 0 < j) fun i j => .int (i % j)) := opI fun i j _ _ _ _ _ hc q => by
  have h1 : (0 : Int) < j := hc
  exact mod_int' (by omega) (by rw [Int.fmod_eq_emod_of_nonneg i (by omega)]; exact q)
theorem op_pow : OpR X (binaryOp .Pow) (rI CPow fun i j => .int (i ^ j.toNat)) := opI fun _ _ _ _ _ _ _ hc q => pow_int_small hc.1 hc.2.1 hc.2.2 q
theorem unI {f : Value → Sem Value} {g : Int → Int}
    (rule : ∀ (i : Int) (t : Tok) (s : Shared) (Q : Value → Shared → Prop) (E : Value → Shared → Prop), Q (.int (g i) s.toks) { s with toks := s.toks + 1 } → wpAny (model X.prog X.w) X.A (f (.int i t)) Q E s) :
    UnR X f (rU fun i => .int (g i)) := by
  intro pins s σ H x v Q I rx h
  obtain ⟨i, rfl, q⟩ := h
  obtain ⟨t, rfl⟩ := rx
  exact rule i t s _ _ ⟨.int (g i), H, I.tok _, ⟨_, rfl⟩, q⟩
theorem un_neg : UnR X (unaryOp .USub) (rU fun i => .int (-i)) := unI fun _ _ _ _ _ q => neg_int q
end



def scal : V → V → Bool
  | .non, .non => true | .non, .int _ => true | .int _, .non => true | .non, .bl _ => true | .bl _, .non => true | .non, .str _ => true | .str _, .non => true
  | .int _, .int _ => true | .bl _, .bl _ => true | .str _, .str _ => true | .byt _, .byt _ => true
  | .int _, .str _ => true | .str _, .int _ => true | .bl _, .str _ => true | .str _, .bl _ => true
  | _, _ => false
def rEq : R2 := fun x y H Q => scal x y = true ∧ Q (.bl (decide (x = y))) H
def rNe : R2 := fun x y H Q => scal x y = true ∧ Q (.bl (!decide (x = y))) H

theorem dec_int {i j : Int} : decide (V.int i = V.int j) = (i == j) := by
  rw [Bool.eq_iff_iff]
  simp
theorem dec_bl {i j : Bool} : decide (V.bl i = V.bl j) = (i == j) := by
  rw [Bool.eq_iff_iff]
  simp
theorem dec_str {i j : Str} : decide (V.str i = V.str j) = (i == j) := by
  rw [Bool.eq_iff_iff]
  simp
theorem dec_byt {i j : Array UInt8} : decide (V.byt i = V.byt j) = (i.toList == j.toList) := by
  rw [Bool.eq_iff_iff]
  cases i
  cases j
  simp

section
variable {X : Cx} {a b c : Expr} {ta tb tc : TE} {pos : Pos}
theorem fin_bl {pins : List (Addr × Obj)} {σ : St} {H : Hp} {s : Shared} {Q : VK} {k k' : Bool} (I : Inv X pins σ H s) (q : Q (.bl k) H) (e : k = k') : EP X pins σ Q (.bool k') s := by
  subst e
  exact ⟨.bl k, H, I, rfl, q⟩
theorem op_eq : OpR X (compareOp .Eq) rEq := by
  intro pins s σ H x y v u Q I rx ry h
  obtain ⟨hs, q⟩ := h
  cases x with
  | non =>
    cases rx
    cases y with
    | non => cases ry; exact PySem.EqNone.eq_none_none (fin_bl I q (by simp))
    | bl j => cases ry; exact PySem.EqNone.eq_none_bool (fin_bl I q (by simp))
    | int j => obtain ⟨t', rfl⟩ := ry; exact PySem.EqNone.eq_none_int (fin_bl I q (by simp))
    | str j => obtain ⟨t', rfl⟩ := ry; exact PySem.EqNone.eq_none_str (fin_bl I q (by simp))
    | _ => exact absurd (show false = true from hs) Bool.false_ne_true
  | bl i =>
    cases rx
    cases y with
    | non => cases ry; exact PySem.EqNone.eq_bool_none (fin_bl I q (by simp))
    | bl j => cases ry; exact eq_bool (fin_bl I q dec_bl)
    | str j => obtain ⟨t', rfl⟩ := ry; exact PySem.EqMixed.eq_bool_str (fin_bl I q (by simp))
    | _ => exact absurd (show false = true from hs) Bool.false_ne_true
  | int i =>
    obtain ⟨t, rfl⟩ := rx
    cases y with
    | non => cases ry; exact PySem.EqNone.eq_int_none (fin_bl I q (by simp))
    | int j => obtain ⟨t', rfl⟩ := ry; exact eq_int (fin_bl I q dec_int)
    | str j => obtain ⟨t', rfl⟩ := ry; exact PySem.EqMixed.eq_int_str (fin_bl I q (by simp))
    | _ => exact absurd (show false = true from hs) Bool.false_ne_true
  | str i =>
    obtain ⟨t, rfl⟩ := rx
    cases y with
    | non => cases ry; exact PySem.EqNone.eq_str_none (fin_bl I q (by simp))
    | bl j => cases ry; exact PySem.EqMixed.eq_str_bool (fin_bl I q (by simp))
    | int j => obtain ⟨t', rfl⟩ := ry; exact PySem.EqMixed.eq_str_int (fin_bl I q (by simp))
    | str j => obtain ⟨t', rfl⟩ := ry; exact eq_str (fin_bl I q dec_str)
    | _ => exact absurd (show false = true from hs) Bool.false_ne_true
  | byt i =>
    obtain ⟨t, rfl⟩ := rx
    cases y with
    | byt j => obtain ⟨t', rfl⟩ := ry; exact PySem.W.eq_bytes (fin_bl I q dec_byt)
    | _ => exact absurd (show false = true from hs) Bool.false_ne_true
  | _ => cases y <;> exact absurd (show false = true from hs) Bool.false_ne_true
theorem op_ne : OpR X (compareOp .NotEq) rNe := by
  intro pins s σ H x y v u Q I rx ry h
  obtain ⟨hs, q⟩ := h
  cases x with
  | non =>
    cases rx
    cases y with
    | non => cases ry; exact PySem.EqNone.ne_none_none (fin_bl I q (by simp))
    | bl j => cases ry; exact PySem.EqNone.ne_none_bool (fin_bl I q (by simp))
    | int j => obtain ⟨t', rfl⟩ := ry; exact PySem.EqNone.ne_none_int (fin_bl I q (by simp))
    | str j => obtain ⟨t', rfl⟩ := ry; exact PySem.EqNone.ne_none_str (fin_bl I q (by simp))
    | _ => exact absurd (show false = true from hs) Bool.false_ne_true
  | bl i =>
    cases rx
    cases y with
    | non => cases ry; exact PySem.EqNone.ne_bool_none (fin_bl I q (by simp))
    | bl j => cases ry; exact ne_bool (fin_bl I q (congrArg not dec_bl))
    | str j => obtain ⟨t', rfl⟩ := ry; exact PySem.EqMixed.ne_bool_str (fin_bl I q (by simp))
    | _ => exact absurd (show false = true from hs) Bool.false_ne_true
  | int i =>
    obtain ⟨t, rfl⟩ := rx
    cases y with
    | non => cases ry; exact PySem.EqNone.ne_int_none (fin_bl I q (by simp))
    | int j => obtain ⟨t', rfl⟩ := ry; exact ne_int (fin_bl I q (congrArg not dec_int))
    | str j => obtain ⟨t', rfl⟩ := ry; exact PySem.EqMixed.ne_int_str (fin_bl I q (by simp))
    | _ => exact absurd (show false = true from hs) Bool.false_ne_true
  | str i =>
    obtain ⟨t, rfl⟩ := rx
    cases y with
    | non => cases ry; exact PySem.EqNone.ne_str_none (fin_bl I q (by simp))
    | bl j => cases ry; exact PySem.EqMixed.ne_str_bool (fin_bl I q (by simp))
    | int j => obtain ⟨t', rfl⟩ := ry; exact PySem.EqMixed.ne_str_int (fin_bl I q (by simp))
    | str j => obtain ⟨t', rfl⟩ := ry; exact ne_str (fin_bl I q (congrArg not dec_str))
    | _ => exact absurd (show false = true from hs) Bool.false_ne_true
  | byt i =>
    obtain ⟨t, rfl⟩ := rx
    cases y with
    | byt j => obtain ⟨t', rfl⟩ := ry; exact PySem.W.ne_bytes (fin_bl I q (congrArg not dec_byt))
    | _ => exact absurd (show false = true from hs) Bool.false_ne_true
  | _ => cases y <;> exact absurd (show false = true from hs) Bool.false_ne_true

theorem op_lt : OpR X (compareOp .Lt) (rI0 fun i j => .bl (decide (i < j))) := opB0 fun _ _ _ _ _ _ _ q => lt_int q
theorem op_le : OpR X (compareOp .LtE) (rI0 fun i j => .bl (decide (i ≤ j))) := opB0 fun _ _ _ _ _ _ _ q => le_int q
theorem op_gt : OpR X (compareOp .Gt) (rI0 fun i j => .bl (decide (j < i))) := opB0 fun _ _ _ _ _ _ _ q => gt_int q
theorem op_ge : OpR X (compareOp .GtE) (rI0 fun i j => .bl (decide (j ≤ i))) := opB0 fun _ _ _ _ _ _ _ q => ge_int q
theorem op_isN : OpR X (compareOp .Is) (fun x y H Q => y = .non ∧ Q (.bl (decide (x = .non))) H) := by
  intro pins s σ H x y v u Q I rx ry h
  obtain ⟨rfl, q⟩ := h
  cases ry
  refine is_none_gen (fin_bl I q ?_)
  cases x <;> first
    | (cases rx; rfl)
    | (obtain ⟨t, rfl⟩ := rx; rfl)
theorem OpR.or {f : Value → Value → Sem Value} {r r' : R2} (h : OpR X f r) (h' : OpR X f r') : OpR X f (fun x y H Q => r x y H Q ∨ r' x y H Q) := by
  intro pins s σ H x y v u Q I rx ry q
  rcases q with q | q
  · exact h pins s σ H x y v u Q I rx ry q
  · exact h' pins s σ H x y v u Q I rx ry q

theorem nomark (b : Expr) {op : CmpOp} (h : op ≠ .In := by decide) (h2 : op ≠ .NotIn := by decide) : behindInMarks op b = false := by
  have e1 : (op == CmpOp.In) = false := by cases op <;> first | rfl | exact absurd rfl h
  have e2 : (op == CmpOp.NotIn) = false := by cases op <;> first | rfl | exact absurd rfl h2
  cases b <;> simp [behindInMarks, e1, e2]

theorem pe_cmpR {op : CmpOp} {r : R2} (ho : OpR X (compareOp op) r) (ha : PE X a ta) (hb : PE X b tb) (hm : behindInMarks op b = false) : PE X (.Compare a [op] [b] pos) (tOp r ta tb) := by
  intro pins s σ H Q I h
  exact wpAny_Compare1 (binT ha hb I h fun v u s2 x y H2 I2 rx ry q => ho pins s2 σ H2 x y v u Q I2 rx ry q) hm

def tTest (t : TE) : TT := fun σ H Q => t σ H fun x H' => ∃ k, x = .bl k ∧ Q k H'
theorem pt_cmpR {op : CmpOp} {r : R2} (ho : OpR X (compareOp op) r) (ha : PE X a ta) (hb : PE X b tb) (hm : behindInMarks op b = false) : PT X (.Compare a [op] [b] pos) (tTest (tOp r ta tb)) := by
  intro pins s σ H Q I h
  refine wpAny_isTrue_Compare1 (thn (ha pins s σ H _ I h) fun v s1 ⟨x, H1, I1, r1, q1⟩ => thn (hb pins s1 σ H1 _ I1 q1) fun u s2 ⟨y, H2, I2, r2, q2⟩ =>
    thn (ho pins s2 σ H2 x y v u _ I2 r1 r2 q2) fun c s3 ⟨z, H3, I3, r3, k, e, q3⟩ => ?_) hm
  subst e
  cases r3
  exact wpAny_truthy_bool ⟨H3, I3, q3⟩

def tChain (r r' : R2) (ta tb tc : TE) : TE := fun σ H Q => ta σ H fun x H1 => tb σ H1 fun y H2 => r x y H2 fun z H3 => ∃ k, z = .bl k ∧
  (if k = true then tc σ H3 fun w' H4 => r' y w' H4 Q else Q (.bl false) H3)
theorem pt_chain {op op' : CmpOp} {r r' : R2} (ho : OpR X (compareOp op) r) (ho' : OpR X (compareOp op') r') (ha : PE X a ta) (hb : PE X b tb) (hc : PE X c tc)
    (hm : lastMarks [op, op'] [b, c] = false := by with_unfolding_all rfl) : PT X (.Compare a [op, op'] [b, c] pos) (tTest (tChain r r' ta tb tc)) := by
  intro pins s σ H Q I h
  refine isTrue_chain (thn (ha pins s σ H _ I h) fun v s1 ⟨x, H1, I1, r1, q1⟩ => test_link (thn (hb pins s1 σ H1 _ I1 q1) fun u s2 ⟨y, H2, I2, r2, q2⟩ =>
    thn (ho pins s2 σ H2 x y v u _ I2 r1 r2 q2) fun d s3 ⟨z, H3, I3, r3, k, e, q3⟩ => ?_)) hm
  subst e
  cases r3
  refine wpAny_truthy_bool ?_
  cases k with
  | false =>
    obtain ⟨k', e', q'⟩ := q3
    cases e'
    exact ite_ff ⟨H3, I3, q'⟩
  | true =>
    refine ite_tt (test_last (thn (hc pins s3 σ H3 _ I3 q3) fun w' s4 ⟨z', H4, I4, r4, q4⟩ => thn (ho' pins s4 σ H4 y z' u w' _ I4 r2 r4 q4) fun d' s5 ⟨z2, H5, I5, r5, k2, e2, q5⟩ => ?_))
    subst e2
    cases r5
    exact wpAny_truthy_bool ⟨H5, I5, q5⟩



theorem line63 : (sizeLine : Nat) < 2 ^ 63 := by rw [sizeLine_eq]; decide
theorem vals1 {x : V} {us : List Value} (r : Vals [x] us) : ∃ u, us = [u] ∧ RelV x u := by
  cases r with
  | cons r1 r2 => cases r2; exact ⟨_, rfl, r1⟩
theorem vals2 {x y : V} {us : List Value} (r : Vals [x, y] us) : ∃ u w', us = [u, w'] ∧ RelV x u ∧ RelV y w' := by
  cases r with
  | cons r1 r2 =>
    cases r2 with
    | cons r3 r4 => cases r4; exact ⟨_, _, rfl, r1, r3⟩
theorem call_max2 (hc : X.calm = true) : CallR X (.builtin "max") (fun xs H Q => ∃ i j, xs = [.int i, .int j] ∧ Q (.int (if j > i then j else i)) H) := by
  intro pins s σ H xs us Q I r h
  obtain ⟨i, j, rfl, q⟩ := h
  obtain ⟨u, w', rfl, ⟨t, rfl⟩, ⟨t', rfl⟩⟩ := vals2 r
  refine max_two_ints (I.ok.hd hc) fun h' tk k => ⟨_, H, I.kept k, ?_, q⟩
  by_cases hj : j > i
  · rw [if_pos hj, if_pos hj]; exact ⟨_, rfl⟩
  · rw [if_neg hj, if_neg hj]; exact ⟨_, rfl⟩
theorem call_min2 (hc : X.calm = true) : CallR X (.builtin "min") (fun xs H Q => ∃ i j, xs = [.int i, .int j] ∧ Q (.int (if j < i then j else i)) H) := by
  intro pins s σ H xs us Q I r h
  obtain ⟨i, j, rfl, q⟩ := h
  obtain ⟨u, w', rfl, ⟨t, rfl⟩, ⟨t', rfl⟩⟩ := vals2 r
  refine min_two_ints (I.ok.hd hc) fun h' tk k => ⟨_, H, I.kept k, ?_, q⟩
  by_cases hj : j < i
  · rw [if_pos hj, if_pos hj]; exact ⟨_, rfl⟩
  · rw [if_neg hj, if_neg hj]; exact ⟨_, rfl⟩
theorem call_int1 : CallR X (.type "int") (fun xs H Q => (∃ i, xs = [.int i] ∧ Q (.int i) H) ∨ ∃ k, xs = [.bl k] ∧ Q (.int (if k then 1 else 0)) H) := by
  intro pins s σ H xs us Q I r h
  rcases h with ⟨i, rfl, q⟩ | ⟨k, rfl, q⟩
  · obtain ⟨u, rfl, t, rfl⟩ := vals1 r
    exact call_int_int ⟨.int i, H, I, ⟨_, rfl⟩, q⟩
  · obtain ⟨u, rfl, r1⟩ := vals1 r
    cases r1
    exact call_int_bool ⟨.int (if k then 1 else 0), H, I.tok _, ⟨_, rfl⟩, q⟩
end
end L2

namespace L2
open PySem PySem.Spec PyProof.Rows


structure ObjM (h : Heap) (x dx C : Addr) (mA : Str → Option Value) : Prop where
  obj : h.get? x = some (PySem.W.instObj C dx)
  ns : h.Ns1 dx mA
  ne : dx ≠ x

theorem lookIn_ns {h : Heap} {dx : Addr} {mA : Str → Option Value} (n : h.Ns1 dx mA) : ∃ od, h.get? dx = some od ∧ ∀ name, PySem.W.lookIn name od = some (mA name) := by
  obtain ⟨o, es, ep, ho, hd, hk, _, hm⟩ := n
  refine ⟨o, ho, fun name => ?_⟩
  have e := hm name
  unfold nsFind findBy at e
  rw [← Array.find?_toList] at e
  unfold PySem.W.lookIn
  rw [hd]
  dsimp only
  split
  · rename_i y q
    rw [q] at e
    exact congrArg some e
  · rename_i q
    rw [q] at e
    have a : es.toList.any (·.refKey) = false := by
      rw [List.any_eq_false]
      intro y hy
      obtain ⟨z, t, hkey⟩ := hk y (Array.mem_toList_iff.mp hy)
      simp [DictEntry.refKey, hkey]
    have a' : ¬ es.toList.any (·.refKey) = true := by rw [a]; exact Bool.false_ne_true
    rw [if_neg a']
    exact congrArg some e

theorem ObjM.look {h : Heap} {x dx C : Addr} {mA : Str → Option Value} (I : ObjM h x dx C mA) : ∃ od, PySem.W.InstAt h x (PySem.W.instObj C dx) C (some od) ∧ ∀ name, PySem.W.lookIn name od = some (mA name) :=
  let ⟨od, ho, hl⟩ := lookIn_ns I.ns
  ⟨od, ⟨I.obj, rfl, rfl, ho⟩, hl⟩

section
variable {prog : Program} {w : World} {A : Around} {E : Value → Shared → Prop} {s : Shared} {K : PySem.W.Frag} {x dx C f : Addr} {mA : Str → Option Value} {name : Str} {v : Value}

end


def putF (f : Str) (v : V) : List (Str × V) → List (Str × V)
  | [] => [(f, v)]
  | (g, x) :: r => if g = f then (g, v) :: r else (g, x) :: putF f v r
section
variable {P : Program} {w : World} {H H' : Hp} {h h' : Heap} {a C dx : Addr} {fs fs' : List (Str × V)}
theorem ins_get (hok : HOk P w H h) (e : H a = some (.ins C dx fs)) : ∃ mA, ObjM h a dx C mA ∧ (∀ f, RelO (fs.lookup f) (mA f)) ∧ PySem.Within mA (fs.map (·.1)) ∧ fs.length ≤ 1000 ∧ H dx = some (.own a) := by
  obtain ⟨d, z, ne, ob, mA, n, r, q⟩ := (show ObjOk P w H h a (.ins C dx fs) from hok a _ e)
  exact ⟨mA, ⟨ob, n, ne⟩, r, q, z, d⟩
end


structure Cls (K : PySem.W.Frag) (C : Addr) : Prop where
  pg : PySem.W.plainGet K C Str.empty = true
  hd : PySem.W.hasDictIn K C = true
  po : PySem.W.plainOver K C = true
  sa : PySem.W.findIn K (.ref C) "__setattr__" = some (some (.builtin "object.__setattr__"))
theorem Cls.get {K : PySem.W.Frag} {C : Addr} (c : Cls K C) (f : Str) : PySem.W.plainGet K C f = true := c.pg

structure Con (K : PySem.W.Frag) (C : Addr) (f : Str) (v : V) (u : Value) : Prop where
  at_ : PySem.W.findIn K (.ref C) f = some (some u)
  rel : RelV v u
  get : PySem.W.specialIn K u "__get__" = some none
  cp : PySem.W.copiedNames.contains f = false

structure Meth (K : PySem.W.Frag) (C : Addr) (m : Str) (f : Addr) : Prop where
  at_ : PySem.W.findIn K (.ref C) m = some (some (.ref f))
  fn : PySem.W.isFn K (.ref f) = true
  kp : PySem.W.keepIn K (.ref f) = true

section
variable {X : Cx} {pins : List (Addr × Obj)} {σ : St} {H : Hp} {s : Shared} {a C dx : Addr} {fs : List (Str × V)} {f : Str} {v : V} {A : Around} {E : Value → Shared → Prop}

end



section
variable {X : Cx} {o e value : Expr} {f : Str} {pos pos' tpos : Pos} {ta tv : TE}
end


section
variable {X : Cx} {pins : List (Addr × Obj)} {σ : St} {H : Hp} {s : Shared} {A : Around} {E : Value → Shared → Prop} {Q : Value → Shared → Prop} {c : Value} {b : Bool}

inductive TyOf (K : PySem.W.Frag) (H : Hp) : V → Value → Prop where
  | non : TyOf K H .non (.type "NoneType")
  | bl (x : Bool) : TyOf K H (.bl x) (.type "bool")
  | int (i : Int) : TyOf K H (.int i) (.type "int")
  | str (x : Str) : TyOf K H (.str x) (.type "str")
  | flt (x : UInt64) : TyOf K H (.flt x) (.type "float")
  | lst {a : Addr} {xs : List V} (e : H a = some (.lst xs)) : TyOf K H (.ref a) (.type "list")
  | frz {a : Addr} {o : Obj} {xs : List V} (e : H a = some (.frz o (.lst xs))) : TyOf K H (.ref a) (.type "list")
  | tup {a : Addr} {xs : List V} (e : H a = some (.tup xs)) : TyOf K H (.ref a) (.type "tuple")
  | dK {a : Addr} {kvs : List (Key × V)} (e : H a = some (.dK kvs)) : TyOf K H (.ref a) (.type "dict")
  | dT {a : Addr} {kvs : List (List Key × V)} (e : H a = some (.dT kvs)) : TyOf K H (.ref a) (.type "dict")
  | ins {a C dx : Addr} {fs : List (Str × V)} (e : H a = some (.ins C dx fs)) (cl : Cls K C) (ha : PySem.W.findIn K (.ref C) "__class__" = some (some (.builtin "object.__class__")))
      (hn : PySem.W.specialIn K (.builtin "object.__class__") "__get__" = some (some (.builtin "getset_descriptor.__get__"))) (htk : PySem.W.takesIn K (.builtin "object.__class__") = some true)
      (hm : PySem.W.mroIn K C (.type "object") = some true) : TyOf K H (.ref a) (.ref C)

theorem isinst_ok {x : V} {u t : Value} (I : Inv X pins σ H s) (rx : RelV x u) (ty : TyOf X.K H x t) (e : PySem.W.kitOne X.K t c = some b) (h : ∀ tk, Q (.bool b) { s with toks := tk }) :
    wpAny (model X.prog X.w) A (call (.builtin "isinstance") [u, c]) Q E s := by
  cases ty with
  | non => cases (show u = Value.none from rx); exact PySem.W.kia_one PySem.W.kitx_none I.kIn True.intro e (fun z => nomatch z) h
  | bl y => cases (show u = Value.bool y from rx); exact PySem.W.kia_one PySem.W.kitx_bool I.kIn True.intro e (fun z => nomatch z) h
  | int i => obtain ⟨t, q⟩ := (show ∃ t, u = Value.int i t from rx); cases q; exact PySem.W.kia_one PySem.W.kitx_int I.kIn True.intro e (fun z => nomatch z) h
  | str y => obtain ⟨t, q⟩ := (show ∃ t, u = Value.str y t from rx); cases q; exact PySem.W.kia_one PySem.W.kitx_str I.kIn True.intro e (fun z => nomatch z) h
  | flt y => obtain ⟨t, q⟩ := (show ∃ t, u = Value.float y t from rx); cases q; exact PySem.W.kia_one PySem.W.kitx_float I.kIn True.intro e (fun z => nomatch z) h
  | @lst a xs ea =>
    cases (show u = Value.ref a from rx)
    obtain ⟨_, _, n, _, h1⟩ := (show ObjOk X.prog X.w H s.heap a (.lst xs) from I.hok a _ ea)
    exact PySem.W.kia_one PySem.W.kitx_list I.kIn ⟨_, h1, rfl⟩ e (fun z => nomatch z) h
  | @frz a ob xs ea =>
    cases (show u = Value.ref a from rx)
    obtain ⟨_, _, _, n, _, h1⟩ := (show ObjOk X.prog X.w H s.heap a (.frz ob (.lst xs)) from I.hok a _ ea)
    exact PySem.W.kia_one PySem.W.kitx_list I.kIn ⟨_, h1, rfl⟩ e (fun z => nomatch z) h
  | @tup a xs ea =>
    cases (show u = Value.ref a from rx)
    obtain ⟨_, _, _, p⟩ := (show ObjOk X.prog X.w H s.heap a (.tup xs) from I.hok a _ ea)
    obtain ⟨o, h1, h2, _⟩ := p
    exact PySem.W.kia_one PySem.W.kitx_tuple I.kIn ⟨o, h1, h2⟩ e (fun z => nomatch z) h
  | @dK a kvs ea =>
    cases (show u = Value.ref a from rx)
    obtain ⟨_, _, vs, _, p⟩ := (show ObjOk X.prog X.w H s.heap a (.dK kvs) from I.hok a _ ea)
    obtain ⟨o, es, ep, h1, h2, _⟩ := p
    exact PySem.W.kia_one PySem.W.kitx_dict I.kIn ⟨o, h1, h2.1⟩ e (fun z => nomatch z) h
  | @dT a kvs ea =>
    cases (show u = Value.ref a from rx)
    obtain ⟨_, _, xs, _, o, es, ep, h1, h2, _⟩ := (show ObjOk X.prog X.w H s.heap a (.dT kvs) from I.hok a _ ea)
    exact PySem.W.kia_one PySem.W.kitx_dict I.kIn ⟨o, h1, h2.1⟩ e (fun z => nomatch z) h
  | @ins a C dx fs ea cl ha hn htk hm =>
    cases (show u = Value.ref a from rx)
    obtain ⟨mA, O, _⟩ := ins_get I.hok ea
    obtain ⟨od, J, _⟩ := O.look
    exact PySem.W.kia_one (PySem.W.kitx_own (cl.get _) cl.hd ha hn htk hm) I.kIn J e (fun z => nomatch z) h
end
end L2

namespace L2
open PySem PySem.Spec PyProof.Rows


structure Room (k : Nat) (A : Around) : Prop where
  hd : A.handled = none
  dp : A.depth + 3 * k + 5 < recursionLimit
  un : A.units + 16 * k + 200 < cLine
theorem Room.mono {j k : Nat} {A : Around} (r : Room k A) (h : j ≤ k) : Room j A := ⟨r.hd, by have := r.dp; omega, by have := r.un; omega⟩
theorem Room.deeper {k : Nat} {A : Around} (r : Room (k + 1) A) (env : Env) : Room k (A.deeper env) :=
  ⟨r.hd, by have := r.dp; show A.depth + 1 + 3 * k + 5 < _; omega, by have := r.un; show A.units + 3 + 16 * k + 200 < _; omega⟩
theorem Room.in1 {k : Nat} {A : Around} (r : Room (k + 1) A) : Room k A.in1 :=
  ⟨r.hd, by have := r.dp; show A.depth + 3 * k + 5 < _; omega, by have := r.un; show A.units + 1 + 16 * k + 200 < _; omega⟩
theorem Room.depth {k : Nat} {A : Around} (r : Room k A) : A.depth < recursionLimit := by have := r.dp; omega
theorem Room.units {k : Nat} {A : Around} (r : Room k A) : A.units + 64 < cLine := by have := r.un; omega
def tNil : TA := fun _ H Q => Q [] H
def tCons (ta : TE) (tr : TA) : TA := fun σ H Q => ta σ H fun x H1 => tr σ H1 fun xs H2 => Q (x :: xs) H2
section
variable {X : Cx} {e : Expr} {es : List Expr} {te : TE} {t : TA} {pos : Pos}
theorem pa_nil : PA X [] tNil := fun _ _ _ _ H Q I h => Calls.spliced_nil ⟨[], H, I, .nil, h⟩
theorem pa_cons (ha : PE X e te) (hr : PA X es t) (hs : starEach (e :: es) X.env = (false, eval e X.env) :: starEach es X.env := by rfl) : PA X (e :: es) (tCons te t) := by
  intro pos pins s σ H Q I h
  rw [hs]
  show wpAny _ _ (spliced ((false, eval e X.env) :: backTo pos (starEach es X.env))) _ _ s
  refine Calls.spliced_cons (thn (ha pins s σ H _ I h) fun u s1 ⟨x, H1, I1, r1, q1⟩ => ?_)
  exact thn (hr pos pins s1 σ H1 _ I1 q1) fun us s2 ⟨xs, H2, I2, r2, q2⟩ => ⟨x :: xs, H2, I2, .cons r1 r2, q2⟩


def tTup (t : TA) : TE := fun σ H Q => t σ H fun xs H1 => xs.length ≤ sizeLine ∧ ∀ p, H1 p = none → Q (.ref p) (upd H1 p (.tup xs))
def tLst (t : TA) : TE := fun σ H Q => t σ H fun xs H1 => xs.length ≤ sizeLine ∧ ∀ p, H1 p = none → Q (.ref p) (upd H1 p (.lst xs))
theorem pe_tup {x1} (h : PA X es t) : PE X (.Tuple es x1 pos) (tTup t) := by
  intro pins s σ H Q I hq
  refine wpAny_Tuple_spliced (thn (h pos pins s σ H _ I hq) fun us s1 ⟨xs, H1, I1, r, z, q⟩ => ⟨by rw [← r.length]; exact z, ?_⟩)
  have hf : H1 s1.heap.objs.size = none := I1.hok.fresh (Nat.le_refl _)
  refine ⟨.ref s1.heap.objs.size, upd H1 s1.heap.objs.size (.tup xs), I1.laid (t' := s1.toks) (fun b u e => Heap.get?_push_of_some _ e) (Nat.le_refl _) ?_, rfl, q _ hf⟩
  exact ⟨z, us, r, ⟨_, Heap.get?_push_size _ rfl, rfl, _, rfl⟩⟩
theorem pe_lst (h : PA X es t) : PE X (.List es pos) (tLst t) := by
  intro pins s σ H Q I hq
  refine wpAny_List_spliced (thn (h pos pins s σ H _ I hq) fun us s1 ⟨xs, H1, I1, r, z, q⟩ => ⟨by rw [← r.length]; exact z, ?_⟩)
  have hf : H1 s1.heap.objs.size = none := I1.hok.fresh (Nat.le_refl _)
  refine ⟨.ref s1.heap.objs.size, upd H1 s1.heap.objs.size (.lst xs), I1.laid (t' := s1.toks) (fun b u e => Heap.get?_push_of_some _ e) (Nat.le_refl _) ?_, rfl, q _ hf⟩
  exact ⟨z, us, 0, r, Heap.get?_push_size _ rfl⟩
end



abbrev Sp := List V → Hp → VK → XK → Prop

abbrev CXT := List Env → Hp → Shared → XK → Value → Shared → Prop


structure Env0 (P : Program) (w : World) (K : PySem.W.Frag) (mg : Str → Option Value) (base : Heap) (A : Around) (outer : List Env) (s : Shared) (H : Hp) : Prop where
  frames : A.frames = some outer
  mod : Mod K mg base
  bs : ∀ b o, base.get? b = some o → s.heap.get? b = some o ∧ H b = none
  bsz : base.objs.size ≤ s.heap.objs.size
  funs : s.heap.FunFrames base outer
  frf : ∀ b ∈ frs outer, H b = none
  hok : HOk P w H s.heap
  bare : AllBare s.gens

def CE (outer : List Env) (P : Program) (w : World) (H : Hp) (s : Shared) (Q : VK) (u : Value) (s' : Shared) : Prop :=
  ∃ v H', s'.os = s.os ∧ AllBare s'.gens ∧ Un (frs outer) [] H H' s.heap s'.heap ∧ HOk P w H' s'.heap ∧ RelV v u ∧ Q v H'
def CR (CX : CXT) (outer : List Env) (P : Program) (w : World) (H : Hp) (s : Shared) (Q : VK) (E : XK) (r : Result) (s' : Shared) : Prop :=
  match r with
  | .ok (.ret u) => CE outer P w H s Q u s'
  | .ok _ => False
  | .error e => CX outer H s E e s'
structure FnOk (P : Program) (w : World) (K : PySem.W.Frag) (mg : Str → Option Value) (base : Heap) (CX : CXT) (k : Nat) (f : Addr) (fd : FuncData) (ps : List Str) (sp : Sp) : Prop where
  len : ∀ vs H Q E, sp vs H Q E → vs.length = ps.length
  run : ∀ (A : Around) (outer : List Env) (s : Shared) (H : Hp) (args : Args) (us : List Value) (vs : List V) (Q : VK) (E : XK), Room k A → Env0 P w K mg base A outer s H → BindsTo s fd args (ps.zip us) → Vals vs us → sp vs H Q E →
    codeAny (model P w) A (.call (.ref f) args) (CR CX outer P w H s Q E) s
theorem FnOk.mono {P : Program} {w : World} {K : PySem.W.Frag} {mg : Str → Option Value} {base : Heap} {CX : CXT} {j k : Nat} {f : Addr} {fd : FuncData} {ps : List Str} {sp : Sp} (F : FnOk P w K mg base CX j f fd ps sp) (h : j ≤ k) :
    FnOk P w K mg base CX k f fd ps sp := ⟨F.len, fun A outer s H args us vs Q E hr => F.run A outer s H args us vs Q E (hr.mono h)⟩

theorem FnOk.imp {P : Program} {w : World} {K : PySem.W.Frag} {mg : Str → Option Value} {base : Heap} {CX : CXT} {k : Nat} {f : Addr} {fd : FuncData} {ps : List Str} {sp sp' : Sp} (F : FnOk P w K mg base CX k f fd ps sp)
    (h : ∀ vs H Q E, sp' vs H Q E → sp vs H Q E) : FnOk P w K mg base CX k f fd ps sp' :=
  ⟨fun vs H Q E q => F.len vs H Q E (h _ _ _ _ q), fun A outer s H args us vs Q E hr he hb hv hs => F.run A outer s H args us vs Q E hr he hb hv (h _ _ _ _ hs)⟩

theorem Env0.in1 {P : Program} {w : World} {K : PySem.W.Frag} {mg : Str → Option Value} {base : Heap} {A : Around} {outer : List Env} {s : Shared} {H : Hp} (e : Env0 P w K mg base A outer s H) :
    Env0 P w K mg base A.in1 outer s H := ⟨e.frames, e.mod, e.bs, e.bsz, e.funs, e.frf, e.hok, e.bare⟩

section
variable {X : Cx} {pins : List (Addr × Obj)} {σ : St} {H : Hp} {s s' : Shared}

theorem Inv.env0 (I : Inv X pins σ H s) : Env0 X.prog X.w X.K X.mg X.base X.A X.stack s H :=
  ⟨I.ok.frames, I.ok.mod, I.bs, Nat.le_trans I.ok.bsz I.sz, I.stack, I.stkFree, I.hok, I.bare⟩

theorem Inv.after {Q : VK} {u : Value} (I : Inv X pins σ H s) (h : CE X.stack X.prog X.w H s Q u s') : EP X pins σ Q u s' := by
  obtain ⟨v, H', os, bare, un, hok, r, q⟩ := h
  obtain ⟨hh, g, d, t, os'⟩ := s'
  obtain rfl : os' = s.os := os
  exact ⟨v, H', I.call (h' := hh) (g' := g) (d' := d) (t' := t) (ch := []) un hok bare (fun b z => absurd z (by simp)), r, q⟩
end



def tCall (sp : Sp) (dvs : List V) (E : XK) (t : TA) : TE := fun σ H Q => t σ H fun vs H1 => sp (vs ++ dvs) H1 Q E

def tMeth (C : Addr) (m : Str) (sp : Sp) (dvs : List V) (E : XK) (ta : TE) (t : TA) : TE := fun σ H Q => ta σ H fun x H1 => ∃ a dx fs, x = .ref a ∧ H1 a = some (.ins C dx fs) ∧ fs.lookup m = none ∧
  t σ H1 fun vs H2 => sp (x :: (vs ++ dvs)) H2 Q E

def tMake (C : Addr) (sp : Sp) (dvs : List V) (E : XK) (t : TA) : TE := fun σ H Q => t σ H fun vs H1 => ∀ x dx, H1 x = none → H1 dx = none → dx ≠ x →
  sp (.ref x :: (vs ++ dvs)) (upd (upd H1 dx (.own x)) x (.ins C dx [])) (fun v H2 => v = .non ∧ Q (.ref x) H2) E


def Binds (K : PySem.W.Frag) (fd : FuncData) (ps : List Str) (ds : List Value) : Prop :=
  ∀ (s : Shared) (us : List Value), K.In s.heap → (us ++ ds).length = ps.length → BindsTo s fd ⟨us, []⟩ (ps.zip (us ++ ds))

theorem Binds.all {K : PySem.W.Frag} {fd : FuncData} {ps : List Str} (h : ∀ us : List Value, us.length = ps.length → bindArgs fd ⟨us, []⟩ = pure (ps.zip us)) : Binds K fd ps [] := fun s us _ hl => by
  rw [List.append_nil] at hl ⊢
  exact .of_eq (h us hl)


def Passes (CX : CXT) (X : Cx) (E : XK) : Prop := ∀ (pins : List (Addr × Obj)) (σ : St) (H : Hp) (s : Shared) (e : Value) (s' : Shared), Inv X pins σ H s → CX X.stack H s E e s' → X.xe e s'

section
variable {X : Cx} {CX : CXT} {k : Nat} {f C : Addr} {fd : FuncData} {ps : List Str} {sp : Sp} {dvs : List V} {ds : List Value} {E : XK} {x m : Str} {p pos apos : Pos} {e o : Expr} {es : List Expr} {ta : TE} {t : TA}


theorem run_fn {pins : List (Addr × Obj)} {σ : St} {H : Hp} {s : Shared} {Q : VK} {us : List Value} {vs : List V} (F : FnOk X.prog X.w X.K X.mg X.base CX k f fd ps sp) (hr : Room k X.A) (hb : Binds X.K fd ps ds) (hd : Vals dvs ds) (hx : Passes CX X E)
    (I : Inv X pins σ H s) (r : Vals vs us) (h : sp (vs ++ dvs) H Q E) : wpAny (model X.prog X.w) X.A (call (.ref f) us) (EP X pins σ Q) X.xe s := by
  have r2 : Vals (vs ++ dvs) (us ++ ds) := r.append hd
  have hl : (us ++ ds).length = ps.length := by rw [← r2.length]; exact F.len _ _ _ _ h
  refine wpAny_call (codeAny_mono (F.run X.A X.stack s H ⟨us, []⟩ (us ++ ds) (vs ++ dvs) Q E hr I.env0 (hb s us I.kIn hl) r2 h) fun r s' hq => ?_)
  cases r with
  | error e => exact hx pins σ H s e s' I hq
  | ok fl =>
    cases fl with
    | ret u => exact I.after hq
    | next => exact False.elim hq
    | brk => exact False.elim hq
    | cont => exact False.elim hq

theorem pe_call (F : FnOk X.prog X.w X.K X.mg X.base CX k f fd ps sp) (hr : Room k X.A) (hg : Gl X x) (hm : X.mg x = some (.ref f)) (hk : PySem.W.keepIn X.K (.ref f) = true) (hb : Binds X.K fd ps ds) (hd : Vals dvs ds) (hx : Passes CX X E)
    (ha : PA X (e :: es) t) (hdb : (x == ("__debug__" : Str)) = false := by decide) (he : starEach (e :: es) X.env = (false, eval e X.env) :: starEach es X.env := by rfl) (hpl : (backTo pos (starEach es X.env)).any (·.1) = false := by rfl) :
    PE X (.Call (.Name x p) (e :: es) [] pos) (tCall sp dvs E t) := by
  intro pins s σ H Q I h
  refine wpAny_Call_Name_kw (ld_glob I hg hm ?_ hdb)
  refine PySem.W.callWith_K (h₀ := X.base) I.ok.mod.kin hk (thn (ha pos pins s σ H _ I h) fun us s1 ⟨vs, H1, I1, r, q⟩ => ⟨I1.kIn, ?_⟩) he hpl
  exact run_fn F hr hb hd hx I1 r q
structure Mk (K : PySem.W.Frag) (C f : Addr) : Prop where
  makes : PySem.W.makesIn K C = true
  init : PySem.W.findIn K (.ref C) "__init__" = some (some (.ref f))
  fn : PySem.W.isFn K (.ref f) = true
  kp : PySem.W.keepIn K (.ref C) = true

end



section
variable {X : Cx} {CX : CXT} {k : Nat} {f C : Addr} {fd : FuncData} {ps ks : List Str} {sp : Sp} {E : XK} {x m : Str} {p pos apos kpos : Pos} {e o : Expr} {es : List Expr} {kws : List Keyword} {te ta : TE} {t tk : TA} {nm : Option Str}
structure KBinds (K : PySem.W.Frag) (fd : FuncData) (ps ks : List Str) (g : List Value → List Value → List Value) (gV : List V → List V → List V) : Prop where
  to : ∀ (s : Shared) (us ws : List Value), K.In s.heap → (g us ws).length = ps.length → BindsTo s fd ⟨us, ks.zip ws⟩ (ps.zip (g us ws))
  rel : ∀ {vs : List V} {us : List Value} {zs : List V} {ws : List Value}, Vals vs us → Vals zs ws → Vals (gV vs zs) (g us ws)
variable {g : List Value → List Value → List Value} {gV : List V → List V → List V}
end



structure FnScope (N P : List Str) (sc : Scope) : Prop where
  kind : sc.kind = .function
  co : sc.isCoroutine = false
  gen : sc.isGenerator = false
  nd : N.Nodup
  pre : N.take P.length = P
  par : ∀ x ∈ P, sc.names.lookup x = some .local ∨ sc.names.lookup x = some .cell
  nofree : ∀ y ∈ sc.names, y.2 ≠ .free

theorem bindL_out {kindOf : Str → Option NameKind} {x : Str} : ∀ {binds : List (Str × Value)} {m : Str → Option Value}, (∀ v, (x, v) ∉ binds) → bindL kindOf binds m x = m x
  | [], _, _ => rfl
  | (n, v) :: r, m, h => by
    unfold bindL
    rw [bindL_out fun w hw => h w (List.mem_cons_of_mem _ hw)]
    split
    · have : x ≠ n := by rintro rfl; exact h v List.mem_cons_self
      simp [this]
    · rfl
theorem bindC_out {kindOf : Str → Option NameKind} {x : Str} : ∀ {binds : List (Str × Value)} {m : Str → Option Value}, (∀ v, (x, v) ∉ binds) → bindC kindOf binds m x = m x
  | [], _, _ => rfl
  | (n, v) :: r, m, h => by
    unfold bindC
    rw [bindC_out fun w hw => h w (List.mem_cons_of_mem _ hw)]
    split
    · rfl
    · have : x ≠ n := by rintro rfl; exact h v List.mem_cons_self
      simp [this]
theorem bindL_get {kindOf : Str → Option NameKind} {x : Str} {v : Value} : ∀ {P : List Str} {vs : List Value} {i : Nat} {m : Str → Option Value}, P.Nodup → P[i]? = some x → vs[i]? = some v → kindOf x = some .local →
    bindL kindOf (P.zip vs) m x = some v
  | [], _, _, _, _, h, _, _ => by simp at h
  | _ :: _, [], _, _, _, _, h, _ => by simp at h
  | p :: P, w :: vs, 0, m, nd, h1, h2, hk => by
    simp at h1 h2; subst h1; subst h2
    show bindL kindOf ((p, w) :: P.zip vs) m p = _
    unfold bindL
    rw [bindL_out fun v hv => (List.nodup_cons.mp nd).1 (List.of_mem_zip hv).1, if_pos hk]
    simp
  | p :: P, w :: vs, i + 1, m, nd, h1, h2, hk => by
    show bindL kindOf ((p, w) :: P.zip vs) m x = _
    unfold bindL
    exact bindL_get (i := i) (List.nodup_cons.mp nd).2 (by simpa using h1) (by simpa using h2) hk
theorem bindC_get {kindOf : Str → Option NameKind} {x : Str} {v : Value} : ∀ {P : List Str} {vs : List Value} {i : Nat} {m : Str → Option Value}, P.Nodup → P[i]? = some x → vs[i]? = some v → kindOf x ≠ some .local →
    bindC kindOf (P.zip vs) m x = some v
  | [], _, _, _, _, h, _, _ => by simp at h
  | _ :: _, [], _, _, _, _, h, _ => by simp at h
  | p :: P, w :: vs, 0, m, nd, h1, h2, hk => by
    simp at h1 h2; subst h1; subst h2
    show bindC kindOf ((p, w) :: P.zip vs) m p = _
    unfold bindC
    rw [bindC_out fun v hv => (List.nodup_cons.mp nd).1 (List.of_mem_zip hv).1, if_neg hk]
    simp
  | p :: P, w :: vs, i + 1, m, nd, h1, h2, hk => by
    show bindC kindOf ((p, w) :: P.zip vs) m x = _
    unfold bindC
    exact bindC_get (i := i) (List.nodup_cons.mp nd).2 (by simpa using h1) (by simpa using h2) hk


def start (N : List Str) (vs : List V) : St := vs.map some ++ List.replicate (N.length - vs.length) none


def cxOf (CX : CXT) (P : Program) (w : World) (K : PySem.W.Frag) (mg : Str → Option Value) (base : Heap) (N : List Str) (qual : Str) (scope : Scope) (f : Addr) (cd : Value) (A : Around) (outer : List Env) (s : Shared) (H : Hp) (E : XK) : Cx where
  prog := P
  w := w
  K := K
  mg := mg
  base := base
  A := A.deeper (envOfC qual scope s.heap.objs.size f cd)
  N := N
  s₀ := s
  H₀ := H
  env := envOfC qual scope s.heap.objs.size f cd
  outer := outer
  stack := envOfC qual scope s.heap.objs.size f cd :: outer
  ex := []
  calm := true
  fn := fun _ => true
  pn := []
  xe := fun e s' => wpAny (model P w) (A.deeper (envOfC qual scope s.heap.objs.size f cd)) (leaving (envOfC qual scope s.heap.objs.size f cd) e) (fun _ s'' => CX outer H s E e s'') (fun e' s'' => CX outer H s E e' s'') s'

theorem cell_has {sc : Scope} {n : Nat} {x : Str} (h : sc.names.lookup x = some .cell) : ∃ c, (cellsFrom n sc.names []).lookup x = some c := by
  have q := PySem.W.cellsFrom_some sc.names n [] (.inl h)
  exact Option.isSome_iff_exists.mp q

theorem inv_start {CX : CXT} {P : Program} {w : World} {K : PySem.W.Frag} {mg : Str → Option Value} {base : Heap} {N ps : List Str} {qual : Str} {scope : Scope} {f : Addr} {cd : Value} {A : Around} {outer : List Env} {s s1 : Shared} {H : Hp} {E : XK} {us : List Value} {vs : List V}
    (S : FnScope N ps scope) (hd : A.handled = none) (e0 : Env0 P w K mg base A outer s H) (hl : vs.length = ps.length) (r : Vals vs us)
    (x : InCallC s s.heap.objs.size (bindL (envOfC qual scope s.heap.objs.size f cd).kindOf (ps.zip us) fun _ => none) (cellsFrom (s.heap.objs.size + 1) scope.names []) (bindC (envOfC qual scope s.heap.objs.size f cd).kindOf (ps.zip us) fun _ => none) s1) :
    Inv (cxOf CX P w K mg base N qual scope f cd A outer s H E) [] (start N vs) H s1 := by
  have hpl : ps.length ≤ N.length := by have := congrArg List.length S.pre; rw [List.length_take] at this; omega
  obtain ⟨h1, tk, rfl, hk⟩ := x.done
  have noA : ∀ b : Addr, b ∉ (cxOf CX P w K mg base N qual scope f cd A outer s H E).ex := fun b z => absurd (show b ∈ ([] : List Addr) from z) (by simp)
  refine ⟨⟨e0.mod, S.kind, rfl, rfl, Nat.le_refl _, fun y z c h1 h2 => ?_, fun y hy => ?_, fun y c _ h => ?_, fun _ => hd, Around.frames_deeper e0.frames, .inr ⟨rfl, rfl⟩, fun b z => absurd z (noA b), e0.bs, e0.bsz, fun b _ _ => noA b, fun b z => absurd z (noA b), e0.funs, e0.frf⟩,
    rfl, e0.bare, Un.kept hk, ⟨_, x.toInCall.ns, fun i y v h1 h2 h3 => ?_⟩, fun y c h => ⟨_, x.cell y c h⟩, e0.hok.fresh (Nat.le_refl _), fun y c h => ?_, fun p hp => absurd (show p ∈ ([] : List (Addr × Obj)) from hp) (by simp), e0.hok.kept hk, ?_⟩
  · exact name_of_addr x.apart (PySem.mem_of_lookup h1) (PySem.mem_of_lookup h2)
  · have hy : scope.names.lookup y = some .cell ∨ scope.names.lookup y = some .free := hy
    rcases hy with hy | hy
    · exact cell_has hy
    · exact absurd rfl (S.nofree _ (PySem.mem_of_lookup hy))
  · exact Nat.le_of_lt (x.above y c (PySem.mem_of_lookup h))
  · have hi : i < vs.length := by
      unfold start at h2
      by_cases hi : i < vs.length
      · exact hi
      · rw [List.getElem?_append_right (by simpa using hi)] at h2
        rw [List.getElem?_replicate] at h2
        split at h2 <;> cases h2
    have ha : vs[i]? = some v := by
      unfold start at h2
      rw [List.getElem?_append_left (by simpa using hi), List.getElem?_map] at h2
      cases e : vs[i]? with
      | none => rw [e] at h2; cases h2
      | some a => rw [e] at h2; cases h2; rfl
    obtain ⟨u, hu, rv⟩ := r.get ha
    have hp : ps[i]? = some y := by
      rw [← S.pre, List.getElem?_take_of_lt (by omega)]; exact h1
    have ndP : ps.Nodup := by rw [← S.pre]; exact S.nd.sublist (List.take_sublist _ _)
    refine ⟨u, rv, ?_⟩
    rcases S.par y (List.mem_of_getElem? hp) with k | k
    · exact .inl ⟨k, bindL_get ndP hp hu k⟩
    · obtain ⟨c, e⟩ := cell_has (n := s.heap.objs.size + 1) k
      refine .inr ⟨.inl k, c, e, ?_⟩
      have q := x.cell y c e
      rw [bindC_get ndP hp hu (by show scope.names.lookup y ≠ _; rw [k]; decide)] at q
      exact q
  · exact e0.hok.fresh (Nat.le_of_lt (x.above y c (PySem.mem_of_lookup h)))
  · unfold start
    show _ = N.length
    rw [List.length_append, List.length_map, List.length_replicate]
    omega


theorem fn_of {CX : CXT} {P : Program} {w : World} {K : PySem.W.Frag} {mg : Str → Option Value} {base : Heap} {k : Nat} {f : Addr} {name qual : Str} {params : Arguments} {body : List Stmt} {scope : Scope} {dV kV doc pm cdv ct oc : Value} {an od : Option Addr}
    {osl : Array (Option Value)} {N ps : List Str} {sp : Sp} (lk : K.lookup f = some ⟨oc, od, .func (PySem.W.fnOf name qual params body scope dV kV doc pm an cdv ct), osl⟩) (hcd : PySem.W.codeIn K cdv qual = true) (S : FnScope N ps scope)
    (len : ∀ vs H Q E, sp vs H Q E → vs.length = ps.length)
    (hbody : ∀ (A : Around) (outer : List Env) (s : Shared) (H : Hp) (vs : List V) (Q : VK) (E : XK), Room k (A.deeper (envOfC qual scope s.heap.objs.size f cdv)) → sp vs H Q E →
      ∃ t, PSs (cxOf CX P w K mg base N qual scope f cdv A outer s H E) body t ∧ t { nx := fun _ H' => Q .non H', rt := Q } (start N vs) H) :
    FnOk P w K mg base CX (k + 1) f (PySem.W.fnOf name qual params body scope dV kV doc pm an cdv ct) ps sp := by
  refine ⟨len, fun A outer s H args us vs Q E hr e0 hb r hsp => ?_⟩
  have hl := len _ _ _ _ hsp
  have KX : K.In s.heap := e0.mod.kin.keeps fun b o e => (e0.bs b o e).1
  have lim : s.heap.NoLimit := e0.mod.nolimit.keeps fun b o e => (e0.bs b o e).1
  have hkind : ∀ y ∈ ps.zip us, scope.names.lookup y.1 = some .local ∨ (scope.names.lookup y.1 = some .cell ∧ ((cellsFrom (s.heap.objs.size + 1) scope.names []).lookup y.1).isSome = true) := fun ⟨n, v⟩ hy => by
    rcases S.par n (List.of_mem_zip hy).1 with q | q
    · exact .inl q
    · exact .inr ⟨q, PySem.W.cellsFrom_some _ _ _ (.inl q)⟩
  refine codeAny_call_function hr.depth (KX _ _ lk) rfl S.co S.gen rfl (PySem.W.codeRec_of KX hcd) (hb _ _ _ _ ?_)
  refine wpAny_newFunctionEnv_cells S.kind hkind fun env he s1 x => ?_
  subst he
  refine ⟨lim.keeps x.toInCall.keep, codeAny_func ?_⟩
  obtain ⟨t, ht, hq⟩ := hbody A outer s H vs Q E (hr.deeper _) hsp
  have I : Inv (cxOf CX P w K mg base N qual scope f cdv A outer s H E) [] (start N vs) H s1 := inv_start S hr.hd e0 hl r x
  refine wpAny_mono (ht [] s1 (start N vs) H _ I hq) (fun fl s' hs => ?_) fun e s' hs => hs
  have fin : ∀ {σ' : St} {H' : Hp} {v : V} {u : Value}, Inv (cxOf CX P w K mg base N qual scope f cdv A outer s H E) [] σ' H' s' → RelV v u → Q v H' → CE outer P w H s Q u s' :=
    fun {σ' H' v u} J rv q => ⟨v, H', J.os, J.bare, J.base, J.hok, rv, q⟩
  cases fl with
  | ret u =>
    obtain ⟨v, σ', H', J, rv, q⟩ := hs
    exact fin J rv q
  | next =>
    obtain ⟨σ', H', J, q⟩ := hs
    exact fin (v := V.non) (u := Value.none) J rfl q
  | brk =>
    obtain ⟨_, _, _, q⟩ := hs
    exact False.elim q
  | cont =>
    obtain ⟨_, _, _, q⟩ := hs
    exact False.elim q
end L2

namespace L2
open PySem PySem.Spec PyProof.Rows
section
variable {X : Cx} {x : Str} {p pos : Pos} {e : Expr} {es : List Expr} {t : TA} {id T : String} {r : List V → Hp → VK → Prop}

def tCB (r : List V → Hp → VK → Prop) (t : TA) : TE := fun σ H Q => t σ H fun vs H1 => r vs H1 Q

theorem pe_callB (hc : CallR X (.builtin id) r) (hg : Gl X x) (hm : X.mg x = none) (hv : bootBuiltins x = some (.builtin id)) (ha : PA X (e :: es) t) (hn : x ≠ "__name__" := by decide) (hdb : (x == ("__debug__" : Str)) = false := by decide)
    (he : starEach (e :: es) X.env = (false, eval e X.env) :: starEach es X.env := by rfl) (hpl : (backTo pos (starEach es X.env)).any (·.1) = false := by rfl) : PE X (.Call (.Name x p) (e :: es) [] pos) (tCB r t) := by
  intro pins s σ H Q I h
  refine wpAny_Call_Name_kw (ld_blt I hg hm hv ?_ hn hdb)
  exact PyProof.Rows.callWith_builtin1 (thn (ha pos pins s σ H _ I h) fun us s1 ⟨vs, H1, I1, r1, q1⟩ => hc pins s1 σ H1 vs us Q I1 r1 q1) he hpl

theorem pe_callTy (hc : CallR X (.type T) r) (hg : Gl X x) (hm : X.mg x = none) (hv : bootBuiltins x = some (.type T)) (ha : PA X (e :: es) t) (hn : x ≠ "__name__" := by decide) (hdb : (x == ("__debug__" : Str)) = false := by decide)
    (he : starEach (e :: es) X.env = (false, eval e X.env) :: starEach es X.env := by rfl) (hpl : (backTo pos (starEach es X.env)).any (·.1) = false := by rfl) : PE X (.Call (.Name x p) (e :: es) [] pos) (tCB r t) := by
  intro pins s σ H Q I h
  refine wpAny_Call_Name_kw (ld_blt I hg hm hv ?_ hn hdb)
  exact PyProof.Rows.callWith_type1 (thn (ha pos pins s σ H _ I h) fun us s1 ⟨vs, H1, I1, r1, q1⟩ => hc pins s1 σ H1 vs us Q I1 r1 q1) he hpl

end
end L2

namespace HT
open PySem PyProof.Rows


def lexLt : List Int → List Int → Bool
  | [], [] => false
  | [], _ :: _ => true
  | _ :: _, [] => false
  | x :: xs, y :: ys => if x = y then lexLt xs ys else decide (x < y)
section
open PySem.SeqAt
open PySem.AutoSeq1 (wpAny_loadPart')
open PySem.MeetsSeq PySem.MeetsSeq2 PySem.MeetsSeq3

end

section
variable {prog : Program} {w : World} {A : Around} {E : Value → Shared → Prop} {s : Shared}

def sIx (n d : Nat) : Option Int → Nat
  | none => d
  | some v => if v < 0 then (v + (n : Int)).toNat else min v.toNat n
end
end HT

namespace L2
open PySem PySem.Spec PyProof.Rows


abbrev TO := St → Hp → (Option Int → Hp → Prop) → Prop

def tNoPart : TO := fun _ H Q => Q none H
def tPart (t : TE) : TO := fun σ H Q => t σ H fun x H1 => ∃ i, x = .int i ∧ Q (some i) H1

section
variable {X : Cx} {e : Expr} {te : TE} {lo hi : Option Expr} {tl th : TO} {pos p2 : Pos}

def SlR (X : Cx) (r : V → Option Int → Option Int → Hp → VK → Prop) : Prop :=
  ∀ (pins : List (Addr × Obj)) (s : Shared) (σ : St) (H : Hp) (x : V) (v vl vu : Value) (lo hi : Option Int) (sl : Addr) (Q : VK), Inv X pins σ H s → RelV x v → s.heap.IsSliceOf sl vl vu .none → IsPart vl lo → IsPart vu hi → r x lo hi H Q →
    ∃ T id, typeLookup (.type T) "__getitem__" = pure (some (.builtin id)) ∧ s.TypeIs v T ∧ wpAny (model X.prog X.w) X.A (getItem v (.ref sl)) (EP X pins σ Q) X.xe s
theorem SlR.or {r r' : V → Option Int → Option Int → Hp → VK → Prop} (h : SlR X r) (h' : SlR X r') : SlR X (fun x lo hi H Q => r x lo hi H Q ∨ r' x lo hi H Q) := by
  intro pins s σ H x v vl vu lo hi sl Q I rx hs pl pu q
  rcases q with q | q
  · exact h pins s σ H x v vl vu lo hi sl Q I rx hs pl pu q
  · exact h' pins s σ H x v vl vu lo hi sl Q I rx hs pl pu q
def tSl (r : V → Option Int → Option Int → Hp → VK → Prop) (te : TE) (tl th : TO) : TE := fun σ H Q => te σ H fun x H1 => tl σ H1 fun l H2 => th σ H2 fun u H3 => r x l u H3 Q

def cutV (xs : List V) (lo hi : Option Int) : List V := (xs.drop (HT.sIx xs.length 0 lo)).take (HT.sIx xs.length xs.length hi - HT.sIx xs.length 0 lo)
def rLtT (K : PySem.W.Frag) : R2 := fun x y H Q => ∃ a b ns ms, x = .ref a ∧ y = .ref b ∧ SqT K H a (ns.map V.int) ∧ SqT K H b (ms.map V.int) ∧ Q (.bl (HT.lexLt ns ms)) H
end
end L2

namespace L2
open PySem PySem.Spec PyProof.Rows



def ixN (n : Nat) (i : Int) : Option Nat := if 0 ≤ i then (if i < n then some i.toNat else none) else if -(n : Int) ≤ i then some (i + n).toNat else none
def atI {α : Type} (xs : List α) (i : Int) : Option α := (ixN xs.length i).bind fun j => xs[j]?
theorem ixN_seq {n : Nat} {i : Int} {j : Nat} (h : ixN n i = some j) : seqIndex? i n = some j ∧ j < n ∧ -(n : Int) ≤ i ∧ i < n := by
  unfold ixN at h
  by_cases h0 : 0 ≤ i
  · rw [if_pos h0] at h
    by_cases h1 : i < n
    · rw [if_pos h1] at h
      have e : i.toNat = j := Option.some.inj h
      exact ⟨by rw [seqIndex_of h0 h1, e], by omega, by omega, h1⟩
    · rw [if_neg h1] at h; cases h
  · rw [if_neg h0] at h
    by_cases h1 : -(n : Int) ≤ i
    · rw [if_pos h1] at h
      have e : (i + n).toNat = j := Option.some.inj h
      exact ⟨by rw [seqIndex_neg (by omega) h1, e], by omega, h1, by omega⟩
    · rw [if_neg h1] at h; cases h
theorem atI_get {α : Type} {xs : List α} {i : Int} {v : α} (h : atI xs i = some v) : ∃ j, seqIndex? i xs.length = some j ∧ xs[j]? = some v ∧ j < xs.length ∧ -(xs.length : Int) ≤ i ∧ i < xs.length := by
  unfold atI at h
  cases e : ixN xs.length i with
  | none => rw [e] at h; cases h
  | some j =>
    rw [e] at h
    obtain ⟨h1, h2, h3, h4⟩ := ixN_seq e
    exact ⟨j, h1, h, h2, h3, h4⟩
def PlainIx (b : Expr) : Prop := ∀ o i, subscripted b false o i = operate [o, i] (getItem o i)

def IxR (X : Cx) (r : R2) : Prop :=
  ∀ (value slice : Expr) (pins : List (Addr × Obj)) (s : Shared) (σ : St) (H : Hp) (x y : V) (v u : Value) (Q : VK), Inv X pins σ H s → RelV x v → RelV y u → r x y H Q →
    subscripted slice false v u = operate [v, u] (getItem v u) → wpAny (model X.prog X.w) X.A (subscriptTail value slice v u) (EP X pins σ Q) X.xe s

def MtR (X : Cx) (id : String) (r : V → List V → Hp → VK → Prop) : Prop :=
  ∀ (pins : List (Addr × Obj)) (s : Shared) (σ : St) (H : Hp) (x : V) (xs : List V) (v : Value) (us : List Value) (Q : VK), Inv X pins σ H s → RelV x v → Vals xs us → r x xs H Q →
    wpAny (model X.prog X.w) X.A (call (.builtin id) (v :: us)) (EP X pins σ Q) X.xe s
section
variable {X : Cx} {a b : Expr} {ta tb : TE} {pos : Pos}
theorem IxR.or {r r' : R2} (h : IxR X r) (h' : IxR X r') : IxR X (fun x y H Q => r x y H Q ∨ r' x y H Q) := by
  intro value slice pins s σ H x y v u Q I rx ry q hs
  rcases q with q | q
  · exact h value slice pins s σ H x y v u Q I rx ry q hs
  · exact h' value slice pins s σ H x y v u Q I rx ry q hs
theorem MtR.or {id : String} {r r' : V → List V → Hp → VK → Prop} (h : MtR X id r) (h' : MtR X id r') : MtR X id (fun x xs H Q => r x xs H Q ∨ r' x xs H Q) := by
  intro pins s σ H x xs v us Q I rx rs q
  rcases q with q | q
  · exact h pins s σ H x xs v us Q I rx rs q
  · exact h' pins s σ H x xs v us Q I rx rs q

theorem pe_ix {r : R2} (hr : IxR X r) (ha : PE X a ta) (hb : PE X b tb) (hs : PlainIx b) : PE X (.Subscript a b pos) (tOp r ta tb) := by
  intro pins s σ H Q I h
  exact Subscript_ (binT ha hb I h fun v u s2 x y H2 I2 rx ry q => hr a b pins s2 σ H2 x y v u Q I2 rx ry q (hs _ _))

def rIxL (K : PySem.W.Frag) : R2 := fun x y H Q => ∃ p xs i v, x = .ref p ∧ y = .int i ∧ SqL K H p xs ∧ atI xs i = some v ∧ Q v H
def rIxT (K : PySem.W.Frag) : R2 := fun x y H Q => ∃ p xs i v, x = .ref p ∧ y = .int i ∧ SqT K H p xs ∧ atI xs i = some v ∧ Q v H
theorem ix_list : IxR X (rIxL X.K) := by
  intro value slice pins s σ H x y v u Q I rx ry h hs
  obtain ⟨p, xs, i, z, rfl, rfl, hq, he, q⟩ := h
  cases rx
  obtain ⟨t, rfl⟩ := ry
  obtain ⟨its, r, pl, hz⟩ := I.list hq
  obtain ⟨j, h1, h2, h3, h4, h5⟩ := atI_get he
  obtain ⟨w, ew, rw'⟩ := r.get h2
  have hl := r.length
  have hn := line63
  have fin : EP X pins σ Q w s := ⟨z, H, I, rw', q⟩
  by_cases h0 : 0 ≤ i
  · have hj : i.toNat = j := by
      rw [seqIndex_of h0 h5] at h1
      exact Option.some.inj h1
    exact item_listR pl.isList h0 (by omega) (by rw [hj]; simpa using ew) fin hs
  · have hj : (i + (its.toArray.size : Int)).toNat = j := by
      rw [seqIndex_neg (by omega) h4] at h1
      rw [List.size_toArray, ← hl]
      exact Option.some.inj h1
    exact subscriptTail_builtinR (x := w) pl.isList.typeIs slot_list_getitem.lookup
      (wpAny_getItem_list_neg (Q := fun r s' => r = w ∧ EP X pins σ Q r s') pl.isList (by omega) (by rw [List.size_toArray] <;> omega) (by omega) (by rw [hj]; simpa using ew) ⟨rfl, fin⟩) hs
theorem ix_tup : IxR X (rIxT X.K) := by
  intro value slice pins s σ H x y v u Q I rx ry h hs
  obtain ⟨p, xs, i, z, rfl, rfl, hq, he, q⟩ := h
  cases rx
  obtain ⟨t, rfl⟩ := ry
  obtain ⟨its, r, pl, hz⟩ := I.tuple hq
  obtain ⟨j, h1, h2, h3, h4, h5⟩ := atI_get he
  obtain ⟨w, ew, rw'⟩ := r.get h2
  have hl := r.length
  have hn := line63
  have fin : EP X pins σ Q w s := ⟨z, H, I, rw', q⟩
  exact subscriptTail_builtinR (x := w) pl.typeIs slot_tuple_getitem.lookup
    (getItem_tuple (j := j) (Q := fun r s' => r = w ∧ EP X pins σ Q r s') pl (by omega) (by omega) (by rw [List.size_toArray, ← hl]; exact h1) (by simpa using ew) ⟨rfl, fin⟩) hs
theorem mapSeq_set (its : List Value) (n j : Nat) (u : Value) : Obj.mapSeq (·.setIfInBounds j u) { cls := .type "list", data := .seq its.toArray n } = { cls := .type "list", data := .seq (its.set j u).toArray n } := by
  simp [Obj.mapSeq]
theorem Inv.lst {pins : List (Addr × Obj)} {σ : St} {H : Hp} {s : Shared} {p : Addr} {xs : List V} (I : Inv X pins σ H s) (h : H p = some (.lst xs)) :
    ∃ (its : List Value) (n : Nat), Vals xs its ∧ s.heap.get? p = some { cls := .type "list", data := .seq its.toArray n } ∧ xs.length ≤ sizeLine := by
  obtain ⟨z, its, n, r, e⟩ := I.hok p _ h
  exact ⟨its, n, r, e, z⟩

theorem Inv.lstUpd {pins : List (Addr × Obj)} {σ : St} {H : Hp} {s : Shared} {p : Addr} {xs ys : List V} {its its' : List Value} {n n' : Nat} {f : Obj → Obj} (I : Inv X pins σ H s) (h : H p = some (.lst xs))
    (ho : s.heap.get? p = some { cls := .type "list", data := .seq its.toArray n }) (hf : f { cls := .type "list", data := .seq its.toArray n } = { cls := .type "list", data := .seq its'.toArray n' }) (r : Vals ys its') (hz : ys.length ≤ sizeLine) (t : Nat) :
    Inv X pins σ (upd H p (.lst ys)) { s with heap := s.heap.update p f, toks := t } := by
  have e : (s.heap.update p f).get? p = some { cls := .type "list", data := .seq its'.toArray n' } := by
    rw [Heap.get?_update_self f ho (by rw [hf] <;> rfl), hf]
  refine I.write (x := p) (e := p) (by rw [h]; trivial) (.inl rfl) (fun b u hb q => (Heap.get?_update_other _ _ (Ne.symm hb)).trans q) ⟨_, e⟩ ?_
  exact ⟨hz, its', n', r, e⟩
def rSetL : V → V → V → Hp → (Hp → Prop) → Prop := fun o i v H Q => ∃ p xs k j, o = .ref p ∧ i = .int k ∧ H p = some (.lst xs) ∧ ixN xs.length k = some j ∧ Q (upd H p (.lst (xs.set j v)))
theorem set_list : PSet X rSetL := by
  intro pins s σ H o i v ov iv u Q I ro ri rv h
  obtain ⟨p, xs, k, j, rfl, rfl, hp, hj, q⟩ := h
  cases ro
  obtain ⟨t, rfl⟩ := ri
  obtain ⟨its, n, r, ho, hz⟩ := I.lst hp
  obtain ⟨h1, h2, h3, h4⟩ := ixN_seq hj
  have hl := r.length
  have hn := line63
  have I' : Inv X pins σ (upd H p (.lst (xs.set j v))) { s with heap := s.heap.update p (Obj.mapSeq (·.setIfInBounds j u)) } :=
    I.lstUpd hp ho (mapSeq_set its n j u) (r.set rv j) (by rw [List.length_set]; exact hz) s.toks
  by_cases h0 : 0 ≤ k
  · have hk : k.toNat = j := by
      rw [seqIndex_of h0 h4] at h1
      exact Option.some.inj h1
    exact PySem.W.ki_setAt ho h0 (by omega) (by rw [List.size_toArray, ← hl]; exact h4) (by rw [hk]; exact ⟨_, I', q⟩)
  · have hk : (k + (its.toArray.size : Int)).toNat = j := by
      rw [seqIndex_neg (by omega) h3] at h1
      rw [List.size_toArray, ← hl]
      exact Option.some.inj h1
    exact PySem.W.ki_setBack ho (by omega) (by rw [List.size_toArray, ← hl]; exact h3) (by omega) (by rw [hk]; exact ⟨_, I', q⟩)


def rSlL (K : PySem.W.Frag) : V → Option Int → Option Int → Hp → VK → Prop := fun x lo hi H Q => ∃ a xs, x = .ref a ∧ SqL K H a xs ∧ ∀ p, H p = none → Q (.ref p) (upd H p (.lst (cutV xs lo hi)))
def flatV : V → Bool
  | .non => true
  | .bl _ => true
  | .int _ => true
  | .str _ => true
  | _ => false

def eqV : V → V → Bool
  | .non, .non => true
  | .bl a, .bl b => a == b
  | .bl a, .int b => (if a then 1 else 0) == b
  | .int a, .bl b => a == (if b then 1 else 0)
  | .int a, .int b => a == b
  | .str a, .str b => a == b
  | _, _ => false
theorem eqAt_V {A : Around} {s : Shared} {y x : V} {u v : Value} (ry : RelV y u) (rx : RelV x v) (fy : flatV y = true) (fx : flatV x = true) : SeqAt.EqAt A s u v (eqV y x) := by
  cases y with
  | non =>
    cases ry
    cases x with
    | non => cases rx; exact SeqAt.EqAt.same _
    | bl b => cases rx; exact SeqAt.EqAt.none_bool b
    | int b => obtain ⟨t, rfl⟩ := rx; exact SeqAt.EqAt.none_int b t
    | str b => obtain ⟨t, rfl⟩ := rx; exact SeqAt.EqAt.none_str b t
    | _ => exact absurd (show false = true from fx) Bool.false_ne_true
  | bl a =>
    cases ry
    cases x with
    | non => cases rx; exact SeqAt.EqAt.bool_none a
    | bl b => cases rx; exact SeqAt.EqAt.bool_bool a b
    | int b => obtain ⟨t, rfl⟩ := rx; exact SeqAt.EqAt.bool_int a b t
    | str b => obtain ⟨t, rfl⟩ := rx; exact SeqAt.EqAt.bool_str a b t
    | _ => exact absurd (show false = true from fx) Bool.false_ne_true
  | int a =>
    obtain ⟨t', rfl⟩ := ry
    cases x with
    | non => cases rx; exact SeqAt.EqAt.int_none a t'
    | bl b => cases rx; exact SeqAt.EqAt.int_bool a t' b
    | int b => obtain ⟨t, rfl⟩ := rx; exact SeqAt.EqAt.int_int a t' b t
    | str b => obtain ⟨t, rfl⟩ := rx; exact SeqAt.EqAt.int_str a t' b t
    | _ => exact absurd (show false = true from fx) Bool.false_ne_true
  | str a =>
    obtain ⟨t', rfl⟩ := ry
    cases x with
    | non => cases rx; exact SeqAt.EqAt.str_none a t'
    | bl b => cases rx; exact SeqAt.EqAt.str_bool a t' b
    | int b => obtain ⟨t, rfl⟩ := rx; exact SeqAt.EqAt.str_int a t' b t
    | str b => obtain ⟨t, rfl⟩ := rx; exact SeqAt.EqAt.str_str a t' b t
    | _ => exact absurd (show false = true from fx) Bool.false_ne_true
  | _ => exact absurd (show false = true from fy) Bool.false_ne_true

def inV (x : V) (xs : List V) : Bool := xs.any fun y => eqV y x

def rIn (K : PySem.W.Frag) (neg : Bool) : R2 := fun x y H Q => ∃ p xs, y = .ref p ∧ (SqL K H p xs ∨ SqT K H p xs) ∧ flatV x = true ∧ xs.all flatV = true ∧ Q (.bl (if neg then !inV x xs else inV x xs)) H
theorem call_len_seq : CallR X (.builtin "len") (fun xs H Q => ∃ p ys, xs = [.ref p] ∧ (SqL X.K H p ys ∨ SqT X.K H p ys) ∧ Q (.int ys.length) H) := by
  intro pins s σ H xs us Q I r h
  obtain ⟨p, ys, rfl, hq, q⟩ := h
  obtain ⟨u, rfl, rx⟩ := vals1 r
  cases rx
  have hn := line63
  rcases hq with hq | hq
  · obtain ⟨its, r', pl, hz⟩ := I.list hq
    have hlen := r'.length
    exact Calls.call_len_list pl.isList (by simp only [List.size_toArray] <;> omega) ⟨.int ys.length, H, I.tok _, ⟨s.toks + 1, by rw [List.size_toArray, hlen]⟩, q⟩
  · obtain ⟨its, r', pl, hz⟩ := I.tuple hq
    have hlen := r'.length
    exact len_tuple pl (by simp only [List.size_toArray] <;> omega) ⟨.int ys.length, H, I.tok _, ⟨s.toks + 1, by rw [List.size_toArray, hlen]⟩, q⟩
theorem CallR.or {f : Value} {r r' : List V → Hp → VK → Prop} (h : CallR X f r) (h' : CallR X f r') : CallR X f (fun xs H Q => r xs H Q ∨ r' xs H Q) := by
  intro pins s σ H xs us Q I rs q
  rcases q with q | q
  · exact h pins s σ H xs us Q I rs q
  · exact h' pins s σ H xs us Q I rs q
theorem call_list_of : CallR X (.type "list") (fun xs H Q => ∃ p ys, xs = [.ref p] ∧ (SqL X.K H p ys ∨ SqT X.K H p ys) ∧ ∀ l, H l = none → Q (.ref l) (upd H l (.lst ys))) := by
  intro pins s σ H xs us Q I r h
  obtain ⟨p, ys, rfl, hq, q⟩ := h
  obtain ⟨u, rfl, rx⟩ := vals1 r
  cases rx
  have fin : ∀ (its : List Value), Vals ys its → ys.length ≤ sizeLine → ∀ (h' : Heap) (c' : Nat), (∀ b o', s.heap.get? b = some o' → h'.get? b = some o') →
      h'.get? s.heap.objs.size = some { cls := .type "list", dict := none, data := .seq its.toArray c', slots := #[] } → EP X pins σ Q (.ref s.heap.objs.size) { s with heap := h' } := fun its r' hz h' c' kp e =>
    ⟨.ref s.heap.objs.size, _, I.laid (t' := s.toks) kp (Nat.le_refl _) (show ObjOk X.prog X.w _ h' _ (.lst ys) from ⟨hz, its, c', r', e⟩), rfl, q _ (I.hok.fresh (Nat.le_refl _))⟩
  rcases hq with hq | hq
  · obtain ⟨its, r', pl, hz⟩ := I.list hq
    have hlen := r'.length
    obtain ⟨o, ho, hc, n, hd⟩ := pl.isList
    exact call_list_seq p (.inl rfl) ho hc hd (fun h' c' kp e => fin its r' hz h' c' kp e) (by simp only [List.size_toArray] <;> omega)
  · obtain ⟨its, r', pl, hz⟩ := I.tuple hq
    have hlen := r'.length
    obtain ⟨o, ho, hc, n, hd⟩ := pl
    exact call_list_seq p (.inr rfl) ho hc hd (fun h' c' kp e => fin its r' hz h' c' kp e) (by simp only [List.size_toArray] <;> omega)
theorem call_tuple_of : CallR X (.type "tuple") (fun xs H Q => ∃ p ys, xs = [.ref p] ∧ ((SqL X.K H p ys ∧ ∀ l, H l = none → Q (.ref l) (upd H l (.tup ys))) ∨ (SqT X.K H p ys ∧ Q (.ref p) H))) := by
  intro pins s σ H xs us Q I r h
  obtain ⟨p, ys, rfl, h⟩ := h
  obtain ⟨u, rfl, rx⟩ := vals1 r
  cases rx
  rcases h with ⟨hq, q⟩ | ⟨hq, q⟩
  · obtain ⟨its, r', pl, hz⟩ := I.list hq
    have hlen := r'.length
    refine call_tuple_list pl.isList (fun h' kp => ?_) (by simp only [List.size_toArray] <;> omega)
    have I1 : Inv X pins σ H { s with heap := h' } := I.kept (t' := s.toks) kp
    have I2 : Inv X pins σ (upd H h'.objs.size (.tup ys)) { s with heap := h'.push { cls := .type "tuple", data := .seq its.toArray } } :=
      I1.laid (t' := s.toks) (fun b o e => Heap.get?_push_of_some _ e) (Nat.le_refl _) (show ObjOk X.prog X.w _ _ _ (.tup ys) from ⟨hz, its, r', IsTup.new _ _⟩)
    exact ⟨.ref h'.objs.size, _, I2, rfl, q _ (I1.hok.fresh (Nat.le_refl _))⟩
  · obtain ⟨its, r', pl, hz⟩ := I.tuple hq
    exact call_tuple_same pl ⟨.ref p, H, I, rfl, q⟩



def tyV (K : PySem.W.Frag) (T : String) (x : V) (H : Hp) : Prop := match x with
  | .str _ => T = "str"
  | .int _ => T = "int"
  | .ref p => (T = "list" ∧ ∃ xs, SqL K H p xs) ∨ (T = "tuple" ∧ ∃ o, K.lookup p = some o ∧ o.cls = .type "tuple" ∧ o.dict = none) ∨
      (T = "dict" ∧ ((∃ kvs, H p = some (.dK kvs)) ∨ ∃ kvs, H p = some (.dT kvs))) ∨ (T = "set" ∧ ∃ S n, H p = some (.set S n))
  | _ => False
theorem tyV_is {pins : List (Addr × Obj)} {σ : St} {H : Hp} {s : Shared} {T : String} {x : V} {v : Value} (I : Inv X pins σ H s) (r : RelV x v) (ty : tyV X.K T x H) :
    s.TypeIs v T ∧ ∀ a, v = .ref a → ∃ ob, s.heap.get? a = some ob ∧ ob.dict = none := by
  cases x with
  | str z =>
    obtain ⟨t, rfl⟩ := r
    cases (show T = "str" from ty)
    exact ⟨typeIs_str s z t, fun _ e => nomatch e⟩
  | int i =>
    obtain ⟨t, rfl⟩ := r
    cases (show T = "int" from ty)
    exact ⟨typeIs_int s i t, fun _ e => nomatch e⟩
  | ref p =>
    cases r
    rcases ty with ⟨rfl, xs, hq⟩ | ⟨rfl, o, hk, hc, hd⟩ | ⟨rfl, hk⟩ | ⟨rfl, S, n, hk⟩
    · obtain ⟨its, _, pl, _⟩ := I.list hq
      refine ⟨pl.isList.typeIs, fun a e => ?_⟩
      cases e
      obtain ⟨o, n, e, c, hd, _⟩ := pl
      exact ⟨o, e, hd⟩
    · refine ⟨⟨o, I.kIn p o hk, hc⟩, fun a e => ?_⟩
      cases e
      exact ⟨o, I.kIn _ o hk, hd⟩
    · have z : ∃ o, s.heap.get? p = some o ∧ o.ExactDict := by
        rcases hk with ⟨kvs, hk⟩ | ⟨kvs, hk⟩
        · obtain ⟨_, _, _, _, o, _, _, e, ex, _⟩ := I.hok p _ hk
          exact ⟨o, e, ex⟩
        · obtain ⟨_, _, _, _, o, _, _, e, ex, _⟩ := I.hok p _ hk
          exact ⟨o, e, ex⟩
      obtain ⟨o, e, ex⟩ := z
      refine ⟨⟨o, e, ex.1⟩, fun a e2 => ?_⟩
      cases e2
      exact ⟨o, e, ex.2.1⟩
    · obtain ⟨o, _, _, _, e, ex, _⟩ := I.hok p _ hk
      refine ⟨⟨o, e, ex.1⟩, fun a e2 => ?_⟩
      cases e2
      exact ⟨o, e, ex.2.1⟩
  | _ => exact False.elim ty
def tBM0 (K : PySem.W.Frag) (T : String) (r : V → List V → Hp → VK → Prop) (to : TE) : TE := fun σ H Q => to σ H fun x H1 => tyV K T x H1 ∧ r x [] H1 Q
def tBM (K : PySem.W.Frag) (T : String) (r : V → List V → Hp → VK → Prop) (to : TE) (t : TA) : TE := fun σ H Q => to σ H fun x H1 => tyV K T x H1 ∧ t σ H1 fun xs H2 => r x xs H2 Q
variable {o e : Expr} {es : List Expr} {to : TE} {t : TA} {name : Str} {apos cpos : Pos} {T id : String} {r : V → List V → Hp → VK → Prop}
theorem pe_bm0 (pa : PlainAttrs T) (slot : Slot T name id) (hty : typeOf (.builtin id) = pure (.type "method_descriptor")) (hm : MtR X id r) (ho : PE X o to)
    (hbase : attributeBase o name X.env (eval o X.env) = eval o X.env := by rfl) (hline : (apos.endLine == cpos.line) = true := by rfl) : PE X (.Call (.Attribute o name apos) [] [] cpos) (tBM0 X.K T r to) := by
  intro pins s σ H Q I h
  refine wpAny_Call_method0_late hbase hline (thn (ho pins s σ H _ I h) fun v s1 ⟨x, H1, I1, r1, ty, q1⟩ => ?_)
  obtain ⟨h1, h2⟩ := tyV_is I1 r1 ty
  exact ⟨T, id, pa, slot, hty, h1, h2, Calls.callWith_builtin rfl (PySem.evalArgs_none (hm pins s1 σ H1 x [] v [] Q I1 r1 .nil q1))⟩
theorem pe_bm (pa : PlainAttrs T) (slot : Slot T name id) (hty : typeOf (.builtin id) = pure (.type "method_descriptor")) (hm : MtR X id r) (ho : PE X o to) (ha : PA X (e :: es) t)
    (hbase : attributeBase o name X.env (eval o X.env) = eval o X.env := by rfl)
    (hfew : ((backTo cpos (starEach (e :: es) X.env)).all (fun x => !x.1) && (backToKw cpos (keywordEach [] X.env)).all (fun x => x.1.isSome)
      && decide ((e :: es).length + ([] : List Keyword).length + (if ([] : List Keyword).isEmpty then 0 else 1) < 30)) = true := by rfl)
    (hline : (apos.endLine == cpos.line) = true := by rfl) (hs : starEach (e :: es) X.env = (false, eval e X.env) :: starEach es X.env := by rfl) (hplain : (backTo cpos (starEach es X.env)).any (·.1) = false := by rfl) :
    PE X (.Call (.Attribute o name apos) (e :: es) [] cpos) (tBM X.K T r to t) := by
  intro pins s σ H Q I h
  refine wpAny_Call_method_late hbase hfew hline rfl (thn (ho pins s σ H _ I h) fun v s1 ⟨x, H1, I1, r1, ty, q1⟩ => ?_)
  obtain ⟨h1, h2⟩ := tyV_is I1 r1 ty
  refine ⟨T, id, pa, slot, hty, h1, h2, ?_⟩
  have hA := ha cpos pins s1 σ H1 _ I1 q1
  rw [hs] at hA ⊢
  refine Calls.callWith_builtin (by show (false || (backTo cpos (starEach es X.env)).any (·.1)) = false; rw [hplain] <;> rfl) (Calls.evalArgs_plain ?_)
  exact thn hA fun us s2 ⟨vs, H2, I2, r2, q2⟩ => hm pins s2 σ H2 x vs v us Q I2 r1 r2 q2

end
end L2

namespace L2
open PySem PySem.Spec PyProof.Rows

def MtM (X : Cx) (id : String) (r : V → List V → Hp → VK → Prop) : Prop :=
  ∀ (pins : List (Addr × Obj)) (s : Shared) (σ : St) (H : Hp) (x : V) (xs : List V) (v : Value) (us : List Value) (Q : VK), Inv X pins σ H s → RelV x v → Vals xs us → r x xs H Q →
    wpAny (model X.prog X.w) X.A (call (.builtin id) (v :: us)) (EP X pins σ Q) X.xe s


theorem Vals.one : ∀ {x : V} {us : List Value}, Vals [x] us → ∃ u, us = [u] ∧ RelV x u
  | _, _, .cons r .nil => ⟨_, rfl, r⟩
theorem Vals.two : ∀ {x y : V} {us : List Value}, Vals [x, y] us → ∃ u v, us = [u, v] ∧ RelV x u ∧ RelV y v
  | _, _, _, .cons r (.cons q .nil) => ⟨_, _, rfl, r, q⟩
theorem Vals.zero : ∀ {us : List Value}, Vals [] us → us = []
  | _, .nil => rfl
theorem Vals.dropLast {xs : List V} {us : List Value} (h : Vals xs us) : Vals xs.dropLast us.dropLast := by
  induction h with
  | nil => exact .nil
  | cons r t ih =>
    cases t with
    | nil => exact .nil
    | cons q t' => exact .cons r ih
theorem Vals.eraseIdx : ∀ {xs : List V} {us : List Value} (i : Nat), Vals xs us → Vals (xs.eraseIdx i) (us.eraseIdx i)
  | _, _, _, .nil => .nil
  | _, _, 0, .cons _ t => t
  | _, _, i + 1, .cons r t => .cons r (Vals.eraseIdx i t)
theorem Vals.reverse {xs : List V} {us : List Value} (h : Vals xs us) : Vals xs.reverse us.reverse := by
  induction h with
  | nil => exact .nil
  | cons r t ih => rw [List.reverse_cons, List.reverse_cons]; exact Vals.append ih (.cons r .nil)
theorem Vals.rep {xs : List V} {us : List Value} (h : Vals xs us) : ∀ k : Nat, Vals (List.replicate k xs).flatten (List.replicate k us).flatten
  | 0 => .nil
  | k + 1 => by
    rw [List.replicate_succ, List.replicate_succ, List.flatten_cons, List.flatten_cons]
    exact Vals.append h (Vals.rep h k)
theorem erase_last {α : Type} (l : List α) : l.eraseIdx (l.length - 1) = l.dropLast := by
  induction l with
  | nil => rfl
  | cons a r ih =>
    cases r with
    | nil => rfl
    | cons b r =>
      have e : (a :: b :: r).length - 1 = ((b :: r).length - 1) + 1 := by
        have h1 : (a :: b :: r).length = r.length + 2 := rfl
        have h2 : (b :: r).length = r.length + 1 := rfl
        omega
      rw [e, List.eraseIdx_cons_succ, ih]
      all_goals rfl
theorem foldl_rep (its : List Value) : ∀ (k : Nat) (acc : List Value),
    List.foldl (fun x1 x2 => x1 ++ x2) acc.toArray (List.replicate k its.toArray) = (acc ++ (List.replicate k its).flatten).toArray
  | 0, acc => by simp
  | k + 1, acc => by
    have e : acc.toArray ++ its.toArray = (acc ++ its).toArray := by simp
    have e2 : (acc ++ its) ++ (List.replicate k its).flatten = acc ++ (List.replicate (k + 1) its).flatten := by
      rw [List.replicate_succ, List.flatten_cons, List.append_assoc]
    rw [← e2, ← foldl_rep its k (acc ++ its), ← e, List.replicate_succ, List.foldl_cons]

section
variable {X : Cx} {pins : List (Addr × Obj)} {σ : St} {H : Hp} {s : Shared} {l b : Addr} {xs ys zs : List V}


theorem Inv.lset {its its' : List Value} {n : Nat} {f : Array Value → Array Value} {t' : Nat} (I : Inv X pins σ H s) (hH : H l = some (.lst xs))
    (e : s.heap.get? l = some { cls := .type "list", data := .seq its.toArray n }) (hf : f its.toArray = its'.toArray) (hv : Vals ys its') (hz : ys.length ≤ sizeLine) :
    Inv X pins σ (upd H l (.lst ys)) { s with heap := s.heap.update l (Obj.mapSeq f), toks := t' } := by
  have q := PySem.IsL.update e f
  rw [hf] at q
  refine I.write (x := l) (e := l) (by rw [hH]; exact trivial) (.inl rfl) (fun b' u hb hu => (Heap.get?_update_other s.heap (Obj.mapSeq f) (Ne.symm hb)).trans hu) ⟨_, q⟩ ?_
  exact ⟨hz, its', _, hv, q⟩
theorem Inv.lnew {its : List Value} {t' : Nat} (I : Inv X pins σ H s) (hv : Vals ys its) (hz : ys.length ≤ sizeLine) :
    Inv X pins σ (upd H s.heap.objs.size (.lst ys)) { s with heap := s.heap.push { cls := .type "list", data := .seq its.toArray }, toks := t' } :=
  I.laid (fun _ _ q => Heap.get?_push_of_some _ q) (Nat.le_refl _) ⟨hz, its, 0, hv, Heap.get?_push_size _ rfl⟩
theorem Inv.fresh (I : Inv X pins σ H s) : H s.heap.objs.size = none := I.hok.fresh (Nat.le_refl _)
theorem Inv.lstM (I : Inv X pins σ H s) (hH : H l = some (.lst xs)) : xs.length ≤ sizeLine ∧ ∃ (its : List Value) (n : Nat), Vals xs its ∧ xs.length = its.length ∧ s.heap.get? l = some { cls := .type "list", data := .seq its.toArray n } := by
  obtain ⟨z, its, n, r, e⟩ := I.hok l _ hH
  exact ⟨z, its, n, r, r.length, e⟩

theorem notLongL {n : Nat} (h : n ≤ sizeLine) : Builtin.List.listTooLong n = false := by
  unfold Builtin.List.listTooLong
  exact decide_eq_false (by omega)
end

section
variable {X : Cx}


def rAppend : V → List V → Hp → VK → Prop := fun x vs H Q => ∃ l xs y, x = .ref l ∧ vs = [y] ∧ H l = some (.lst xs) ∧ xs.length < sizeLine ∧ Q .non (upd H l (.lst (xs ++ [y])))
theorem mt_append : MtM X "list.append" rAppend := by
  intro pins s σ H x vs v us Q I rx rv h
  obtain ⟨l, xs, y, rfl, rfl, hH, hz, q⟩ := h
  cases rx
  obtain ⟨u, rfl, ru⟩ := rv.one
  obtain ⟨z, its, n, r, hl, e⟩ := I.lstM hH
  refine call_meets F.slot_list_append ⟨_, e, rfl⟩ F.entry_list_append (F.args_list_append_2 _ _) (PySem.list_append l its.toArray n u (by rw [List.size_toArray]; omega)) ⟨e, ?_⟩
  refine ⟨.non, _, I.lset (its' := its ++ [u]) hH e (by simp) (r.append (.cons ru .nil)) ?_, rfl, q⟩
  rw [List.length_append, List.length_singleton]
  omega

def rExtend : V → List V → Hp → VK → Prop := fun x vs H Q => ∃ l b xs zs, x = .ref l ∧ vs = [.ref b] ∧ H l = some (.lst xs) ∧ H b = some (.lst zs) ∧ xs.length + zs.length ≤ sizeLine ∧ Q .non (upd H l (.lst (xs ++ zs)))
def rPop : V → List V → Hp → VK → Prop := fun x vs H Q => ∃ l xs y, x = .ref l ∧ vs = [] ∧ H l = some (.lst xs) ∧ xs[xs.length - 1]? = some y ∧ Q y (upd H l (.lst xs.dropLast))
theorem mt_pop : MtM X "list.pop" rPop := by
  intro pins s σ H x vs v us Q I rx rv h
  obtain ⟨l, xs, y, rfl, rfl, hH, hy, q⟩ := h
  cases rx
  have hus := rv.zero
  subst hus
  obtain ⟨z, its, n, r, hl, e⟩ := I.lstM hH
  obtain ⟨u, hu, ru⟩ := r.get hy
  have hy' : its.toArray[its.toArray.size - 1]? = some u := by
    show its.toArray[its.length - 1]? = some u
    rw [← Array.getElem?_toList, ← hl]
    exact hu
  refine call_meets F.slot_list_pop ⟨_, e, rfl⟩ F.entry_list_pop (F.args_list_pop_1 _) (MeetsSeq.list_pop_last l its.toArray n u hy' (by rw [List.size_toArray]; omega)) ⟨e, ?_⟩
  refine ⟨y, _, I.lset (its' := its.dropLast) hH e ?_ r.dropLast ?_, ru, q⟩
  · show its.toArray.eraseIdxIfInBounds (its.toArray.size - 1) = its.dropLast.toArray
    rw [List.size_toArray, List.eraseIdxIfInBounds_toArray, erase_last]
  · rw [List.length_dropLast]
    omega

def rPopAt : V → List V → Hp → VK → Prop := fun x vs H Q => ∃ l xs i k y, x = .ref l ∧ vs = [.int i] ∧ H l = some (.lst xs) ∧ -(2 ^ 63) ≤ i ∧ i < 2 ^ 63 ∧ seqIndex? i xs.length = some k ∧ xs[k]? = some y ∧ Q y (upd H l (.lst (xs.eraseIdx k)))
def rCat : R2 := fun x y H Q => ∃ l b xs zs, x = .ref l ∧ y = .ref b ∧ H l = some (.lst xs) ∧ H b = some (.lst zs) ∧ xs.length + zs.length ≤ sizeLine ∧ ∀ p, H p = none → Q (.ref p) (upd H p (.lst (xs ++ zs)))
def rRep : R2 := fun x y H Q => ∃ l k xs, x = .ref l ∧ y = .int k ∧ H l = some (.lst xs) ∧ -(2 ^ 63) ≤ k ∧ k < 2 ^ 63 ∧ xs.length * k.toNat ≤ sizeLine ∧
  ∀ p, H p = none → Q (.ref p) (upd H p (.lst (List.replicate k.toNat xs).flatten))
theorem len_rep {α : Type} (xs : List α) (k : Nat) : (List.replicate k xs).flatten.length = k * xs.length := by
  induction k with
  | zero => simp
  | succ k ih => rw [List.replicate_succ, List.flatten_cons, List.length_append, ih, Nat.succ_mul, Nat.add_comm]
theorem op_rep : OpR X (binaryOp .Mult) rRep := by
  intro pins s σ H x y v u Q I rx ry h
  obtain ⟨l, k, xs, rfl, rfl, hH, h1, h2, hz, q⟩ := h
  cases rx
  obtain ⟨t, rfl⟩ := ry
  obtain ⟨z, its, n, r, hl, e⟩ := I.lstM hH
  have hlen : its.toArray.size * k.toNat ≤ sizeLine := by rw [List.size_toArray, ← hl]; exact hz
  have hcap : ¬ its.toArray.size * k.toNat > (2 ^ 63 - 1) / 8 := by
    have : (sizeLine : Nat) ≤ (2 ^ 63 - 1) / 8 := by decide
    omega
  have hfit : ¬ (!Builtin.List.listFitsIndex k) = true := by
    rw [fitsIndex_both h1 h2]
    exact Bool.false_ne_true
  have hlong : ¬ Builtin.List.listTooLong (its.toArray.size * k.toNat) = true := by
    rw [notLongL hlen]
    exact Bool.false_ne_true
  have hnew : List.foldl (fun x1 x2 => x1 ++ x2) #[] (List.replicate (if its.toArray.isEmpty = true then 0 else k.toNat) its.toArray) = (List.replicate k.toNat its).flatten.toArray := by
    have f0 : ∀ m : Nat, List.foldl (fun x1 x2 => x1 ++ x2) #[] (List.replicate m its.toArray) = (List.replicate m its).flatten.toArray := fun m => by
      have := foldl_rep its m []
      rw [List.nil_append] at this
      exact this
    rw [f0]
    cases its with
    | nil => simp
    | cons a r' => rw [if_neg (by simp)]
  refine wpAny_binaryOp_repeat_ref (T := "list") (U := "int") (by decide) ⟨_, e, rfl⟩ (fun s' => typeIs_int s' k t) noFill_list_mul F.fills_int_mul F.slot_int_rmul repeat_list F.slot_int_index.lookup
    (call_meets F.slot_int_rmul (typeIs_int s k t) F.entry_int_rmul (F.args_int_rmul_2 _ _) (int___rmul___int_list k t l its.toArray n)
      ⟨e, rfl, ⟨_, e, rfl⟩, call_meets F.slot_list_mul ⟨_, e, rfl⟩ F.entry_list_mul (F.args_list_mul_2 _ _) (AutoListH.list___mul___list_int_3 l its.toArray n k t hfit hcap hlong) ⟨e, ?_⟩⟩)
  rw [hnew]
  exact ⟨.ref _, _, I.lnew (t' := s.toks) (r.rep k.toNat) (by rw [len_rep, Nat.mul_comm]; exact hz), rfl, q _ I.fresh⟩


end


section
variable {prog : Program} {w : World} {A : Around} {E : Value → Shared → Prop} {s : Shared}
end

section
variable {X : Cx}

end
end L2

namespace Att
open PySem PySem.W PySem.Calls PyProof.Rows


theorem ints_of_wellAll {P : Params} {h : Heap} : ∀ (ns : List Int) (vs : List Value), WellAll P h vs (ns.map WData.int) → IntsAre vs ns := by
  intro ns
  induction ns with
  | nil =>
    intro vs w
    rw [List.map_nil] at w
    cases w
    exact .nil
  | cons n ns ih =>
    intro vs w
    rw [List.map_cons] at w
    cases w with
    | cons a b =>
      cases a
      exact .cons _ _ (ih _ b)

theorem script_of {l : OpenLaw} {n : Nat} (hn : l.most = some n) {P : Params} {h : Heap} {args : List WData} {vals : List Value}
    (hpre : l.row.toRowW.claim.pre args = true) (hwl : WellAll P h vals args) :
    ∃ a vs ns, vals = [Value.ref a] ∧ args = [WData.list (ns.map WData.int)] ∧ h.get? a = some { cls := .type "list", data := .seq vs.toArray } ∧ IntsAre vs ns ∧ ns.length ≤ n := by
  have hsh : WShape.hasAll [] args [.list .int] = true := (pre_splitW hpre).1
  have hc : l.pre.holds [] { args := args } = true := (pre_splitW hpre).2
  obtain ⟨d, r, rfl, h1, h2⟩ := hasAllW_cons hsh
  obtain rfl := hasAllW_nil h2
  obtain ⟨xs, rfl, h3⟩ := hasW_list h1
  obtain ⟨ns, rfl⟩ := items_int h3
  have hlen : ns.length ≤ n := by
    unfold OpenLaw.pre at hc
    have h4 : (WTm.not (.lt (.lit (.int (n : Int))) (.len (.arg 0)))).holds [] { args := [.list (ns.map .int)] } = true := by
      have h4 := (holds_andW hc).1
      rw [hn] at h4
      exact h4
    have h5 := condW_of h4 (w_not (w_lt w_lit (w_len_list (w_arg rfl))))
    rw [List.length_map] at h5
    refine Nat.le_of_not_lt fun q => ?_
    have q' : (n : Int) < ((ns.length : Nat) : Int) := by omega
    first
      | (rw [decide_eq_true q'] at h5; exact absurd h5 (by decide))
      | (simp at h5; omega)
  cases hwl with
  | cons w1 w2 =>
    cases w2
    cases w1 with
    | list ho hall => exact ⟨_, _, ns, rfl, rfl, ho, ints_of_wellAll ns _ hall, hlen⟩

theorem post_true (l : OpenLaw) (args : List WData) : l.row.toRowW.claim.post args (.bool true) args = true :=
  postW_of (r := l.row.toRowW) (X := (true == true))
    (show WShape.has [] (.bool true) .bool = true by first | rfl | decide | simp [WShape.has, WShape.arms, WShape.armsAll])
    (show (WTm.eq .res (.lit (.bool true))).value [] { args := args, res := some (.bool true), after := args } = some (.bool (true == true)) from w_eq_bool (w_res rfl) w_lit) rfl


theorem attach_call {l : OpenLaw} {n : Nat} {q : Program} {loose : List Str} {XP : (Str → Option Value) → Heap → Prop} {YP : World → Heap → Prop} {d : DefRec}
    (hn : l.most = some n) (hdf : d.params.defaults = [])
    (call : ∀ (w : World) (s₀ s₁ : Shared) (mg mb : Str → Option Value) (fa : Addr) (o : Obj) (pm cd doc : Value) (a : Addr) (vs : List Value) (ns : List Int),
      Ground q loose [] XP w s₀ mg mb s₁.heap → YP w s₁.heap →
      s₁.heap.get? fa = some o → o.data = .func (docDef d.name d.params d.body d.scope pm cd doc) → s₁.heap.CodeRec cd d.name → mg d.name = some (.ref fa) →
      s₁.heap.get? a = some { cls := .type "list", data := .seq vs.toArray } → IntsAre vs ns → ns.length ≤ n → s₁.gens = #[] →
      codeAny (model l.prog w) callerA (.call (.ref fa) ⟨[.ref a], []⟩) (fun r s' => r = .ok (.ret (.bool true)) ∧ OldK s₁.heap s'.heap ∧ s'.os = s₁.os ∧ AllBare s'.gens) s₁) :
    WalkO q loose XP YP l.row.toRowW d [] (fun f vs => PySem.call f vs) := by
  intro w s₀ s₁ mg mb G Y fa o pm cd doc dV kV ho hd hcd hD hmg hg args vals as hpre hlay hrd hwl hlo
  obtain rfl : dV = .none := Dflts.none hD hdf
  obtain rfl : kV = .none := Dflts.noKw hD
  obtain ⟨a, vs, ns, rfl, rfl, hobj, hints, hlen⟩ := script_of hn hpre hwl
  refine enter_call (codeAny_mono (call w s₀ s₁ mg mb fa o pm cd doc a vs ns G Y ho (fd_plain hd) hcd hmg hobj hints hlen hg) fun r s' hq => ?_)
  obtain ⟨rfl, h2, h3, h4⟩ := hq
  exact ⟨.inl ⟨.bool true, .bool true, [], rfl, fun _ => rfl, .bool true, post_true l _, fun _ => ⟨List.Pairwise.nil, fun _ hm => (nomatch hm)⟩⟩, h2, h3, h4⟩


section
variable {prog : Program} {w : World} {A : Around} {E : Value → Shared → Prop} {s : Shared} {K : Frag}


end
end Att

namespace L2
open PySem PySem.Spec PyProof.Rows

theorem vals_ints : ∀ {vs : List Value} {ns : List Int}, IntsAre vs ns → Vals (ns.map V.int) vs
  | _, _, .nil => .nil
  | _, _, .cons n t h => .cons ⟨t, rfl⟩ (vals_ints h)


def Only (H : Hp) : Prop := ∀ b, H b = none ∨ ∃ o xs, H b = some (.frz o (.lst xs))


theorem law_call {P : Program} {w : World} {K : PySem.W.Frag} {mg mb : Str → Option Value} {CX : CXT} {k : Nat} {fa a : Addr} {fd : FuncData} {x : Str} {sp : Sp} {s₁ : Shared} {vs : List Value} {ns : List Int}
    (KX : K.In s₁.heap) (hns : s₁.heap.Ns mainGlobals mg) (hb : s₁.heap.Ns builtinsNs mb) (hbb : ∀ x : Str, x ≠ "__name__" → mb x = bootBuiltins x) (hlim : s₁.heap.NoLimit) (hg : s₁.gens = #[])
    (ha : s₁.heap.get? a = some { cls := .type "list", data := .seq vs.toArray }) (hi : IntsAre vs ns) (hl : ns.length ≤ sizeLine) (hr : Room k callerA)
    (F : ∀ base : Heap, K.In base → base.Ns mainGlobals mg → FnOk P w K mg base CX k fa fd [x] sp) (hbind : ∀ (s : Shared) (u : Value), BindsTo s fd ⟨[u], []⟩ [(x, u)])
    (hsp : ∀ H : Hp, Only H → SqL K H a (ns.map V.int) → sp [.ref a] H (fun v _ => v = .bl true) fun _ _ _ => False)
    (hCX : ∀ H e s', CX [] H s₁ (fun _ _ _ => False) e s' → False) :
    codeAny (model P w) callerA (.call (.ref fa) ⟨[.ref a], []⟩) (fun r s' => r = .ok (.ret (.bool true)) ∧ OldK s₁.heap s'.heap ∧ s'.os = s₁.os ∧ AllBare s'.gens) s₁ := by
  have rv := vals_ints hi
  have lenV := hi.length
  -- from an abstract heap in which nothing but the script may be tracked
  have core : ∀ H : Hp, Only H → SqL K H a (ns.map V.int) → HOk P w H s₁.heap → (∀ b, H b ≠ none → b = a) → (H a ≠ none → K.lookup a = none) →
      codeAny (model P w) callerA (.call (.ref fa) ⟨[.ref a], []⟩) (fun r s' => r = .ok (.ret (.bool true)) ∧ OldK s₁.heap s'.heap ∧ s'.os = s₁.os ∧ AllBare s'.gens) s₁ := by
    intro H hO hS hok hA hK
    have base_of : ∀ {b : Addr} {o : Obj}, s₁.heap.get? b = some o → H b = none → (hidT s₁.heap H).get? b = some o := fun e n => hidT_get e n
    have noA : ∀ {b : Addr} {o : Obj} {es : Array DictEntry} {ep : Nat}, s₁.heap.get? b = some o → o.data = .dict es ep → H b = none := fun {b o es ep} e d => by
      cases q : H b with
      | none => rfl
      | some u =>
        have e' : b = a := hA b (by rw [q]; simp)
        subst e'
        rw [ha] at e; cases e
        have d' : Data.seq vs.toArray _ = Data.dict es ep := d
        cases d'
    have nsK : ∀ {b : Addr} {m : Str → Option Value}, s₁.heap.Ns b m → (hidT s₁.heap H).Ns b m := fun {b m} ⟨o, es, ep, e, d, r⟩ => ⟨o, es, ep, base_of e (noA e d), d, r⟩
    have hKb : K.In (hidT s₁.heap H) := fun b o e => base_of (KX b o e) (by
      cases q : H b with
      | none => rfl
      | some u =>
        have e' : b = a := hA b (by rw [q]; simp)
        subst e'
        rw [hK (by rw [q]; simp)] at e; cases e)
    have hM : Mod K mg (hidT s₁.heap H) := ⟨hKb, nsK hns, ⟨mb, nsK hb, hbb⟩, let ⟨mc, h1, h2⟩ := hlim; ⟨mc, nsK h1, h2⟩⟩
    have e0 : Env0 P w K mg (hidT s₁.heap H) callerA [] s₁ H := ⟨rfl, hM, fun b o e => of_hidT e, Nat.le_of_eq (hidT_size _ _), trivial, fun b hb => absurd (show b ∈ ([] : List Addr) from hb) (by simp), hok, .of_eq hg⟩
    refine codeAny_mono ((F _ hKb (nsK hns)).run callerA [] s₁ H ⟨[.ref a], []⟩ [.ref a] [.ref a] _ _ hr e0 (hbind s₁ (.ref a)) (.cons rfl .nil) (hsp H hO hS)) fun r s' h => ?_
    cases r with
    | error e => exact (hCX H e s' h).elim
    | ok fl =>
      cases fl with
      | next => exact False.elim h
      | brk => exact False.elim h
      | cont => exact False.elim h
      | ret u =>
        obtain ⟨v, H', os, bare, un, hok', r', q⟩ := h
        have q' : v = .bl true := q
        subst q'
        obtain rfl : u = Value.bool true := r'
        refine ⟨rfl, OldK.of_keep fun b o e => ?_, os, bare⟩
        cases q : H b with
        | none => exact un.keep b o e q (by intro z; exact absurd (show b ∈ ([] : List Addr) from z) (by simp)) (by simp)
        | some u =>
          rcases hO b with z | ⟨ob, xs, z⟩
          · rw [q] at z; cases z
          · have z2 := un.frzs b ob _ z
            obtain ⟨e1, _⟩ := hok b _ z
            obtain ⟨e2, _⟩ := hok' b _ z2
            rw [e] at e1; cases e1
            exact e2
  cases hk : K.lookup a with
  | some o =>
    -- the script is one of the module's own objects
    have e := KX a o hk
    rw [ha] at e
    cases e
    refine core (fun _ => none) (fun _ => .inl rfl) (.inr ⟨_, vs.toArray, _, hk, rfl, rfl, rfl, by rw [List.size_toArray, lenV]; exact hl, by simpa using rv⟩) (fun b u z => by have z' : (none : Option HO) = some u := z; cases z') (fun b z => absurd rfl z) fun z => absurd rfl z
  | none =>
    refine core (fun b => if b = a then some (.frz { cls := .type "list", data := .seq vs.toArray } (.lst (ns.map V.int))) else none) (fun b => ?_) (.inl (.inr ⟨{ cls := .type "list", data := .seq vs.toArray }, if_pos rfl⟩)) (fun b u z => ?_) (fun b z => ?_) fun _ => hk
    · by_cases hb : b = a
      · exact .inr ⟨_, _, if_pos hb⟩
      · exact .inl (if_neg hb)
    · by_cases hb : b = a
      · have z' := (if_pos hb).symm.trans z
        cases z'
        subst hb
        exact ⟨ha, by rw [List.length_map]; exact hl, vs, _, rv, ha⟩
      · have z' := (if_neg hb).symm.trans z
        cases z'
    · by_cases hb : b = a
      · exact hb
      · exact absurd (if_neg hb) z
end L2

namespace L2
open PySem PySem.Spec PyProof.Rows

theorem walk_of {l : PySem.W.OpenLaw} {n k : Nat} {q : Program} {loose : List Str} {XP : (Str → Option Value) → Heap → Prop} {YP : World → Heap → Prop} {d : DefRec} {K : Params → PySem.W.Frag} {CX : World → CXT} {sp : World → Sp} {x : Str}
    (hn : l.most = some n) (hn2 : n ≤ sizeLine) (hdf : d.params.defaults = []) (hr : Room k callerA)
    (hY : ∀ (w : World) (h : Heap), YP w h → (K w.params).In h)
    (F : ∀ (w : World) (mg : Str → Option Value) (fa : Addr) (h : Heap), (K w.params).In h → h.Ns mainGlobals mg → mg d.name = some (.ref fa) →
      ∃ fd : FuncData, (∀ (s : Shared) (u : Value), BindsTo s fd ⟨[u], []⟩ [(x, u)]) ∧
        ∀ base : Heap, (K w.params).In base → base.Ns mainGlobals mg → FnOk l.prog w (K w.params) mg base (CX w) k fa fd [x] (sp w))
    (hsp : ∀ (w : World) (H : Hp) (a : Addr) (ns : List Int), ns.length ≤ n → Only H → SqL (K w.params) H a (ns.map V.int) → sp w [.ref a] H (fun v _ => v = .bl true) fun _ _ _ => False)
    (hCX : ∀ (w : World) (H : Hp) (s : Shared) (e : Value) (s' : Shared), CX w [] H s (fun _ _ _ => False) e s' → False) :
    PySem.W.WalkO q loose XP YP l.row.toRowW d [] (fun f vs => PySem.call f vs) := by
  refine Att.attach_call hn hdf fun w s₀ s₁ mg mb fa o pm cd doc a vs ns G Y ho hd hcd hmg hobj hints hlen hg => ?_
  have KX := hY w _ Y
  obtain ⟨fd, hb, hF⟩ := F w mg fa _ KX G.T.g hmg
  exact law_call KX G.T.g G.T.b G.T.builtins G.T.nolimit hg hobj hints (Nat.le_trans hlen hn2) hr hF hb (fun H hO hS => hsp w H a ns hlen hO hS) fun H e s' => hCX w H s₁ e s'

end L2




namespace L2
open PySem PySem.Spec PyProof.Rows



def defArgs (s : Stmt) : Arguments := match s with
  | .FunctionDef _ a _ _ _ _ _ _ _ _ => a
  | _ => { posonlyargs := [], args := [], vararg := none, kwonlyargs := [], kw_defaults := [], kwarg := none, defaults := [] }
def defBody (s : Stmt) : List Stmt := match s with
  | .FunctionDef _ _ b _ _ _ _ _ _ _ => b
  | _ => []
def defScope (s : Stmt) : Scope := match s with
  | .FunctionDef _ _ _ _ _ _ sc _ _ _ => sc
  | _ => { kind := .function, names := [], isGenerator := false, isCoroutine := false }


abbrev CX0 : CXT := fun _ _ _ _ _ _ => False
abbrev E0 : XK := fun _ _ _ => False
structure Fun (K : PySem.W.Frag) (x qual : Str) (st : Stmt) (f : Addr) (fd : FuncData) : Prop where
  ex : ∃ (oc : Value) (od : Option Addr) (kV doc pm : Value) (an : Option Addr) (cdv ct : Value) (osl : Array (Option Value)),
    fd = PySem.W.fnOf x qual (defArgs st) (defBody st) (defScope st) .none kV doc pm an cdv ct ∧ K.lookup f = some ⟨oc, od, .func fd, osl⟩ ∧ PySem.W.codeIn K cdv qual = true
  kp : PySem.W.keepIn K (.ref f) = true
section
variable {P : Program} {w : World} {K : PySem.W.Frag} {mg : Str → Option Value} {base : Heap}

theorem Fun.ok {x qual : Str} {st : Stmt} {f : Addr} {fd : FuncData} {N ps : List Str} {k : Nat} {sp : Sp} (F : Fun K x qual st f fd) (S : FnScope N ps (defScope st)) (len : ∀ vs H Q E, sp vs H Q E → vs.length = ps.length)
    (hbody : ∀ (cdv : Value) (A : Around) (outer : List Env) (s : Shared) (H : Hp) (vs : List V) (Q : VK) (E : XK), Room k (A.deeper (envOfC qual (defScope st) s.heap.objs.size f cdv)) → sp vs H Q E →
      ∃ t, PSs (cxOf CX0 P w K mg base N qual (defScope st) f cdv A outer s H E).nox (defBody st) t ∧ t { nx := fun _ H' => Q .non H', rt := Q } (start N vs) H) : FnOk P w K mg base CX0 (k + 1) f fd ps sp := by
  obtain ⟨oc, od, kV, doc, pm, an, cdv, ct, osl, rfl, lk, hcd⟩ := F.ex
  refine fn_of lk hcd S len fun A outer s H vs Q E hr hsp => ?_
  obtain ⟨t, h, q⟩ := hbody cdv A outer s H vs Q E hr hsp
  exact ⟨t, h.nox, q⟩

theorem Fun.binds {x qual : Str} {st : Stmt} {f : Addr} {fd : FuncData} {ps : List Str} (F : Fun K x qual st f fd)
    (h : ∀ (kV doc pm : Value) (an : Option Addr) (cdv ct : Value) (us : List Value), us.length = ps.length → bindArgs (PySem.W.fnOf x qual (defArgs st) (defBody st) (defScope st) .none kV doc pm an cdv ct) ⟨us, []⟩ = pure (ps.zip us)) : Binds K fd ps [] := by
  obtain ⟨oc, od, kV, doc, pm, an, cdv, ct, osl, rfl, lk, hcd⟩ := F.ex
  exact .all (h kV doc pm an cdv ct)
theorem fun_mk {x qual : Str} {st : Stmt} {f : Addr} {oc : Value} {od an : Option Addr} {osl : Array (Option Value)} {kV doc pm cdv ct : Value} (l : K.lookup f = some ⟨oc, od, .func (PySem.W.fnOf x qual (defArgs st) (defBody st) (defScope st) .none kV doc pm an cdv ct), osl⟩)
    (c : PySem.W.codeIn K cdv qual = true) (k : PySem.W.keepIn K (.ref f) = true) : Fun K x qual st f (PySem.W.fnOf x qual (defArgs st) (defBody st) (defScope st) .none kV doc pm an cdv ct) := ⟨⟨oc, od, kV, doc, pm, an, cdv, ct, osl, rfl, l, c⟩, k⟩
end
section
variable {X : Cx}
theorem pv (i : Nat) {x : Str} {pos : Pos} (hN : X.N[i]? = some x := by rfl) (hv : Vis X.env.scope x := by first | exact Or.inl rfl | exact Or.inr (Or.inl rfl) | exact Or.inr (Or.inr rfl)) (hd : (x == ("__debug__" : Str)) = false := by decide)
    (hcd : (x == ("__classdict__" : Str)) = false := by decide) : PE X (.Name x pos) (tVar i) := pe_var hN hv hd hcd
end


theorem iteT {A B : Prop} (h : A) : if true = true then A else B := by
  rw [if_pos rfl]
  exact h
theorem ite2 {c A B : Prop} [Decidable c] (h1 : c → A) (h2 : ¬ c → B) : if c then A else B := by
  by_cases h : c
  · rw [if_pos h]
    exact h1 h
  · rw [if_neg h]
    exact h2 h
def Same (H H' : Hp) : Prop := ∀ b o, H b = some o → H' b = some o
theorem Same.refl (H : Hp) : Same H H := fun _ _ h => h
theorem Same.trans {H H1 H2 : Hp} (a : Same H H1) (b : Same H1 H2) : Same H H2 := fun c o h => b c o (a c o h)
theorem Same.free {H H' : Hp} (e : Same H H') {l : Addr} (h : H' l = Option.none) : H l = Option.none := by
  cases q : H l with
  | none => rfl
  | some o =>
    rw [e l o q] at h
    cases h
theorem Same.seq {K : PySem.W.Frag} {H H' : Hp} {a : Addr} {xs : List V} (e : Same H H') (h : SqL K H a xs) : SqL K H' a xs := by
  rcases h with (h | ⟨o, h⟩) | h
  · exact .inl (.inl (e _ _ h))
  · exact .inl (.inr ⟨o, e _ _ h⟩)
  · exact .inr h

end L2


set_option Elab.async false
set_option linter.all false
set_option maxRecDepth 100000
set_option maxHeartbeats 1000000
namespace L2
open PySem PySem.Spec PyProof.Rows


theorem closure_in {env : Env} : ∀ (names : List (Str × NameKind)) (cs0 : List (Str × Addr)), (∀ y ∈ names, y.2 = .free → ∃ c, env.cells.lookup y.1 = some c) →
    ∃ cl, (forIn names cs0 (fun (x : Str × NameKind) r => (do
      match x with
      | (name, kind) => if (kind == NameKind.free) = true then do let a ← cellOf env name; pure (ForInStep.yield ((name, a) :: r)) else pure (ForInStep.yield r)) : _ → _ → Sem (ForInStep (List (Str × Addr))))) = pure cl ∧
      (∀ p ∈ cl, p ∈ cs0 ∨ env.cells.lookup p.1 = some p.2) ∧ (∀ p ∈ cs0, p ∈ cl) ∧ (∀ y ∈ names, y.2 = .free → ∃ c, (y.1, c) ∈ cl)
  | [], cs0, _ => ⟨cs0, rfl, fun p h => .inl h, fun p h => h, fun y h => by cases h⟩
  | (n, k) :: r, cs0, h => by
    by_cases hk : k = .free
    · subst hk
      obtain ⟨c, hc⟩ := h (n, .free) (.head _) rfl
      obtain ⟨cl, e, h1, h2, h3⟩ := closure_in r ((n, c) :: cs0) fun y hy => h y (.tail _ hy)
      refine ⟨cl, ?_, fun p hp => ?_, fun p hp => h2 p (.tail _ hp), fun y hy hf => ?_⟩
      · rw [List.forIn_cons]
        have e1 : cellOf env n = pure c := by unfold cellOf; rw [hc]
        simp only [beq_self_eq_true, if_true, e1, pure_bind]
        exact e
      · rcases h1 p hp with q | q
        · rcases List.mem_cons.mp q with q | q
          · subst q; exact .inr hc
          · exact .inl q
        · exact .inr q
      · rcases List.mem_cons.mp hy with q | q
        · subst q; exact ⟨c, h2 _ (.head _)⟩
        · exact h3 y q hf
    · obtain ⟨cl, e, h1, h2, h3⟩ := closure_in r cs0 fun y hy => h y (.tail _ hy)
      refine ⟨cl, ?_, h1, h2, fun y hy hf => ?_⟩
      · rw [List.forIn_cons]
        have e1 : (k == NameKind.free) = false := by cases k <;> first | rfl | exact absurd rfl hk
        simp only [e1, Bool.false_eq_true, if_false, pure_bind]
        exact e
      · rcases List.mem_cons.mp hy with q | q
        · subst q; exact absurd hf hk
        · exact h3 y q hf
theorem closure_of {env : Env} {scope : Scope} (h : ∀ y ∈ scope.names, y.2 = .free → ∃ c, env.cells.lookup y.1 = some c) :
    ∃ cl, closureFor scope env = pure cl ∧ (∀ x c, cl.lookup x = some c → env.cells.lookup x = some c) ∧ (∀ y ∈ scope.names, y.2 = .free → ∃ c, cl.lookup y.1 = some c ∧ env.cells.lookup y.1 = some c) := by
  obtain ⟨cl, e, h1, h2, h3⟩ := closure_in (env := env) scope.names [] h
  have up : ∀ x c, cl.lookup x = some c → env.cells.lookup x = some c := fun x c q => by
    rcases h1 _ (PySem.mem_of_lookup q) with z | z
    · cases z
    · exact z
  refine ⟨cl, ?_, up, fun y hy hf => ?_⟩
  · unfold closureFor
    simp only [bind_pure_comp] at e ⊢
    rw [e]
    exact pure_bind _ _
  · obtain ⟨c, hc⟩ := h3 y hy hf
    cases q : cl.lookup y.1 with
    | none => exact absurd (List.lookup_eq_none_iff.mp q _ hc) (by simp)
    | some c' => exact ⟨c', rfl, up _ _ q⟩


def compOk (around scope : Scope) : Bool :=
  scope.kind == .function && around.kind == .function && scope.names.all fun y => match y.2 with
    | .local => scope.names.lookup y.1 == some .local
    | .cell => false
    | .free => (scope.names.lookup y.1 == some .free) && (around.names.lookup y.1 == some .cell || around.names.lookup y.1 == some .free)
    | _ => true
theorem compOk_kind {a s : Scope} (h : compOk a s = true) : s.kind = .function := by
  simp only [compOk, Bool.and_eq_true, beq_iff_eq] at h; exact h.1.1
theorem compOk_at {a s : Scope} (h : compOk a s = true) {y : Str × NameKind} (hy : y ∈ s.names) : (match y.2 with
    | .local => s.names.lookup y.1 == some .local
    | .cell => false
    | .free => (s.names.lookup y.1 == some .free) && (a.names.lookup y.1 == some .cell || a.names.lookup y.1 == some .free)
    | _ => true) = true := by
  simp only [compOk, Bool.and_eq_true] at h
  exact List.all_eq_true.mp h.2 y hy
theorem compOk_local {a s : Scope} (h : compOk a s = true) : ∀ y ∈ s.names, y.2 = .local → s.names.lookup y.1 = some .local := fun y hy e => by
  have q := compOk_at h hy
  rw [e] at q
  exact beq_iff_eq.mp q
theorem compOk_cell {a s : Scope} (h : compOk a s = true) : ∀ y ∈ s.names, y.2 ≠ .cell := fun y hy e => by
  have q := compOk_at h hy
  rw [e] at q
  cases q
theorem compOk_free {a s : Scope} (h : compOk a s = true) : ∀ y ∈ s.names, y.2 = .free → a.names.lookup y.1 = some .cell ∨ a.names.lookup y.1 = some .free := fun y hy e => by
  have q := compOk_at h hy
  rw [e] at q
  simp only [Bool.and_eq_true, Bool.or_eq_true, beq_iff_eq] at q
  exact q.2
theorem lookup_relabel_inv {env : Env} : ∀ {names : List (Str × NameKind)} {x : Str} {k : NameKind}, (names.map fun (n, k) => if (k == NameKind.free && env.scope.kind == .function && env.kindOf n == some .cell) then (n, NameKind.cell) else (n, k)).lookup x = some k →
    ∃ k', names.lookup x = some k' ∧ (k = k' ∨ (k' = .free ∧ k = .cell))
  | [], _, _, h => by simp at h
  | (n, k0) :: r, x, k, h => by
    by_cases hx : x = n
    · subst hx
      refine ⟨k0, by simp, ?_⟩
      simp only [List.map_cons] at h
      split at h
      · rename_i hc
        simp only [Bool.and_eq_true, beq_iff_eq] at hc
        simp only [List.lookup_cons_self, Option.some.injEq] at h
        exact .inr ⟨hc.1.1, h.symm⟩
      · simp only [List.lookup_cons_self, Option.some.injEq] at h
        exact .inl h.symm
    · have hb : (x == n) = false := by simpa using hx
      simp only [List.map_cons] at h
      have e2 : ∀ k1, ((n, k1) :: r).lookup x = r.lookup x := fun k1 => by simp [List.lookup_cons, hb]
      split at h <;> (simp only [List.lookup_cons, hb] at h; obtain ⟨k', h1, h2⟩ := lookup_relabel_inv h; exact ⟨k', by rw [e2]; exact h1, h2⟩)


def compCx (X : Cx) (Nc : List Str) (scope : Scope) (cl : List (Str × Addr)) (C : Addr) (s2 : Shared) (H2 : Hp) (fp : List Addr) : Cx where
  prog := X.prog
  w := X.w
  K := X.K
  mg := X.mg
  base := X.base
  A := X.A
  N := Nc
  s₀ := s2
  H₀ := H2
  env := compEnvC scope cl C X.env
  outer := X.stack
  stack := X.stack
  ex := fp
  fn := fun _ => false
  calm := X.calm
  pn := []
  xe := fun _ _ => False

def iniC (js : List (Option Nat)) (σ : St) : St := js.map fun j => match j with
  | none => none
  | some i => (σ[i]?).join

def takesC (N Nc : List Str) (scope : Scope) : List (Option Nat) → Nat → Bool
  | [], i => i == Nc.length
  | none :: r, i => takesC N Nc scope r (i + 1)
  | some j :: r, i => (match Nc[i]?, N[j]? with
    | some x, some y => x == y && scope.names.lookup x == some .free
    | _, _ => false) && takesC N Nc scope r (i + 1)
theorem takesC_len {N Nc : List Str} {scope : Scope} : ∀ {js : List (Option Nat)} {i : Nat}, takesC N Nc scope js i = true → i + js.length = Nc.length
  | [], i, h => by simpa [takesC] using h
  | none :: r, i, h => by
    have := takesC_len (js := r) (i := i + 1) (by simpa [takesC] using h)
    simp only [List.length_cons]; omega
  | some j :: r, i, h => by
    simp only [takesC, Bool.and_eq_true] at h
    have := takesC_len (js := r) (i := i + 1) h.2
    simp only [List.length_cons]; omega
theorem takesC_at {N Nc : List Str} {scope : Scope} : ∀ {js : List (Option Nat)} {i k j : Nat}, takesC N Nc scope js i = true → js[k]? = some (some j) → ∃ x, Nc[i + k]? = some x ∧ N[j]? = some x ∧ scope.names.lookup x = some .free
  | [], i, k, j, h, e => by simp at e
  | none :: r, i, 0, j, h, e => by simp at e
  | none :: r, i, k + 1, j, h, e => by
    obtain ⟨x, h1, h2, h3⟩ := takesC_at (js := r) (i := i + 1) (k := k) (j := j) (by simpa [takesC] using h) (by simpa using e)
    exact ⟨x, by rw [← h1]; congr 1; omega, h2, h3⟩
  | some j0 :: r, i, 0, j, h, e => by
    simp only [takesC, Bool.and_eq_true] at h
    simp only [List.getElem?_cons_zero, Option.some.injEq] at e
    subst e
    cases e1 : Nc[i]? with
    | none => rw [e1] at h; simp at h
    | some x =>
      cases e2 : N[j0]? with
      | none => rw [e1, e2] at h; simp at h
      | some y =>
        rw [e1, e2] at h
        simp only [Bool.and_eq_true, beq_iff_eq] at h
        exact ⟨x, by simpa using e1, by rw [h.1.1], h.1.2⟩
  | some j0 :: r, i, k + 1, j, h, e => by
    simp only [takesC, Bool.and_eq_true] at h
    obtain ⟨x, h1, h2, h3⟩ := takesC_at (js := r) (i := i + 1) (k := k) (j := j) h.2 (by simpa using e)
    exact ⟨x, by rw [← h1]; congr 1; omega, h2, h3⟩

section
variable {X : Cx}
theorem lookup_mem {names : List (Str × NameKind)} {x : Str} {k : NameKind} (h : names.lookup x = some k) : (x, k) ∈ names := PySem.mem_of_lookup h


theorem comp_start {pins : List (Addr × Obj)} {σ : St} {H2 : Hp} {s2 : Shared} {Nc : List Str} {js : List (Option Nat)} {scope : Scope} {cl : List (Str × Addr)} {fp : List Addr} {h1 : Heap} {tk : Nat} {D C : Addr} {oD : Obj} {m : Str → Option Value}
    (I : Inv X pins σ H2 s2) (hok : compOk X.env.scope scope = true) (htk : takesC X.N Nc scope js 0 = true) (up : ∀ x c, cl.lookup x = some c → X.env.cells.lookup x = some c) (hfr : ∀ y ∈ scope.names, y.2 = .free → ∃ c, cl.lookup y.1 = some c ∧ X.env.cells.lookup y.1 = some c)
    (hfp : ∀ b ∈ fp, FpOk X pins H2 b) (hfl : ∀ b ∈ fp, b < s2.heap.objs.size) (hD : D = s2.heap.objs.size) (hC : C = s2.heap.objs.size + 1) (old : ∀ b o, s2.heap.get? b = some o → h1.get? b = some o) (hns : h1.Ns C m) (hoD : h1.get? D = some oD) (hdD : ∀ v, oD.data ≠ .cell v) :
    Inv (compCx X Nc scope cl C s2 H2 fp) [(D, oD)] (iniC js σ) H2 { s2 with heap := h1, toks := tk } := by
  have leC : s2.heap.objs.size ≤ C := by rw [hC]; exact Nat.le_succ _
  have leD : s2.heap.objs.size ≤ D := Nat.le_of_eq hD.symm
  have kf : ∀ x, ((compEnvC scope cl C X.env).kindOf x = some .cell ∨ (compEnvC scope cl C X.env).kindOf x = some .free) → ∃ c, cl.lookup x = some c ∧ X.env.cells.lookup x = some c := fun x hx => by
    have : ∃ k, (compEnvC scope cl C X.env).kindOf x = some k ∧ (k = .cell ∨ k = .free) := hx.elim (fun q => ⟨_, q, .inl rfl⟩) fun q => ⟨_, q, .inr rfl⟩
    obtain ⟨k, e, hk⟩ := this
    obtain ⟨k', h1, h2⟩ := lookup_relabel_inv (show (scope.names.map _).lookup x = some k from e)
    have hm := lookup_mem h1
    have : k' = .free := by
      rcases h2 with q | q
      · subst q
        rcases hk with q | q
        · subst q; exact absurd rfl (compOk_cell hok _ hm)
        · exact q
      · exact q.1
    subst this
    exact hfr _ hm rfl
  have nC : ∀ c x, X.env.cells.lookup x = some c → c < s2.heap.objs.size := fun c x e => by
    obtain ⟨v, q⟩ := I.cell x c e
    exact q.lt
  have noB : ∀ b, b ∈ fp → b ∉ frs X.stack := fun b hb q => by
    rcases List.mem_cons.mp (I.stkSub b q) with z | z
    · exact (hfp b hb).2.1 z
    · exact (hfp b hb).2.2.1 z
  have okX : (compCx X Nc scope cl C s2 H2 fp).Ok := by
    refine ⟨I.ok.mod, (show scope.kind = .function from compOk_kind hok), I.ok.glob, I.ok.blt, ?_, fun x y c e1 e2 => I.ok.inj x y c (up _ _ e1) (up _ _ e2), fun x hx => ?_, (fun x c e => nomatch e), I.ok.hd, I.ok.frames, .inl rfl, fun b hb => ⟨?_, fun x c e => (hfp b hb).2.2.2.2.1 x c (up _ _ e)⟩, I.bs, Nat.le_trans I.ok.bsz I.sz, fun b o e hb => ?_, fun b hb => noB b hb, I.stack, I.stkFree⟩
    · show s2.heap.objs.size ≤ C; exact leC
    · obtain ⟨c, q, _⟩ := kf x hx; exact ⟨c, q⟩
    · exact Nat.ne_of_lt (Nat.lt_of_lt_of_le (hfl b hb) leC)
    · rcases (hfp b hb).2.2.2.1 with q | q
      · exact I.ok.noex b o e q
      · exact absurd (Nat.lt_of_lt_of_le (Heap.lt_size e) (Nat.le_trans I.ok.bsz q)) (Nat.lt_irrefl _)
  refine ⟨okX, rfl, I.bare, Un.kept old, ⟨m, hns, fun i x v e1 e2 e3 => ?_⟩, fun x c e => ?_, I.hok.fresh leC, fun x c e => I.freeC x c (up _ _ e), fun p hp => ?_, I.hok.kept old, ?_⟩
  · have e2' : (iniC js σ)[i]? = some (some v) := e2
    unfold iniC at e2'
    rw [List.getElem?_map] at e2'
    cases q : js[i]? with
    | none => rw [q] at e2'; cases e2'
    | some j0 =>
      cases j0 with
      | none => rw [q] at e2'; cases e2'
      | some j =>
        rw [q] at e2'
        simp only [Option.map_some, Option.some.injEq] at e2'
        have e4 : σ[j]? = some (some v) := by
          cases z : σ[j]? with
          | none => rw [z] at e2'; cases e2'
          | some o => rw [z] at e2'; simp only [Option.join_some] at e2'; rw [e2']
        obtain ⟨y, y1, y2, y3⟩ := takesC_at htk q
        rw [Nat.zero_add] at y1
        have : x = y := Option.some.inj ((show Nc[i]? = some x from e1).symm.trans y1)
        subst this
        have hm := lookup_mem y3
        obtain ⟨c, c1, c2⟩ := hfr _ hm rfl
        have hk := compOk_free hok _ hm rfl
        obtain ⟨m0, hn0, hl0⟩ := I.loc
        obtain ⟨u, r, l⟩ := hl0 j x v y2 e4 (hk.elim (fun z => .inr (.inl z)) fun z => .inr (.inr z))
        refine ⟨u, r, .inr ⟨?_, c, c1, ?_⟩⟩
        · rcases e3 with z | z | z
          · obtain ⟨k', w1, w2⟩ := lookup_relabel_inv (show (scope.names.map _).lookup x = some NameKind.local from z)
            rw [y3] at w1; cases w1
            rcases w2 with w | w
            · cases w
            · cases w.2
          · exact .inl z
          · exact .inr z
        · rcases l with ⟨lk, _⟩ | ⟨_, c', c3, c4⟩
          · rcases hk with z | z
            · rw [show X.env.kindOf x = some .cell from z] at lk; cases lk
            · rw [show X.env.kindOf x = some .free from z] at lk; cases lk
          · rw [c2] at c3; cases c3
            obtain ⟨oc, w1, w2⟩ := c4
            exact ⟨oc, old _ _ w1, w2⟩
  · obtain ⟨v, oc, w1, w2⟩ := I.cell x c (up _ _ e)
    exact ⟨v, oc, old _ _ w1, w2⟩
  · have : p = (D, oD) := by
      have hp' : p ∈ ([] ++ [(D, oD)] : List (Addr × Obj)) := hp
      simpa using hp'
    subst this
    refine ⟨hoD, I.hok.fresh leD, (by show D ≠ C; rw [hD, hC]; exact Nat.ne_of_lt (Nat.lt_succ_self _)), fun hb => ?_, hdD⟩
    have hb' : D ∈ frs X.stack := hb
    obtain ⟨_, o, ho, _⟩ := I.stack.mem hb'
    exact absurd (Nat.lt_of_lt_of_le (Heap.lt_size ho) leD) (Nat.lt_irrefl _)
  · have := takesC_len htk
    show (iniC js σ).length = Nc.length
    unfold iniC; rw [List.length_map]; omega


theorem codeAny_compLoop_all {prog : Program} {w : World} {A : Around} {R : Result → Shared → Prop} {s : Shared} {elt target iter : Expr} {ifs : List Expr} {scope : Scope} {pos : Pos} {it acc : Value} {env : Env} (I : Nat → Shared → Prop)
    (turn : ∀ n s, I n s → wpAny (model prog w) A (pyNext it) (fun r s₁ => match r with
      | none => R (.ok .next) s₁
      | some v => wpAny (model prog w) A (letOwnedTupleGo target it v) (fun _ s₁ => wpAny (model prog w) A (assign target env v) (fun _ s₂ =>
          wpAny (model prog w) A (forIn ifs true fun c r => if r = true then do let ok ← isTrue c env (eval c env); pure (ForInStep.yield ok) else pure (ForInStep.yield r)) (fun ok s₃ =>
            if ok = true then wpAny (model prog w) A (eval elt env) (fun x s₄ =>
              wpAny (model prog w) A (call (.builtin "list.append") [acc, x]) (fun _ s₅ => ∃ m, m < n ∧ I m s₅) (fun _ _ => False) s₄) (fun _ _ => False) s₃
            else ∃ m, m < n ∧ I m s₃) (fun _ _ => False) s₂) (fun _ _ => False) s₁) (fun _ _ => False) s₁) (fun _ _ => False) s)
    (n : Nat) (h : I n s) :
    codeAny (model prog w) A (.compLoop (.ListComp elt [⟨target, iter, ifs, 0⟩] scope pos) 0 it acc env) R s := by
  refine codeAny_loop rfl I (fun n s hI => ?_) n h
  show wpAny _ A ((compTurn (.ListComp elt [⟨target, iter, ifs, 0⟩] scope pos) 0 it acc env).onRaise (fun x => do noteFrame x env; theTreesLotGoes x)) _ _ s
  refine wpAny_noted ?_
  rw [compTurn_list]
  refine wpAny_bind (wpAny_standAt (wpAny_bind (wpAny_mono (turn n s hI) (fun r s₁ h₁ => ?_) fun _ _ h' => h'.elim)))
  cases r with
  | none => exact wpAny_pure h₁
  | some v =>
    refine wpAny_bind (wpAny_mono h₁ (fun _ s₁' h₁ => ?_) fun _ _ h' => h'.elim)
    refine wpAny_bind (wpAny_mono h₁ (fun _ s₂ h₂ => wpAny_bind (wpAny_mono h₂ (fun ok s₃ h₃ => ?_) fun _ _ h' => h'.elim)) fun _ _ h' => h'.elim)
    cases ok with
    | false => exact wpAny_pure ⟨rfl, h₃⟩
    | true =>
      exact wpAny_bind (wpAny_bind (wpAny_mono h₃ (fun x s₄ h₄ => wpAny_bind (wpAny_mono h₄ (fun _ s₅ h₅ => wpAny_pure (wpAny_pure ⟨rfl, h₅⟩)) fun _ _ h' => h'.elim)) fun _ _ h' => h'.elim))


def PIfs (X : Cx) (ifs : List Expr) (t : TT) : Prop :=
  ∀ (pins : List (Addr × Obj)) (s : Shared) (σ : St) (H : Hp) (Q : Bool → Hp → Prop), Inv X pins σ H s → t σ H Q →
    wpAny (model X.prog X.w) X.A (forIn ifs true fun c r => if r = true then do let ok ← isTrue c X.env (eval c X.env); pure (ForInStep.yield ok) else pure (ForInStep.yield r)) (TP X pins σ Q) X.xe s
def tYes : TT := fun _ H Q => Q true H
theorem pifs_nil : PIfs X [] tYes := fun pins s σ H Q I h => wpAny_tests_nil ⟨H, I, h⟩
theorem pifs_one {c : Expr} {t : TT} (h : PT X c t) : PIfs X [c] t := fun pins s σ H Q I hq => wpAny_tests_one (h pins s σ H Q I hq)


def KeepOn (L : List Nat) (σ σ' : St) : Prop := σ'.length = σ.length ∧ ∀ k, k ∉ L → σ'[k]? = σ[k]?
def OnlyG (g : TG) (L : List Nat) : Prop := ∀ v σ H (Q Q' : St → Hp → Prop), (∀ σ' H', KeepOn L σ σ' → Q σ' H' → Q' σ' H') → g v σ H Q → g v σ H Q'
def OnlyGs (g : TGs) (L : List Nat) : Prop := ∀ v σ H (Q Q' : St → Hp → Prop), (∀ σ' H', KeepOn L σ σ' → Q σ' H' → Q' σ' H') → g v σ H Q → g v σ H Q'
theorem KeepOn.refl {L : List Nat} {σ : St} : KeepOn L σ σ := ⟨rfl, fun _ _ => rfl⟩
theorem KeepOn.trans {L L' : List Nat} {a b c : St} (x : KeepOn L a b) (y : KeepOn L' b c) : KeepOn (L ++ L') a c :=
  ⟨y.1.trans x.1, fun k hk => (y.2 k fun z => hk (List.mem_append_right _ z)).trans (x.2 k fun z => hk (List.mem_append_left _ z))⟩
theorem only_name {i : Nat} : OnlyG (gName i) [i] := fun v σ H Q Q' hq h => hq _ _ ⟨by simp, fun k hk => by
  rw [List.getElem?_set_ne]
  intro z; subst z; exact hk (by simp)⟩ h
theorem only_nil : OnlyGs gNil [] := fun v σ H Q Q' hq h => ⟨h.1, hq _ _ KeepOn.refl h.2⟩
theorem only_cons {t : TG} {u : TGs} {L L' : List Nat} (h1 : OnlyG t L) (h2 : OnlyGs u L') : OnlyGs (gCons t u) (L ++ L') := fun v σ H Q Q' hq h => by
  obtain ⟨x, r, e, h⟩ := h
  exact ⟨x, r, e, h1 _ _ _ _ _ (fun σ' H' k1 q => h2 _ _ _ _ _ (fun σ2 H2 k2 q2 => hq _ _ (k1.trans k2) q2) q) h⟩
theorem only_tup {K : PySem.W.Frag} {n : Nat} {t : TGs} {L : List Nat} (h : OnlyGs t L) : OnlyG (gTup K n t) L := fun v σ H Q Q' hq q => by
  obtain ⟨a, xs, e1, e2, e3, q⟩ := q
  exact ⟨a, xs, e1, e2, e3, h _ _ _ _ _ hq q⟩


def tComp (wi : TI) (g : TG) (tt : TT) (te : TE) (js : List (Option Nat)) : TE := fun σ H Q => wi σ H fun J H1 => ∃ W : Nat → Nat → List V → Hp → Prop, (∃ m, W 0 m [] H1) ∧ ∀ i m acc H, W i m acc H →
  (J.stop i H ∧ acc.length ≤ sizeLine ∧ ∀ p, H p = none → Q (.ref p) (upd H p (.lst acc))) ∨
  (J.go i H ∧ acc.length < sizeLine ∧ ∀ x H', J.yld i H x H' → g x (iniC js σ) H' fun σ2 H2 => tt σ2 H2 fun b H3 => if b = true then te σ2 H3 fun v H4 => ∃ m', m' < m ∧ W (i + 1) m' (acc ++ [v]) H4 else ∃ m', m' < m ∧ W (i + 1) m' acc H3)


theorem comp_run {pins : List (Addr × Obj)} {σ : St} {H : Hp} {s : Shared} {tg elt iter : Expr} {ifs : List Expr} {scope : Scope} {pos : Pos} {wi : TI} {g : TG} {tt : TT} {te : TE} {Nc : List Str} {js : List (Option Nat)} {use : Option (Value → Sem Unit)} {Q : VK} {QQ : Value → Shared → Prop}
    (hc : X.calm = true) (hok : compOk X.env.scope scope = true) (htk : takesC X.N Nc scope js 0 = true) (hi : PI X tg iter wi)
    (hg : ∀ cl C s2 H2 fp, PG (compCx X Nc scope cl C s2 H2 fp) tg g) (ht : ∀ cl C s2 H2 fp, PIfs (compCx X Nc scope cl C s2 H2 fp) ifs tt) (he : ∀ cl C s2 H2 fp, PE (compCx X Nc scope cl C s2 H2 fp) elt te)
    (hs : ∀ x, foldedSetIterable iter X.env x = pure x) {L : List Nat} (ho : OnlyG g L) (hL : (L.all fun k => js[k]? == some none) = true) (I : Inv X pins σ H s) (h : tComp wi g tt te js σ H Q)
    (fin : ∀ (D C : Addr) (H' H2 : Hp) (s2 s' : Shared) (xs : List V) (m : Str → Option Value), Inv X pins σ H2 s2 → H' C = none → C = D + 1 → D = s2.heap.objs.size → s'.heap.Ns C m → (∀ h', Heap.SameBut C s'.heap h' → Inv X pins σ (upd H' D (.lst xs)) { s' with heap := h' }) → Q (.ref D) (upd H' D (.lst xs)) →
      compPost (model X.prog X.w) X.A X.xe use QQ (.ref D) C (.ok .next) s') :
    wpAny (model X.prog X.w) X.A (comprehension (.ListComp elt [⟨tg, iter, ifs, 0⟩] scope pos) scope X.env (firstIterPos [⟨tg, iter, ifs, 0⟩] pos) (newList []) false (eval iter X.env) use) QQ X.xe s := by
  have hcells : ∀ y ∈ scope.names, y.2 = .free → ∃ c, X.env.cells.lookup y.1 = some c := fun y hy hf => I.ok.has y.1 (compOk_free hok y hy hf)
  obtain ⟨cl, hcl, up, hfr⟩ := closure_of hcells
  have hk := compOk_kind hok
  have hcell := compOk_cell hok
  refine wpAny_comprehension_free (use := use) rfl hs hcl hk (compOk_local hok) (thn (hi pins s σ H _ I h) fun v s1 h1 => thn h1 fun itv s2 h2 => ?_)
  obtain ⟨it, fp, tn, J, H2, e, I2, T, st2, f2, W, ⟨m0, w0⟩, turn⟩ := h2
  subst e
  refine wpAny_newObj_type (wpAny_newFunctionEnv hcell (by intro y hy; simp at hy) (fun h₁ hns₁ hsb₁ => ?_) hk)
  dsimp only at hns₁ hsb₁ ⊢
  generalize hH2 : s2.heap.push { cls := .type "list", dict := none, data := .seq ([] : List Value).toArray } = HH at hns₁ hsb₁ ⊢
  have hC : HH.objs.size = s2.heap.objs.size + 1 := by rw [← hH2, Heap.size_push]
  have hfl : ∀ b ∈ fp, b < s2.heap.objs.size := fun b hb => by
    obtain ⟨o, ho, _⟩ := T.obj 0 _ st2 b hb
    exact Heap.lt_size ho
  have hDC : s2.heap.objs.size ≠ HH.objs.size := by rw [hC]; exact Nat.ne_of_lt (Nat.lt_succ_self _)
  have old : ∀ b o, s2.heap.get? b = some o → h₁.get? b = some o := fun b o e => hsb₁.extBut b o (by rw [hC]; exact Nat.ne_of_lt (Nat.lt_succ_of_lt (Heap.lt_size e))) (Heap.get?_push_of_some _ (hH2 ▸ Heap.get?_push_of_some _ e))
  have hacc : h₁.get? s2.heap.objs.size = some { cls := .type "list", dict := none, data := .seq ([] : List Value).toArray } := hsb₁.extBut _ _ hDC (Heap.get?_push_of_some _ (hH2 ▸ Heap.get?_push_size _ rfl))
  have I4 := comp_start (Nc := Nc) (js := js) (tk := s2.toks + ([] : List (Str × Value)).length) I2 hok htk up hfr f2 hfl rfl hC old hns₁ hacc (by intro v z; cases z)
  have st4 : tn 0 h₁ := T.keep _ _ _ st2 fun b _ o e => old b o e
  generalize hXc : compCx X Nc scope cl HH.objs.size s2 H2 fp = Xc at I4
  have hXA : Xc.A = X.A := by rw [← hXc]; rfl
  have hXe : Xc.env = compEnvC scope cl HH.objs.size X.env := by rw [← hXc]; rfl
  have hXp : Xc.prog = X.prog := by rw [← hXc]; rfl
  have hXw : Xc.w = X.w := by rw [← hXc]; rfl
  have hXx : Xc.xe = fun _ _ => False := by rw [← hXc]; rfl
  have hXk : Xc.K = X.K := by rw [← hXc]; rfl
  have hXcalm : Xc.calm = true := by rw [← hXc]; exact hc
  have fpok : ∀ {pl : List (Addr × Obj)} {H' : Hp}, (∀ p ∈ pl, s2.heap.objs.size ≤ p.1) → (∀ b ∈ fp, H' b = none) → ∀ b ∈ fp, FpOk Xc pl H' b := fun {pl H'} hpl hn b hb => by
    have k1 : b ≠ HH.objs.size := Nat.ne_of_lt (by rw [hC]; exact Nat.lt_succ_of_lt (hfl b hb))
    have k2 : b ∉ frs X.stack := fun q => by
      rcases List.mem_cons.mp (I2.stkSub b q) with z | z
      · exact (f2 b hb).2.1 z
      · exact (f2 b hb).2.2.1 z
    rw [← hXc]
    refine ⟨hn b hb, k1, k2, .inl hb, fun x c e => (f2 b hb).2.2.2.2.1 x c (up _ _ e), fun p hp => ?_⟩
    have hp' : p ∈ pl := by simpa [compCx] using hp
    exact Nat.ne_of_gt (Nat.lt_of_lt_of_le (hfl b hb) (hpl p hp'))
  have gX : PG Xc tg g := hXc ▸ hg cl HH.objs.size s2 H2 fp
  have tX : PIfs Xc ifs tt := hXc ▸ ht cl HH.objs.size s2 H2 fp
  have eX : PE Xc elt te := hXc ▸ he cl HH.objs.size s2 H2 fp
  have hs0 : Xc.s₀ = s2 := by rw [← hXc]; rfl
  have hh0 : Xc.H₀ = H2 := by rw [← hXc]; rfl
  have hfs : Xc.fs = frs X.stack := by rw [← hXc]; rfl
  have hex : Xc.ex = fp := by rw [← hXc]; rfl
  have loop : codeAny (model X.prog X.w) X.A (.compLoop (.ListComp elt [⟨tg, iter, ifs, 0⟩] scope pos) 0 (.ref it) (.ref s2.heap.objs.size) (compEnvC scope cl HH.objs.size X.env)) (compPost (model X.prog X.w) X.A X.xe use QQ (.ref s2.heap.objs.size) HH.objs.size)
      { s2 with heap := h₁, toks := s2.toks + ([] : List (Str × Value)).length } := by
    refine codeAny_compLoop_all (fun n s' => ∃ i acc its nn H', Inv Xc [(s2.heap.objs.size, { cls := .type "list", dict := none, data := .seq (its : List Value).toArray nn })] (iniC js σ) H' s' ∧ Vals acc its ∧ acc.length ≤ sizeLine ∧ tn i s'.heap ∧ (∀ b ∈ fp, H' b = none) ∧ W i n acc H') ?_ m0
      ⟨0, [], [], 0, H2, I4, .nil, Nat.zero_le _, st4, fun b hb => (f2 b hb).1, w0⟩
    rintro n s3 ⟨i, acc, its, nn, H3, I3, va, hlen, st3, fr3, w3⟩
    have pg : ∀ p ∈ ([(s2.heap.objs.size, { cls := .type "list", dict := none, data := .seq its.toArray nn })] : List (Addr × Obj)), s2.heap.objs.size ≤ p.1 := fun p hp => by
      simp only [List.mem_cons, List.not_mem_nil, or_false] at hp
      subst hp; exact Nat.le_refl _
    rcases turn i n acc H3 w3 with ⟨stop, hl, qn⟩ | ⟨go, hl, step⟩
    · have q := T.done Xc hXp hXw hXk hXcalm i _ s3 (iniC js σ) H3 (fun _ _ => False) I3 (fpok pg fr3) st3 stop
      rw [hXA] at q
      refine thn q fun r s4 ⟨hr, I5⟩ => ?_
      subst hr
      have hpin := I5.pin _ (List.mem_append_right _ (.head _))
      obtain ⟨m5, hn5, _⟩ := I5.loc
      rw [hXe] at hn5
      refine fin _ _ H3 H2 s2 s4 acc m5 I2 (by have := I5.free; rw [hXe] at this; exact this) hC rfl hn5 (fun h' hsb => ?_) (qn _ hpin.2.1)
      have same : ∀ b o, b ≠ HH.objs.size → s4.heap.get? b = some o → h'.get? b = some o := fun b o hb e => hsb.extBut b o hb e
      have un := I5.base
      rw [hfs, hex, hh0, hs0] at un
      have lt : ∀ b o, s2.heap.get? b = some o → b < s2.heap.objs.size := fun b o e => Heap.lt_size e
      have neC : ∀ b o, s2.heap.get? b = some o → b ≠ HH.objs.size := fun b o e => Nat.ne_of_lt (by rw [hC]; exact Nat.lt_succ_of_lt (lt b o e))
      have neD : ∀ b o, s2.heap.get? b = some o → b ≠ s2.heap.objs.size := fun b o e => Nat.ne_of_lt (lt b o e)
      have trkC : ∀ b o, H3 b = some o → b ≠ HH.objs.size := fun b o e z => by
        have := I5.free; rw [hXe] at this; rw [z, show H3 HH.objs.size = none from this] at e; cases e
      refine I2.call' (s' := { s4 with heap := h' }) (ch := fp) (I5.os.trans (by rw [hs0])) ⟨fun b o e n hb hx => same _ _ (neC b o e) (un.keep b o e n hb hx), fun b o e n hb hx => ?_, fun b o e n hx => by rw [upd_ne (neD b o e)]; exact un.free b o e n hx, fun b o e hx => ?_, fun b xs e => ?_, fun b o u e => ?_, fun b ps e => ?_⟩ (fun a o e => ?_) I5.bare fun b hb => ⟨(f2 b hb).2.2.2.1, (f2 b hb).2.1, (f2 b hb).2.2.2.2.1, (f2 b hb).2.2.2.2.2⟩
      · obtain ⟨sl, z⟩ := un.slot b o e n hb hx
        exact ⟨sl, same _ _ (neC b o e) z⟩
      · obtain ⟨o', z⟩ := un.there b o e hx
        exact ⟨o', same _ _ (neC b o e) z⟩
      · rw [upd_ne (Nat.ne_of_lt (I2.hok.lt e))]; exact un.tups b xs e
      · rw [upd_ne (Nat.ne_of_lt (I2.hok.lt e))]; exact un.frzs b o u e
      · obtain ⟨more, z⟩ := un.tbls b ps e
        exact ⟨more, by rw [upd_ne (Nat.ne_of_lt (I2.hok.lt e))]; exact z⟩
      · by_cases ha : a = s2.heap.objs.size
        · subst ha
          rw [upd_same] at e; cases e
          exact ⟨hl, its, nn, va, same _ _ hDC hpin.1⟩
        · rw [upd_ne ha] at e
          have q := I5.hok a o e
          rw [hXp, hXw] at q
          refine q.stay (fun b u hb z => same b u ?_ z) (fun b z => by rw [upd_ne]; exact z; intro y; subst y; rw [hpin.2.1] at z; cases z) (fun b xs z => by rw [upd_ne]; exact z; intro y; subst y; rw [hpin.2.1] at z; cases z) fun b o u z => by rw [upd_ne]; exact z; intro y; subst y; rw [hpin.2.1] at z; cases z
          rcases hb with hb | hb
          · subst hb; exact trkC _ _ e
          · exact trkC _ _ hb
    · have q := T.item Xc hXp hXw hXk hXcalm i _ s3 (iniC js σ) H3 (fun _ _ => False) I3 (fpok pg fr3) st3 go
      rw [hXA] at q
      refine thn q fun r s4 ⟨u, hr, h4⟩ => ?_
      subst hr
      refine thn h4 fun _ s5 ⟨x, H5, I5, r5, y5, st5, fr5⟩ => ?_
      have I5' := I5.pinned (fpok pg fr5) (T.obj _ _ st5)
      have again : ∀ {σ7 : St} {H7 : Hp} {s7 : Shared} {acc7 : List V} {its7 : List Value} {n7 : Nat} {m : Nat}, Inv Xc ([(s2.heap.objs.size, { cls := .type "list", dict := none, data := .seq its7.toArray n7 })] ++ pinsAt fp s5.heap) σ7 H7 s7 → Vals acc7 its7 → acc7.length ≤ sizeLine → W (i + 1) m acc7 H7 → σ7.length = (iniC js σ).length → (∀ (k : Nat) v, (iniC js σ)[k]? = some (some v) → σ7[k]? = some (some v)) →
          ∃ i acc its nn H', Inv Xc [(s2.heap.objs.size, { cls := .type "list", dict := none, data := .seq (its : List Value).toArray nn })] (iniC js σ) H' s7 ∧ Vals acc its ∧ acc.length ≤ sizeLine ∧ tn i s7.heap ∧ (∀ b ∈ fp, H' b = none) ∧ W i m acc H' := fun {σ7 H7 s7 acc7 its7 n7 m} I7 v7 l7 w7 hl7 hw7 => by
        refine ⟨i + 1, acc7, its7, n7, H7, (I7.weak hl7.symm hw7).unpinned, v7, l7, T.keep _ _ _ st5 fun b hb o e => (I7.pin (b, o) (List.mem_append_right _ (List.mem_append_right _ (mem_pinsAt hb e)))).1, fun b hb => ?_, w7⟩
        obtain ⟨o, e, d⟩ := T.obj _ _ st5 b hb
        exact (I7.pin (b, o) (List.mem_append_right _ (List.mem_append_right _ (mem_pinsAt hb e)))).2.1
      have keep : ∀ {σ6 : St}, KeepOn L (iniC js σ) σ6 → σ6.length = (iniC js σ).length ∧ ∀ (k : Nat) v, (iniC js σ)[k]? = some (some v) → σ6[k]? = some (some v) := fun {σ6} hk => ⟨hk.1, fun k v e => by
        rw [hk.2 k]
        · exact e
        · intro z
          have q := List.all_eq_true.mp hL k z
          simp only [beq_iff_eq] at q
          unfold iniC at e
          rw [List.getElem?_map, q] at e
          cases e⟩
      have q6 := gX _ s5 (iniC js σ) H5 x u _ I5' r5 (ho _ _ _ _ _ (fun σ' H' kk z => And.intro kk z) (step x H5 y5))
      rw [hXe, hXA, hXp, hXw, hXx] at q6
      refine thn q6 fun _ s6 ⟨σ6, H6, I6, k6, q6⟩ => ?_
      obtain ⟨kl, kv⟩ := keep k6
      have q7 := tX _ s6 σ6 H6 _ I6 q6
      rw [hXe, hXA, hXp, hXw, hXx] at q7
      refine thn q7 fun b s7 ⟨H7, I7, q7⟩ => ?_
      cases b with
      | false =>
        obtain ⟨m', hm, w7⟩ := q7
        exact ⟨m', hm, again I7 va hlen w7 kl kv⟩
      | true =>
        have q8 := eX _ s7 σ6 H7 _ I7 q7
        rw [hXe, hXA, hXp, hXw, hXx] at q8
        refine thn q8 fun y s8 ⟨v8, H8, I8, r8, m', hm, w8⟩ => ?_
        have pinD := I8.pin _ (List.mem_append_right _ (List.mem_append_left _ (.head _)))
        have hnf : ∀ p ∈ pinsAt fp s5.heap, p.1 ≠ s2.heap.objs.size := fun p hp => by
          obtain ⟨z, _⟩ := of_pinsAt hp
          exact Nat.ne_of_lt (hfl _ z)
        have va' := va.length
        refine call_meets F.slot_list_append ⟨_, pinD.1, rfl⟩ F.entry_list_append (F.args_list_append_2 _ _) (PySem.list_append s2.heap.objs.size its.toArray nn y (by rw [List.size_toArray]; omega)) ⟨pinD.1, ?_⟩
        have e9 := PySem.IsL.update pinD.1 (fun a => a.push y)
        have e9' : its.toArray.push y = (its ++ [y]).toArray := by simp
        dsimp only at e9
        rw [e9'] at e9
        have I8' : Inv Xc (pinsAt fp s5.heap) σ6 H8 s8 := I8.pins_of fun p hp => I8.pin p (List.mem_append_right _ (List.mem_append_right _ hp))
        have hXpn : Xc.pn = [] := by rw [← hXc]; rfl
        have hXs : s2.heap.objs.size ∉ frs X.stack := by rw [← hfs]; exact pinD.2.2.2.1
        have I9 := I8'.turned (t' := s8.toks) (it := s2.heap.objs.size) (h' := s8.heap.update s2.heap.objs.size (Obj.mapSeq fun a => a.push y)) (fun b o hb e => (Heap.get?_update_other s8.heap _ (Ne.symm hb)).trans e) pinD.2.1 pinD.2.2.1
          (.inr (by rw [hs0]; exact Nat.le_refl _)) (fun x c e => by
            rw [hXe] at e
            intro z
            obtain ⟨v, q⟩ := I2.cell x c (up _ _ e)
            exact absurd q.lt (by rw [z]; exact Nat.lt_irrefl _)) (fun p hp => by rw [hXpn, List.nil_append] at hp; exact hnf p hp)
        have I10 := I9.pins_of (pins' := [(s2.heap.objs.size, { cls := .type "list", dict := none, data := .seq (its ++ [y]).toArray _ })] ++ pinsAt fp s5.heap) fun p hp => by
          rcases List.mem_append.mp hp with z | z
          · simp only [List.mem_cons, List.not_mem_nil, or_false] at z
            subst z
            exact ⟨e9, pinD.2.1, pinD.2.2.1, pinD.2.2.2.1, by intro v z; cases z⟩
          · exact I9.pin p (List.mem_append_right _ z)
        exact ⟨m', hm, again I10 (va.append (.cons r8 .nil)) (by rw [List.length_append, List.length_singleton]; omega) w8 kl kv⟩
  exact codeAny_compStart_list loop (T.self _ 0 _ _ _ st4 loop)

theorem pe_comp {tg elt iter : Expr} {ifs : List Expr} {scope : Scope} {pos : Pos} {wi : TI} {g : TG} {tt : TT} {te : TE} (Nc : List Str) (js : List (Option Nat)) {L : List Nat}
    (hc : X.calm = true) (hok : compOk X.env.scope scope = true) (htk : takesC X.N Nc scope js 0 = true) (hi : PI X tg iter wi)
    (hg : ∀ cl C s2 H2 fp, PG (compCx X Nc scope cl C s2 H2 fp) tg g) (ht : ∀ cl C s2 H2 fp, PIfs (compCx X Nc scope cl C s2 H2 fp) ifs tt) (he : ∀ cl C s2 H2 fp, PE (compCx X Nc scope cl C s2 H2 fp) elt te)
    (ho : OnlyG g L) (hL : (L.all fun k => js[k]? == some none) = true := by rfl) (hs : ∀ x, foldedSetIterable iter X.env x = pure x := by intro _; rfl) : PE X (.ListComp elt [⟨tg, iter, ifs, 0⟩] scope pos) (tComp wi g tt te js) := by
  intro pins s σ H Q I h
  rw [eval_ListComp]
  exact comp_run (use := none) hc hok htk hi hg ht he hs ho hL I h fun D C H' H2 s2 s' xs m I2 hHC e1 e2 hn hI q => ⟨m, hn, fun h' hsb => ⟨.ref D, _, hI h' hsb, rfl, q⟩⟩

theorem sameBut_refl {C : Addr} {h : Heap} : Heap.SameBut C h h := by
  first | exact Heap.SameBut.refl | exact ⟨rfl, fun _ _ => rfl⟩

theorem ps_setC {i : Nat} {x : Str} {pos' spos : Pos} {tg elt iter : Expr} {ifs : List Expr} {scope : Scope} {pos : Pos} {wi : TI} {g : TG} {tt : TT} {te : TE} (Nc : List Str) (js : List (Option Nat)) {L : List Nat}
    (hN : X.N.Nodup) (hxi : X.N[i]? = some x) (hx : Loc X.env.scope x)
    (hc : X.calm = true) (hok : compOk X.env.scope scope = true) (htk : takesC X.N Nc scope js 0 = true) (hi : PI X tg iter wi)
    (hg : ∀ cl C s2 H2 fp, PG (compCx X Nc scope cl C s2 H2 fp) tg g) (ht : ∀ cl C s2 H2 fp, PIfs (compCx X Nc scope cl C s2 H2 fp) ifs tt) (he : ∀ cl C s2 H2 fp, PE (compCx X Nc scope cl C s2 H2 fp) elt te)
    (ho : OnlyG g L) (hL : (L.all fun k => js[k]? == some none) = true := by rfl) (hs : ∀ x, foldedSetIterable iter X.env x = pure x := by intro _; rfl)
    (hsw : swapsWith (.ListComp elt [⟨tg, iter, ifs, 0⟩] scope pos) (some (.Name x pos')) spos.line X.env = pure true := by rfl)
    (hf : X.fn x = true ∨ X.env.scope.names.lookup x = some .local := by first | exact .inl rfl | exact .inr rfl | assumption) :
    PS X (.Assign [.Name x pos'] (.ListComp elt [⟨tg, iter, ifs, 0⟩] scope pos) spos) (tAsg (tComp wi g tt te js) (gName i)) := by
  intro pins s σ H D I h
  rw [exec_Assign_Name_used _ _ _ _ hsw]
  refine wpAny_bind (wpAny_standAt (wpAny_bind ?_))
  show wpAny _ _ (comprehension _ _ _ _ _ _ _ _ >>= _) _ _ _
  refine wpAny_bind (thn (Q := fun _ s' => ∃ σ' H', Inv X pins σ' H' s' ∧ D.nx σ' H') (comp_run (Q := fun v H1 => gName i v σ H1 D.nx) (use := some (assign (.Name x pos') X.env)) hc hok htk hi hg ht he hs ho hL I h ?_) fun _ s' ⟨σ', H', I', q⟩ => wpAny_pure (wpAny_pure ⟨σ', H', I', q⟩))
  intro D' C H' H2 s2 s' xs m I2 hHC e1 e2 hn hI q
  obtain ⟨oC, es, ep, hoC, hdC, hrest⟩ := id hn
  have leC : s2.heap.objs.size ≤ C := by rw [e1, e2]; exact Nat.le_succ _
  have ltC : s2.heap.objs.size < C := by rw [e1, e2]; exact Nat.lt_succ_self _
  have neDC : C ≠ D' := by rw [e2]; exact Nat.ne_of_gt ltC
  have fresh : s2.heap.get? C = none := by
    cases e : s2.heap.get? C with
    | none => rfl
    | some o => exact absurd (Nat.lt_of_lt_of_le (Heap.lt_size e) leC) (Nat.lt_irrefl _)
  have neL : C ≠ X.env.locals := Nat.ne_of_gt (Nat.lt_of_lt_of_le I2.lt leC)
  have nfs : C ∉ X.fs := I2.nofs leC
  have ncl : ∀ x c, X.env.cells.lookup x = some c → c ≠ C := fun x c e z => by
    obtain ⟨v, q⟩ := I2.cell x c e
    exact absurd (Nat.lt_of_lt_of_le q.lt leC) (by rw [z]; exact Nat.lt_irrefl _)
  have npn : ∀ p ∈ X.pn ++ pins, p.1 ≠ C := fun p hp z => by
    have := (I2.pin p hp).1
    rw [z, fresh] at this; cases this
  have hH : (upd H' D' (HO.lst xs)) C = none := by rw [upd_ne neDC]; exact hHC
  have I0 := hI s'.heap sameBut_refl
  have I1 : Inv X (pins ++ [(C, oC)]) σ (upd H' D' (.lst xs)) s' := I0.pins_of fun p hp => by
    rcases List.mem_append.mp hp with z | z
    · exact I0.pin p (List.mem_append_right _ z)
    · simp only [List.mem_cons, List.not_mem_nil, or_false] at z
      subst z
      exact ⟨hoC, hH, neL, nfs, fun v z => by rw [hdC] at z; cases z⟩
  show wpAny _ _ _ _ _ _
  refine thn (pg_name (X := X) (i := i) hN hxi hx hf (pins ++ [(C, oC)]) s' σ _ (.ref D') (.ref D') _ I1 rfl q) fun _ s3 ⟨σ3, H3, I3, q3⟩ => ?_
  have pC := I3.pin (C, oC) (List.mem_append_right _ (List.mem_append_right _ (.head _)))
  refine ⟨m, ⟨oC, es, ep, pC.1, hdC, hrest⟩, fun h' hsb => ⟨σ3, H3, ?_, q3⟩⟩
  exact I3.unpinned.turned (t' := s3.toks) (it := C) (fun b o hb e => hsb.extBut b o hb e) pC.2.1 neL (.inr (Nat.le_trans I2.sz leC)) ncl npn
end
end L2


set_option Elab.async false
set_option linter.all false
set_option maxRecDepth 100000
set_option maxHeartbeats 1000000
namespace L2
open PySem PySem.Spec PyProof.Rows PySem.W PySem.Builtin.ObjectAttr PySem.Builtin.Getset_descriptor


def ExAt (x C : Addr) (h : Heap) : Prop := ∃ o, h.get? x = some o ∧ o.cls = .ref C

structure ExK (K : Frag) (C : Addr) : Prop where
  dk : hasDictIn K C = true
  ga : findIn K (.ref C) "__getattribute__" = some (some (.builtin "BaseException.__getattribute__"))
  gt : findIn K (.ref C) "__getattr__" = some none
  cl : findIn K (.ref C) "__class__" = some (some (.builtin "object.__class__"))
  gg : specialIn K (.builtin "object.__class__") "__get__" = some (some (.builtin "getset_descriptor.__get__"))
  tk : takesIn K (.builtin "object.__class__") = some true
  mo : mroIn K C (.type "object") = some true
  mb : mroIn K C (.type "BaseException") = some true
section
variable {K : Frag} {x C : Addr}
theorem ExAt.type {M : Model} {h : Heap} (I : ExAt x C h) : Looks M h (typeOf (.ref x)) (.ref C) := by
  obtain ⟨o, e, c⟩ := I
  exact c ▸ (Looks.ld e).andThen .now
theorem exa_find {M : Model} {h : Heap} (X : K.In h) (Z : ExK K C) : Looks M h (find (.ref x) (.ref C) "__class__") (.bind (.builtin "getset_descriptor.__get__") (.builtin "object.__class__")) := by
  have L3 := looks_takesIn (M := M) X Z.tk
  exact (looks_findIn (M := M) X Z.cl).andThen ((looks_specialIn X Z.gg).andThen
    ((show Looks M h (dataDescriptor? (some (.builtin "object.__class__")) (some (.builtin "getset_descriptor.__get__"))) (some (.builtin "getset_descriptor.__get__", .builtin "object.__class__")) from L3.andThen .now).andThen (Looks.tag .now)))
theorem exa_get {prog : Program} {w : World} {A : Around} {R : Result → Shared → Prop} {s : Shared} {tp : Value} (X : K.In s.heap) (I : ExAt x C s.heap) (Z : ExK K C) (hR : R (.ok (.ret (.ref C))) s) :
    codeAny (model prog w) A (.call (.builtin "getset_descriptor.__get__") ⟨[.builtin "object.__class__", .ref x, tp], []⟩) R s := by
  obtain ⟨hp, gn, dw, tk, os⟩ := s
  have L0 := I.type (M := model prog w)
  have L1 := looks_mroIn (M := model prog w) X Z.mo
  refine codeAny_call_builtin KF.slot_gs.plain KF.entry_gs (KF.slot_gs.check _ _ _ _ _ _ _ _ KF.type_class (KF.args_gs _ _ _) ?_)
  unfold Builtin.«getset_descriptor.__get__» descrGet; rw [dga_obj]; refine wpAny_bind (wpAny_pure ?_)
  unfold descrGetter descrCheckInstance descrNameAndClass isInstance; simp only [KF.owner_class]
  repeat lk
  refine ⟨Code.quiet_builtin _ (by decide +kernel), codeAny_builtin KF.entry_class ?_⟩; unfold Builtin.«object.__class__» shownTypeOf
  repeat lk
  exact hR
theorem exa_entry {prog : Program} {w : World} {A : Around} {E : Value → Shared → Prop} {s : Shared} {tk : Tok} {Q : Fin → Shared → Prop} (X : K.In s.heap) (I : ExAt x C s.heap) (Z : ExK K C) (hQ : Q (.done (.ret (.ref C))) s) :
    wpAny (model prog w) A (Builtin.«object.__getattribute__» ⟨[.ref x, .str "__class__" tk], []⟩) Q E s := by
  obtain ⟨hp, gn, dw, t, os⟩ := s
  have L0 := I.type (M := model prog w)
  have L2 := exa_find (M := model prog w) (x := x) X Z
  unfold Builtin.«object.__getattribute__»
  refine wpAny_bind (wpAny_pure (wpAny_bind (wpAny_pure (wpAny_bind (L0.at (wpAny_bind (L2.at ?_)))))))
  show wpAny _ _ (holding _ (call _ _) >>= ret) _ _ _
  exact wpAny_bind (wpAny_holding (wpAny_call (exa_get (s := ⟨hp, gn, dw, t, os⟩) X I Z (wpAny_pure hQ))))
theorem exa_check {M : Model} {A : Around} {E : Value → Shared → Prop} {s : Shared} {nameV : Value} {Q : Unit → Shared → Prop} (X : K.In s.heap) (I : ExAt x C s.heap) (Z : ExK K C) (hq : Q () s) :
    wpAny M A (checkBuiltinCall "BaseException.__getattribute__" ⟨[.ref x, nameV], []⟩) Q E s := by
  obtain ⟨hp, gn, dw, t, os⟩ := s
  have hk : builtinKind "BaseException.__getattribute__" = some .slot := by decide +kernel
  have hsplit : splitId "BaseException.__getattribute__" = some ("BaseException", "__getattribute__") := by decide +kernel
  have L0 := I.type (M := M)
  have L1 := looks_mroIn (M := M) X Z.mb
  have ha := F.args_bexc_ga (.ref x) nameV
  simp only [checkBuiltinCall, hk, hsplit]
  refine wpAny_bind ?_
  unfold isInstance
  refine wpAny_bind (L0.at (L1.at ?_))
  repeat (first | assumption | wp_step)
theorem exa_class {prog : Program} {w : World} {A : Around} {E : Value → Shared → Prop} {s : Shared} {Q : Option Value → Shared → Prop} (X : K.In s.heap) (I : ExAt x C s.heap) (Z : ExK K C) (hQ : Q (some (.ref C)) { s with toks := s.toks + 1 }) :
    wpAny (model prog w) A (getAttr? (.ref x) "__class__") Q E s := by
  obtain ⟨hp, gn, dw, tk, os⟩ := s
  have L0 := I.type (M := model prog w)
  have L1 := looks_findIn (M := model prog w) X Z.ga
  have L3 := looks_findIn (M := model prog w) X Z.gt
  have hb := (F.attrBase_ValueError.ga).bind (.ref x)
  unfold getAttr? getAttrBy? getAttrBy; refine wpAny_bind (wpAny_mkText (wpAny_bind (wpAny_attempt (wpAny_holding (wpAny_bind (L0.at (wpAny_bind (L1.at ?_))))))))
  show wpAny _ _ (getAttrByItsOwn _ _ _ _ _ _) _ _ _
  unfold getAttrByItsOwn hookBefore
  refine wpAny_bind (L3.at ?_)
  refine wpAny_bind (wpAny_attempt (wpAny_holding ?_))
  unfold callGetattribute
  show wpAny _ _ (boundAndCalled _ _ _) _ _ _
  unfold boundAndCalled
  rw [hb]
  refine wpAny_bind (wpAny_pure ?_)
  refine wpAny_call ?_
  refine codeAny_call_builtin F.attrBase_ValueError.ga.plain F.entry_bexc_ga (exa_check (s := ⟨hp, gn, dw, tk + 1, os⟩) X I Z (exa_entry (s := ⟨hp, gn, dw, tk + 1, os⟩) X I Z ?_))
  exact handed_on rfl (wpAny_pure hQ)
theorem exa_kit (Z : ExK K C) : KitX K (.ref x) (.ref C) (ExAt x C) where
  ty := fun _ _ _ I => I.type
  it := fun _ _ X _ => by
    obtain ⟨cdD, hcD, _⟩ := any_some Z.dk
    unfold clsIn at hcD
    split at hcD
    · rename_i c' d' cd' sl' ho
      intro A' Q' E' s' k q
      unfold isType loadHead; exact wpAny_bind (wpAny_loadPart (k _ _ (X _ _ ho)) (wpAny_pure q))
    · cases hcD
  ne := fun h tp dd its n sl X htp => by
    obtain ⟨cdD, hcD, _⟩ := any_some Z.dk
    refine Bool.eq_false_iff.mpr fun q => ?_
    have e : C = tp := Value.ref.inj (beq_iff_eq.mp q); subst e
    unfold clsIn at hcD
    split at hcD
    · rename_i c' d' cd' sl' ho
      have z := (X _ _ ho).symm.trans htp; cases z
    · cases hcD
  ca := fun X I k => exa_class X I Z k
end


def ExcO (e C : Addr) : HO := .ext (ExAt e C)

def tyIs (K : Frag) (H : Hp) (x : V) (c : Value) (b : Bool) : Prop :=
  (∃ t, TyOf K H x t ∧ kitOne K t c = some b) ∨ ∃ e C, x = .ref e ∧ H e = some (ExcO e C) ∧ ExK K C ∧ kitOne K (.ref C) c = some b

def cOf : V → Option Value
  | .ref a => some (.ref a)
  | .ty n => some (.type n)
  | _ => none
section
variable {X : Cx}
def rIsi (K : Frag) : List V → Hp → VK → Prop := fun xs H Q => ∃ x v c b, xs = [x, v] ∧ cOf v = some c ∧ tyIs K H x c b ∧ Q (.bl b) H
theorem call_isi : CallR X (.builtin "isinstance") (rIsi X.K) := by
  intro pins s σ H xs us Q I r h
  obtain ⟨x, v, c, b, rfl, hc, ht, q⟩ := h
  obtain ⟨u, u2, rfl, ru, ru2⟩ := r.two
  have e2 : u2 = c := by
    cases v with
    | ref a => have := (show u2 = Value.ref a from ru2); cases hc; exact this
    | ty n => have := (show u2 = Value.type n from ru2); cases hc; exact this
    | _ => cases hc
  subst e2
  have fin : ∀ tk, EP X pins σ Q (.bool b) { s with toks := tk } := fun tk => ⟨.bl b, H, I.tok tk, rfl, q⟩
  rcases ht with ⟨t, ty, e⟩ | ⟨e, C, rfl, hH, Z, e1⟩
  · exact isinst_ok I ru ty e fin
  · cases (show u = Value.ref e from ru)
    obtain ⟨p, _, _⟩ := (show ObjOk X.prog X.w H s.heap e (ExcO e C) from I.hok e _ hH)
    exact kia_one (exa_kit Z) I.kIn p e1 (fun z => nomatch z) fin
end
end L2


set_option Elab.async false
set_option linter.all false
set_option maxRecDepth 100000
set_option maxHeartbeats 1000000
namespace L2
open PySem PySem.Spec PyProof.Rows


theorem ObjOk.has {P : Program} {w : World} {H : Hp} {h : Heap} {a : Addr} {o : HO} (x : ObjOk P w H h a o) : ∃ u, h.get? a = some u := by
  induction o with
  | lst xs => obtain ⟨_, _, _, _, e⟩ := x; exact ⟨_, e⟩
  | tup xs => obtain ⟨_, _, _, o, e, _⟩ := x; exact ⟨_, e⟩
  | dK kvs => obtain ⟨_, _, _, _, o, _, _, e, _⟩ := x; exact ⟨_, e⟩
  | dT kvs => obtain ⟨_, _, _, _, o, _, _, e, _⟩ := x; exact ⟨_, e⟩
  | set S n => obtain ⟨o, _, _, _, e, _⟩ := x; exact ⟨_, e⟩
  | ins C dx fs => obtain ⟨_, _, _, e, _⟩ := x; exact ⟨_, e⟩
  | own y => exact x
  | xd fs => obtain ⟨_, ⟨_, _, _, e, _⟩, _⟩ := x; exact ⟨_, e⟩
  | rng lo hi => obtain ⟨_, _, _, e⟩ := x; exact ⟨_, e⟩
  | frz ob u _ => obtain ⟨e, _⟩ := x; exact ⟨_, e⟩
  | tbl ps => obtain ⟨_, e, _⟩ := x; exact ⟨_, e⟩
  | met f y => exact ⟨_, x⟩
  | ext φ => obtain ⟨_, e, _⟩ := x; exact e


structure Fly (P : Program) (w : World) (outer : List Env) (H : Hp) (s : Shared) (H' : Hp) (B : Heap) (e : Addr) (C a0 : Value) (s' : Shared) : Prop where
  os : s'.os = s.os
  bare : AllBare s'.gens
  fly : Heap.FlyingW B outer e C a0 s'.heap
  hok : HOk P w H' B
  keep : ∀ b o, s.heap.get? b = some o → H b = none → b ∉ frs outer → B.get? b = some o
  slot : ∀ b o, s.heap.get? b = some o → b ∈ frs outer → (∀ vs, o.data ≠ .fields vs) → ∃ sl, s'.heap.get? b = some { o with slots := sl }
  free : ∀ b o, s.heap.get? b = some o → H b = none → H' b = none
  there : ∀ b o, s.heap.get? b = some o → b ∉ frs outer → ∃ o', B.get? b = some o'
  tups : ∀ b xs, H b = some (.tup xs) → H' b = some (.tup xs)
  frzs : ∀ b o u, H b = some (.frz o u) → H' b = some (.frz o u)
  tbls : ∀ b ps, H b = some (.tbl ps) → ∃ more, H' b = some (.tbl (ps ++ more))
def CXE (P : Program) (w : World) : CXT := fun outer H s E ev s' => ∃ e C a0 H' B, ev = .ref e ∧ Fly P w outer H s H' B e C a0 s' ∧ E C none H'
theorem passE {P : Program} {w : World} {X : Cx} : Passes (CXE P w) X E0 := fun _ _ _ _ _ _ _ ⟨_, _, _, _, _, _, _, z⟩ => z.elim

section
variable {P : Program} {w : World} {K : PySem.W.Frag} {mg : Str → Option Value} {base : Heap} {N : List Str} {qual : Str} {scope : Scope} {f : Addr} {cd : Value} {A : Around} {outer : List Env} {s : Shared} {H : Hp} {E : XK}

theorem raise_leaves {pins : List (Addr × Obj)} {σ : St} {H1 : Hp} {s1 : Shared} {h' : Heap} {e : Addr} {C : Value} {vs : List Value} (I : Inv (cxOf (CXE P w) P w K mg base N qual scope f cd A outer s H E) pins σ H1 s1)
    (hx : Heap.MadeExcOf s1.heap h' e C vs) (hE : E C none H1) : (cxOf (CXE P w) P w K mg base N qual scope f cd A outer s H E).xe (.ref e) { s1 with heap := h' } := by
  let env := envOfC qual scope s.heap.objs.size f cd
  let B := PySem.W.hideAll s1.heap (frs (env :: outer))
  have hin : ∀ en ∈ (env :: outer), ∀ b, en.frame = some b → b ∈ frs (env :: outer) := fun en he b hb => List.mem_filterMap.mpr ⟨en, he, hb⟩
  have st : s1.heap.FunFrames base (env :: outer) := I.stack
  have loc : ∀ b, b ∈ frs (env :: outer) → b = s.heap.objs.size ∨ b ∈ frs outer := fun b hb => List.mem_cons.mp (I.stkSub b hb)
  have old : ∀ b o, s.heap.get? b = some o → b ∉ frs outer → b ∉ frs (env :: outer) := fun b o q nb hb => by
    rcases loc b hb with z | z
    · exact absurd (Heap.lt_size q) (by rw [z]; exact Nat.lt_irrefl _)
    · exact nb z
  have un : Un (frs outer) [] H H1 s.heap s1.heap := I.base
  have hokB : HOk P w H1 B := fun a o q => by
    have nf : ∀ b o, H1 b = some o → b ∉ frs (env :: outer) := fun b o z hb => by
      have := I.stkFree b hb
      rw [this] at z; cases z
    refine (I.hok a o q).stay (fun b u hb z => ?_) (fun _ z => z) (fun _ _ z => z) fun _ _ _ z => z
    rcases hb with hb | hb
    · rw [hb] at z ⊢; exact PySem.W.hideAll_get _ z (nf a o q)
    · exact PySem.W.hideAll_get _ z (nf b _ hb)
  refine wpAny_leaves_madeW (base := B) (h := s1.heap) (env := env) (outer := outer) (L := s.heap.objs.size) I.ok.frames rfl (fun b o q => PySem.W.of_hideAll _ q) (PySem.W.funFrames_hide st hin) hx fun h2 t x1 x2 x3 x4 => ?_
  refine ⟨e, C, .ref t, H1, B, rfl, ⟨I.os, I.bare, x1, hokB, fun b o q n nb => ?_, fun b o q hb hd => ?_, fun b o q n => un.free b o q n (by simp), fun b o q nb => ?_, un.tups, un.frzs, un.tbls⟩, hE⟩
  · exact PySem.W.hideAll_get _ (un.keep b o q n nb (by simp)) (old b o q nb)
  · obtain ⟨sl, z⟩ := un.slot b o q (I.ok.frf b hb) hb (by simp)
    obtain ⟨sl2, z2⟩ := x4 b _ (hx.keeps _ _ z) hd
    exact ⟨sl2, z2⟩
  · obtain ⟨o', z⟩ := un.there b o q (by simp)
    exact ⟨o', PySem.W.hideAll_get _ z (old b o q nb)⟩

theorem pass_on : Passes (CXE P w) (cxOf (CXE P w) P w K mg base N qual scope f cd A outer s H E) E := by
  intro pins σ H1 s1 ev s2 I h
  obtain ⟨e, C, a0, H', B, rfl, F, hE⟩ := h
  let env := envOfC qual scope s.heap.objs.size f cd
  have un : Un (frs outer) [] H H1 s.heap s1.heap := I.base
  have loc : ∀ b, b ∈ frs (env :: outer) → b = s.heap.objs.size ∨ b ∈ frs outer := fun b hb => List.mem_cons.mp (I.stkSub b hb)
  have old : ∀ b o, s.heap.get? b = some o → b ∉ frs outer → b ∉ frs (env :: outer) := fun b o q nb hb => by
    rcases loc b hb with z | z
    · exact absurd (Heap.lt_size q) (by rw [z]; exact Nat.lt_irrefl _)
    · exact nb z
  refine wpAny_leaves_onW (env := env) (outer := outer) (L := s.heap.objs.size) I.ok.frames rfl F.fly fun h2 x1 x2 => ?_
  refine ⟨e, C, a0, H', B, rfl, ⟨F.os.trans I.os, F.bare, x1, F.hok, fun b o q n nb => F.keep b o (un.keep b o q n nb (by simp)) (un.free b o q n (by simp)) (old b o q nb), fun b o q hb hd => ?_, fun b o q n => ?_, fun b o q nb => ?_, fun b xs z => F.tups b xs (un.tups b xs z), fun b o u z => F.frzs b o u (un.frzs b o u z), fun b ps z => ?_⟩, hE⟩
  · obtain ⟨sl, z⟩ := un.slot b o q (I.ok.frf b hb) hb (by simp)
    obtain ⟨en, he, hf⟩ := List.mem_filterMap.mp hb
    obtain ⟨sl2, z2⟩ := F.slot b _ z (List.mem_filterMap.mpr ⟨en, .tail _ he, hf⟩) hd
    obtain ⟨sl3, z3⟩ := x2 b _ z2 hd
    exact ⟨sl3, z3⟩
  · by_cases hb : b ∈ frs outer
    · have h1 : H1 b = none := un.free b o q n (by simp)
      obtain ⟨sl, z⟩ := un.slot b o q n hb (by simp)
      exact F.free b _ z h1
    · exact F.free b o (un.keep b o q n hb (by simp)) (un.free b o q n (by simp))
  · obtain ⟨o', z⟩ := un.there b o q (by simp)
    exact F.there b o' z (old b o q nb)
  · obtain ⟨m1, z1⟩ := un.tbls b ps z
    obtain ⟨m2, z2⟩ := F.tbls b _ z1
    exact ⟨m1 ++ m2, by rw [← Array.append_assoc]; exact z2⟩
end


abbrev bmV : List Value := [.type "ValueError", .type "Exception", .type "BaseException", .type "object"]
abbrev newV : String := "ValueError.__new__"
theorem own_mk {K : PySem.W.Frag} {h : Heap} {mg : Str → Option Value} {x : Str} {C : Addr} (X : K.In h) (hm : mg x = some (.ref C)) (q : PySem.W.excIn K C bmV newV = true) : OwnCls x C bmV newV mg h := by
  refine ⟨hm, ?_⟩
  unfold PySem.W.excIn at q; split at q
  · rename_i dd cd sl ho
    split at q
    · rename_i C' bm k0 k1 k2 k3 n k5 hmm hs
      simp only [Bool.and_eq_true, beq_iff_eq, Bool.not_eq_true'] at q; obtain ⟨⟨⟨⟨⟨rfl, rfl⟩, hdel⟩, ht⟩, hok⟩, hni⟩ := q
      obtain ⟨nm, bs, mro, ns, qn, hd, sn, sub, ab, col, del⟩ := cd; dsimp only at hmm hdel hok hni; subst hmm hdel
      have hsl : sl = #[k0, k1, k2, k3, some (.builtin newV), k5] := by obtain ⟨l⟩ := sl; simp only at hs; rw [hs]
      subst hsl; exact ⟨bm, ns, nm, qn, bs, hd, sn, sub, ab, col, dd, k0, k1, k2, k3, k5, _, X _ _ ho, .of_isNs (PySem.W.isNs_of_in X hok), PySem.W.nsMap_none_of_in X hok hni, PySem.W.tail_of_in X ht⟩
    · cases q
  · cases q
section
variable {X : Cx}
def tRaise (C : Addr) (E : XK) (t : TA) : TS := fun _ σ H => t σ H fun vs H1 => vs.length ≤ sizeLine ∧ E (.ref C) none H1
theorem ps_raise {x : Str} {C : Addr} {np cpos pos : Pos} {e0 : Expr} {es : List Expr} {t : TA} {E : XK} (hc : X.calm = true) (hg : Gl X x) (hm : X.mg x = some (.ref C)) (q : PySem.W.excIn X.K C bmV newV = true) (ha : PA X (e0 :: es) t)
    (hx : ∀ pins σ H s h' e vs, Inv X pins σ H s → Heap.MadeExcOf s.heap h' e (.ref C) vs → E (.ref C) none H → X.xe (.ref e) { s with heap := h' })
    (he : starEach (e0 :: es) X.env = (false, eval e0 X.env) :: starEach es X.env := by rfl) (hpl : (backTo cpos (starEach es X.env)).any (·.1) = false := by rfl) (hd : (x == ("__debug__" : Str)) = false := by decide) :
    PS X (.Raise (some (.Call (.Name x np) (e0 :: es) [] cpos)) none pos) (tRaise C E t) := by
  intro pins s σ H D I h
  obtain ⟨tl, Nn, nm, qn, bs, hdct, sn, sub, ab, col, dd, k0, k1, k2, k3, k5, mN, hC, hN, hni, T⟩ := (own_mk (x := x) I.mod.kin hm q).obj
  refine wpAny_Raise_call_subT (C := C) (nm := nm) (q := qn) (N := Nn) (bs := bs) (bm := tl) (hdct := hdct) (sn := sn) (sub := sub) (ab := ab) (col := col) (dd := dd) (k0 := k0) (k1 := k1) (k2 := k2) (k3 := k3) (k5 := k5)
    PySem.F.excBase_ValueError (mN := mN) (T.hasType PySem.F.excBase_ValueError.hasBase) (I.ok.hd hc) (by rw [he]; show (false || (backTo cpos (starEach es X.env)).any (·.1)) = false; rw [hpl]; rfl) hni (ld_glob I hg hm ⟨rfl, ?_⟩ hd)
  have h2 := ha cpos pins s σ H _ I h
  rw [he] at h2 ⊢
  exact Calls.evalArgs_plain (thn h2 fun us s2 ⟨vs, H2, I2, r, z, q2⟩ => ⟨rfl, by rw [← r.length]; exact z, I2.bk _ _ hC, hN.keeps I2.bk, T.keeps I2.bk, fun h' e hm' => hx pins σ H2 s2 h' e us I2 hm' q2⟩)
end
end L2


set_option Elab.async false
set_option linter.all false
set_option maxRecDepth 100000
set_option maxHeartbeats 1000000
namespace L2
open PySem PySem.Spec PyProof.Rows



section
variable {X : Cx}
def tCallX (sp : Sp) (E : St → XK) (t : TA) : TE := fun σ H Q => t σ H fun vs H1 => sp vs H1 Q (E σ)
end


section
variable {P : Program} {w : World} {K : PySem.W.Frag} {mg : Str → Option Value} {base : Heap}
theorem Fun.okX {x qual : Str} {st : Stmt} {f : Addr} {fd : FuncData} {N ps : List Str} {k : Nat} {sp : Sp} (F : Fun K x qual st f fd) (S : FnScope N ps (defScope st)) (len : ∀ vs H Q E, sp vs H Q E → vs.length = ps.length)
    (hbody : ∀ (cdv : Value) (A : Around) (outer : List Env) (s : Shared) (H : Hp) (vs : List V) (Q : VK) (E : XK), Room k (A.deeper (envOfC qual (defScope st) s.heap.objs.size f cdv)) → sp vs H Q E →
      ∃ t, PSs (cxOf (CXE P w) P w K mg base N qual (defScope st) f cdv A outer s H E) (defBody st) t ∧ t { nx := fun _ H' => Q .non H', rt := Q } (start N vs) H) : FnOk P w K mg base (CXE P w) (k + 1) f fd ps sp := by
  obtain ⟨oc, od, kV, doc, pm, an, cdv, ct, osl, rfl, lk, hcd⟩ := F.ex
  exact fn_of lk hcd S len fun A outer s H vs Q E hr hsp => hbody cdv A outer s H vs Q E hr hsp
end
end L2


set_option Elab.async false
set_option linter.all false
set_option maxRecDepth 100000
set_option maxHeartbeats 1000000
namespace L2
open PySem PySem.Spec PyProof.Rows PySem.W



section
variable {X : Cx}
theorem op_mulX : OpR X (binaryOp .Mult) (rI IntMulOk fun i j => .int (i * j)) := opI fun _ _ _ _ _ _ _ hc q => mul_int q hc
def rSum (K : Frag) : List V → Hp → VK → Prop := fun xs H Q => ∃ (p : Addr) (ns : List Int), xs = [.ref p] ∧ SqL K H p (ns.map V.int) ∧ Q (.int ns.sum) H
def rCount : V → List V → Hp → VK → Prop := fun x vs H Q => ∃ l xs y, x = .ref l ∧ vs = [y] ∧ H l = some (.lst xs) ∧ (∃ b, y = .bl b) ∧ (∀ z ∈ xs, ∃ b, z = .bl b) ∧ Q (.int (xs.countP fun z => decide (z = y))) H
def Itv (K : Frag) (a : Addr) (n : Nat) : It :=
  ⟨fun i H => i < n ∧ ∃ xs, SqL K H a xs ∧ xs.length = n, fun i H x H' => H' = H ∧ ∀ xs, SqL K H a xs → xs[n - 1 - i]? = some x, fun i _ => n ≤ i⟩
def iRev (K : Frag) (ta : TA) : TI := fun σ H R => ta σ H fun vs H1 => ∃ a xs, vs = [.ref a] ∧ SqL K H1 a xs ∧ R (Itv K a xs.length) H1
def PJ (X : Cx) (es : List (Sem Value)) (t : St → Hp → (Hp → Prop) → Prop) : Prop :=
  ∀ (out : Str) (pins : List (Addr × Obj)) (s : Shared) (σ : St) (H : Hp) (Q : Hp → Prop), out.length + 2000 * es.length ≤ 100000 → Inv X pins σ H s → t σ H Q →
    wpAny (model X.prog X.w) X.A (joinParts out es) (fun u s' => ∃ y tk H', u = .str y tk ∧ Inv X pins σ H' s' ∧ Q H') X.xe s
theorem pj_nil : PJ X [] (fun _ H Q => Q H) := fun out pins s σ H Q hl I h =>
  joinParts_nil ⟨out, _, H, rfl, I.tok _, h⟩ (by simp at hl; exact Nat.le_trans hl (by decide))
theorem pj_text {x : Str} {j : Nat} {pos : Pos} {es : List (Sem Value)} {t : St → Hp → (Hp → Prop) → Prop} (hx : x.length ≤ 2000) (h : PJ X es t) : PJ X (eval (.Constant (.str x) j pos) X.env :: es) t := by
  intro out pins s σ H Q hl I hq
  have hl' : (out ++ x).length + 2000 * es.length ≤ 100000 := by rw [PySem.strLen_append]; simp at hl; omega
  refine joinParts_cons (Calls.Constant_str ⟨Nat.le_trans (Nat.le_trans (Nat.le_add_right _ _) hl') (by decide), ?_⟩)
  exact h _ pins _ σ H Q hl' (I.tok _) hq

theorem log_small {i : Int} (h0 : 0 ≤ i) (h1 : i < 10 ^ 18) : i.natAbs.log2 < 1920 := by
  by_cases hz : i.natAbs = 0
  · rw [hz]; decide
  · have h3 : i.natAbs < 2 ^ 60 := by
      have : (2 : Nat) ^ 60 = 1152921504606846976 := by decide
      have h2 : (10 : Int) ^ 18 = 1000000000000000000 := by decide
      omega
    exact Nat.lt_of_lt_of_le ((Nat.log2_lt hz).mpr h3) (by decide)
theorem pj_int {e : Expr} {pos : Pos} {es : List (Sem Value)} {te : TE} {t : St → Hp → (Hp → Prop) → Prop} (he : PE X e te) (h : PJ X es t) : PJ X (eval (.FormattedValue e (-1) none pos) X.env :: es) (fun σ H Q => te σ H fun x H1 => ∃ i : Int, x = .int i ∧ (0 ≤ i ∧ i < 10 ^ 18) ∧ t σ H1 Q) := by
  intro out pins s σ H Q hl I hq
  refine joinParts_cons (FormattedValue_plain (thn (he pins s σ H _ I hq) fun u s1 ⟨x, H1, I1, r1, i, ex, ⟨h0, h1⟩, q⟩ => ?_))
  subst ex
  obtain ⟨tk, rfl⟩ := (show ∃ t, u = Value.int i t from r1)
  refine wpAny_formatField_int (log_small h0 h1) ?_
  have hx : (Str.ofString (toString i)).length ≤ 18 := toString_length_le h0 (by decide) h1
  have hl' : (out ++ Str.ofString (toString i)).length + 2000 * es.length ≤ 100000 := by rw [PySem.strLen_append]; simp at hl; omega
  refine ⟨Nat.le_trans (Nat.le_trans (Nat.le_add_right _ _) hl') (by decide), ?_⟩
  exact h _ pins _ σ H1 Q hl' (I1.tok _) q
theorem each_len (env : Env) : ∀ l : List Expr, (evalEach l env).length = l.length
  | [] => rfl
  | e :: r => by
    have : evalEach (e :: r) env = eval e env :: evalEach r env := rfl
    rw [this, List.length_cons, List.length_cons, each_len env r]
theorem pe_joined {e1 e2 : Expr} {rest : List Expr} {pos : Pos} {t : St → Hp → (Hp → Prop) → Prop} (h : PJ X (eval e1 X.env :: eval e2 X.env :: evalEach rest X.env) t) (hn : rest.length ≤ 20 := by decide) :
    PE X (.JoinedStr (e1 :: e2 :: rest) pos) (fun σ H Q => t σ H fun H1 => ∀ y, Q (.str y) H1) := by
  intro pins s σ H Q I hq
  have hle := each_len X.env rest
  refine JoinedStr_many (thn (h Str.empty pins s σ H _ (by simp only [List.length_cons, hle]; show 0 + _ ≤ _; omega) I hq) fun u s' ⟨y, tk, H', e, I', q⟩ => ?_)
  subst e
  exact ⟨.str y, H', I', ⟨tk, rfl⟩, q y⟩
end
end L2


set_option Elab.async false
set_option linter.all false
set_option maxRecDepth 100000
set_option maxHeartbeats 1000000
namespace L2
open PySem PySem.Spec PyProof.Rows PySem.W


def clsAt (mg : Str → Option Value) (x : Str) : Addr := match mg x with
  | some (.ref C) => C
  | _ => 0
def tokAt (mg : Str → Option Value) (x : Str) : Tok := match mg x with
  | some (.int _ t) => t
  | _ => default
def Callee (P : Program) (w : World) (K : Frag) (mg : Str → Option Value) (base : Heap) (x : Str) (k : Nat) (ps : List Str) (sp : Sp) : Prop :=
  ∃ f fd, mg x = some (.ref f) ∧ keepIn K (.ref f) = true ∧ Binds K fd ps [] ∧ FnOk P w K mg base (CXE P w) k f fd ps sp
section
variable {X : Cx}
theorem ps_nox {st : Stmt} {t : TS} (h : PS X.nox st t) : PS X st t := fun pins s σ H D I hw =>
  wpAny_mono (h pins s σ H D (I.wish _) hw) (fun _ _ q => q.unwish) fun _ _ z => False.elim z
theorem pe_callF {x : Str} {k : Nat} {ps : List Str} {sp : Sp} {E : XK} {e : Expr} {es : List Expr} {t : TA} {p pos : Pos} (C : Callee X.prog X.w X.K X.mg X.base x k ps sp) (hr : Room k X.A) (hg : Gl X x) (hx : Passes (CXE X.prog X.w) X E)
    (ha : PA X (e :: es) t) (hdb : (x == ("__debug__" : Str)) = false := by decide) (he : starEach (e :: es) X.env = (false, eval e X.env) :: starEach es X.env := by rfl) (hpl : (backTo pos (starEach es X.env)).any (·.1) = false := by rfl) :
    PE X (.Call (.Name x p) (e :: es) [] pos) (tCall sp [] E t) := by
  obtain ⟨f, fd, hm, hk, hb, F⟩ := C
  exact pe_call F hr hg hm hk hb .nil hx ha hdb he hpl
theorem raisesE {P : Program} {w : World} {K : Frag} {mg : Str → Option Value} {base : Heap} {N : List Str} {qual : Str} {scope : Scope} {f : Addr} {cd : Value} {A : Around} {outer : List Env} {s0 : Shared} {H0 : Hp} {E : XK} {C : Addr} :
    ∀ pins σ H s h' e vs, Inv (cxOf (CXE P w) P w K mg base N qual scope f cd A outer s0 H0 E) pins σ H s → Heap.MadeExcOf s.heap h' e (.ref C) vs → E (.ref C) none H → (cxOf (CXE P w) P w K mg base N qual scope f cd A outer s0 H0 E).xe (.ref e) { s with heap := h' } :=
  fun _ _ _ _ _ _ _ I hx hE => raise_leaves I hx hE
end
theorem bt_max : bootBuiltins "max" = some (.builtin "max") := by decide +kernel
theorem bt_min : bootBuiltins "min" = some (.builtin "min") := by decide +kernel
theorem bt_isinstance : bootBuiltins "isinstance" = some (.builtin "isinstance") := by decide +kernel
theorem bt_list : bootBuiltins "list" = some (.type "list") := by decide +kernel
theorem bt_tuple : bootBuiltins "tuple" = some (.type "tuple") := by decide +kernel
theorem bt_int : bootBuiltins "int" = some (.type "int") := by decide +kernel
theorem bt_bool : bootBuiltins "bool" = some (.type "bool") := by decide +kernel
end L2


set_option Elab.async false
set_option linter.all false
set_option maxRecDepth 100000
set_option maxHeartbeats 1000000
namespace L2
open PySem PySem.Spec PyProof.Rows PySem.W


section
variable {X : Cx} {pins : List (Addr × Obj)} {σ : St} {H : Hp} {s : Shared} {h' : Heap}

theorem Inv.turnedL {t' : Nat} {fp : List Addr} (I : Inv X pins σ H s) (k : ∀ b o, b ∉ fp → s.heap.get? b = some o → h'.get? b = some o) (hf : ∀ b ∈ fp, FpOk X pins H b) : Inv X pins σ H { s with heap := h', toks := t' } := by
  have nit : ∀ b u, H b = some u → b ∉ fp := fun b u e z => by rw [(hf b z).1] at e; cases e
  refine I.step (g' := s.gens) (d' := s.drawn) (ch := fp) (fun b hb => ?_) (fun b o _ _ hc e _ => k b o hc e) (fun b o _ _ hc e _ => ⟨o.slots, k b o hc e⟩) (fun _ _ _ _ n => n)
    (fun b o hc e => ⟨o, k b o hc e⟩) (fun _ _ e => e) (fun _ _ _ e => e) (fun b ps e => ⟨#[], by rw [e]; simp⟩) (fun m hm => ?_) (fun b u e => ?_) I.bare
  · obtain ⟨_, f1, _, f3, f4, f5⟩ := hf b hb
    exact ⟨f3, f1, f4, f5⟩
  · obtain ⟨o, es, ep, ho, r⟩ := hm
    exact ⟨o, es, ep, k _ o (fun z => (hf _ z).2.1 rfl) ho, r⟩
  · refine (I.hok b u e).stay (fun c v hc q => k c v ?_ q) (fun _ q => q) (fun _ _ q => q) fun _ _ _ q => q
    rcases hc with z | z
    · rw [z]; exact nit b u e
    · exact nit c _ z

def Itz (K : Frag) (a b : Addr) : It :=
  ⟨fun i H => ∃ xs ys x y, SqL K H a xs ∧ SqL K H b ys ∧ xs[i]? = some x ∧ ys[i]? = some y,
   fun i H v H' => ∃ p x y, H p = none ∧ v = .ref p ∧ H' = upd H p (.tup [x, y]) ∧ (∀ xs, SqL K H a xs → xs[i]? = some x) ∧ ∀ ys, SqL K H b ys → ys[i]? = some y,
   fun i H => ∃ xs ys, SqL K H a xs ∧ SqL K H b ys ∧ (xs.length ≤ i ∨ ys.length ≤ i)⟩
theorem zapart (n a b : Nat) (h1 : a < n) (h2 : b < n) : ZipApart (n + 4) (n + 2) (n + 3) n (n + 1) a b := by
  constructor <;> (show ¬ ((_ : Nat) = _); omega)
def iZip (K : Frag) (ta : TA) : TI := fun σ H R => ta σ H fun vs H1 => ∃ a b xs ys, vs = [.ref a, .ref b] ∧ SqL K H1 a xs ∧ SqL K H1 b ys ∧ R (Itz K a b) H1
theorem boot_zip' : bootBuiltins "zip" = some (.type "zip") := by decide +kernel
end
end L2


set_option Elab.async false
set_option linter.all false
set_option maxRecDepth 100000
set_option maxHeartbeats 1000000
namespace L2
open PySem PySem.Spec PyProof.Rows PySem.W


theorem cxK {CX : CXT} {P : Program} {w : World} {K : Frag} {mg : Str → Option Value} {base : Heap} {N : List Str} {qual : Str} {scope : Scope} {f : Addr} {cd : Value} {A : Around} {outer : List Env} {s : Shared} {H : Hp} {E : XK} :
    (cxOf CX P w K mg base N qual scope f cd A outer s H E).K = K := rfl
theorem Same.upd {H H1 : Hp} {p : Addr} {o : HO} (h : H p = none) (e : Same H H1) : Same H (upd H1 p o) := fun b u z => by
  rw [upd_ne (ne_of_none z h)]; exact e b u z
theorem Same.upd' {H H1 : Hp} {p : Addr} {o : HO} (e : Same H H1) (h : H1 p = none) : Same H (L2.upd H1 p o) := e.upd (e.free h)
theorem pg_tupK {X : Cx} {K : Frag} {es : List Expr} {pos : Pos} {k : Nat} {t : TGs} {n : Nat} (hK : X.K = K) (hc : X.calm = true) (h : PGs X es t)
    (hn : (assignEach es X.env).length = n := by rfl) (hst : (assignEach es X.env).findIdx? (·.1) = none := by rfl) : PG X (.Tuple es k pos) (gTup K n t) := hK ▸ pg_tup hc h hn hst

def LoopR (J : It) (g : TG) (tb : TS) (D : Ends) (σ : St) (H1 : Hp) : Prop := ∃ W : Nat → Nat → St → Hp → Prop, (∃ m, W 0 m σ H1) ∧ ∀ i m σ H, W i m σ H →
  (J.stop i H ∧ D.nx σ H) ∨ (J.go i H ∧ ∃ N : St → Hp → Prop, (∀ σ' H', N σ' H' → ∃ m', m' < m ∧ W (i + 1) m' σ' H') ∧ ∀ x H', J.yld i H x H' → g x σ H' fun σ2 H2 => tb { D with nx := N, ct := N, bk := D.nx } σ2 H2)
theorem tFor_eq {wi : TI} {g : TG} {tb : TS} {D : Ends} {σ : St} {H : Hp} : tFor wi g tb D σ H = wi σ H fun J H1 => LoopR J g tb D σ H1 := rfl
def WhileR (c : TT) (tb : TS) (D : Ends) (σ : St) (H : Hp) : Prop := tWhile c tb D σ H
theorem tWhile_eq {c : TT} {tb : TS} {D : Ends} {σ : St} {H : Hp} : tWhile c tb D σ H = WhileR c tb D σ H := rfl
def CompR (J : It) (g : TG) (tt : TT) (te : TE) (σ0 : St) (Q : VK) (H1 : Hp) : Prop := ∃ W : Nat → Nat → List V → Hp → Prop, (∃ m, W 0 m [] H1) ∧ ∀ i m acc H, W i m acc H →
  (J.stop i H ∧ acc.length ≤ sizeLine ∧ ∀ p, H p = none → Q (.ref p) (upd H p (.lst acc))) ∨
  (J.go i H ∧ acc.length < sizeLine ∧ ∀ x H', J.yld i H x H' → g x σ0 H' fun σ2 H2 => tt σ2 H2 fun b H3 => if b = true then te σ2 H3 fun v H4 => ∃ m', m' < m ∧ W (i + 1) m' (acc ++ [v]) H4 else ∃ m', m' < m ∧ W (i + 1) m' acc H3)
theorem tComp_eq {wi : TI} {g : TG} {tt : TT} {te : TE} {js : List (Option Nat)} {σ : St} {H : Hp} {Q : VK} : tComp wi g tt te js σ H Q = wi σ H fun J H1 => CompR J g tt te (iniC js σ) Q H1 := rfl

def CW (n : Nat) (vals : Nat → V) (H1 : Hp) (i m : Nat) (acc : List V) (H : Hp) : Prop := m = n - i ∧ i ≤ n ∧ acc = (List.range i).map vals ∧ Same H1 H
theorem CW.next {n : Nat} {vals : Nat → V} {H1 H : Hp} {i : Nat} {v : V} (hi : i < n) (hv : v = vals i) (s : Same H1 H) : ∃ m', m' < n - i ∧ CW n vals H1 (i + 1) m' ((List.range i).map vals ++ [v]) H :=
  ⟨n - (i + 1), by omega, rfl, hi, by rw [List.range_succ, List.map_append, hv]; rfl, s⟩
theorem comp_map {J : It} {n : Nat} {H1 : Hp} {g : TG} {tt : TT} {te : TE} {σ0 : St} {Q : VK} (vals : Nat → V) (hn : n < sizeLine) (hgo : ∀ i H, Same H1 H → i < n → J.go i H) (hstop : ∀ H, Same H1 H → J.stop n H)
    (hb : ∀ i x H H', i < n → Same H1 H → J.yld i H x H' → g x σ0 H' fun σ2 H2 => tt σ2 H2 fun b H3 => if b = true then te σ2 H3 fun v H4 => ∃ m', m' < n - i ∧ CW n vals H1 (i + 1) m' ((List.range i).map vals ++ [v]) H4 else ∃ m', m' < n - i ∧ CW n vals H1 (i + 1) m' ((List.range i).map vals) H3)
    (hk : ∀ l H', Same H1 H' → H' l = none → Q (.ref l) (upd H' l (.lst ((List.range n).map vals)))) :
    CompR J g tt te σ0 Q H1 := by
  refine ⟨CW n vals H1, ⟨n, rfl, Nat.zero_le _, rfl, Same.refl _⟩, ?_⟩
  rintro i m acc H ⟨rfl, hi, rfl, s⟩
  by_cases h : i < n
  · refine .inr ⟨hgo i H s h, by simpa using Nat.lt_trans h hn, fun x H' y => hb i x H H' h s y⟩
  · have e : i = n := by omega
    subst e
    exact .inl ⟨hstop H s, by simpa using Nat.le_of_lt hn, fun p hp => hk p H s hp⟩
theorem atI_at {α : Type} {xs : List α} {i : Int} {j : Nat} (h : i = (j : Int)) (hj : j < xs.length) : atI xs i = some xs[j] := by
  subst h
  unfold atI ixN
  rw [if_pos (by omega), if_pos (by omega)]
  simp
theorem atI_all {α : Type} {xs : List α} {i : Int} (C : α → Prop) (h0 : 0 ≤ i) (h1 : i < xs.length) (h : ∀ x ∈ xs, C x) : ∃ v, atI xs i = some v ∧ C v := by
  obtain ⟨j, rfl⟩ := Int.eq_ofNat_of_zero_le h0
  have hj : j < xs.length := by omega
  exact ⟨xs[j], atI_at rfl hj, h _ (List.getElem_mem hj)⟩
theorem mul_r {a b : Int} (h1 : -(2 ^ 64) < b) (h2 : b < 2 ^ 64) : IntMulOk a b := IntMulOk.of_right (intBits_le_64 h1 h2)
theorem mul_l {a b : Int} (h1 : -(2 ^ 64) < a) (h2 : a < 2 ^ 64) : IntMulOk a b := IntMulOk.of_left (intBits_le_64 h1 h2)
theorem big_mul {a b : Int} (ha : Builtin.Int.intBits a ≤ 2 ^ 20) (hb : Builtin.Int.intBits b ≤ 2 ^ 20) : IntMulOk a b := IntMulOk.of_bits ha hb
theorem cp64 : CPow 10 64 := by unfold CPow; decide
theorem cp18 : CPow 10 18 := by unfold CPow; decide
theorem pm1 : IntMulOk (10 ^ Int.toNat 64) (10 ^ Int.toNat 64) := big_mul (by decide +kernel) (by decide +kernel)
theorem pm2 : IntMulOk (10 ^ Int.toNat 64 * 10 ^ Int.toNat 64) (10 ^ Int.toNat 64) := big_mul (by decide +kernel) (by decide +kernel)
theorem pm3 : IntMulOk (10 ^ Int.toNat 64 * 10 ^ Int.toNat 64 * 10 ^ Int.toNat 64) (10 ^ Int.toNat 64) := big_mul (by decide +kernel) (by decide +kernel)
theorem pm4 : (0 : Int) < 10 ^ Int.toNat 64 * 10 ^ Int.toNat 64 * 10 ^ Int.toNat 64 * 10 ^ Int.toNat 64 := by decide +kernel
theorem pm5 : (0 : Int) < 2147483629 := by decide
theorem pm6 : (0 : Int) < 2147483647 := by decide
theorem pm7 : 0 + 1 + 1 ≤ sizeLine := by decide

def PoolAt (H : Hp) (p : Addr) : Prop := ∃ x y : Int, H p = some (.lst [.int x, .int y]) ∧ 0 ≤ x ∧ 0 ≤ y ∧ y < 2147483647
def Exc (p : Addr) (H H' : Hp) : Prop := ∀ b o, b ≠ p → H b = some o → H' b = some o
theorem Same.exc {H H1 H2 : Hp} {p : Addr} (s : Same H H1) (h : H p = none) (e : Exc p H1 H2) : Same H H2 := fun b o z => e b o (ne_of_none z h) (s b o z)
theorem Same.toExc {H H' : Hp} {p : Addr} (s : Same H H') : Exc p H H' := fun b o _ z => s b o z
theorem Exc.upd {H : Hp} {p : Addr} {o : HO} : Exc p H (L2.upd H p o) := fun b u n z => by rw [upd_ne n]; exact z
theorem PoolAt.ne {H : Hp} {p q : Addr} (P : PoolAt H p) (h : H q = none) : q ≠ p := by
  obtain ⟨x, y, e, _⟩ := P
  exact (ne_of_none e h).symm
theorem PoolAt.same {H H' : Hp} {p : Addr} (P : PoolAt H p) (s : Same H H') : PoolAt H' p := by
  obtain ⟨x, y, e, r⟩ := P
  exact ⟨x, y, s _ _ e, r⟩
theorem PoolAt.upd {H : Hp} {p q : Addr} {o : HO} (P : PoolAt H p) (h : H q = none) : PoolAt (L2.upd H q o) p := P.same ((Same.refl H).upd h)
theorem range_getD {α β : Type} (xs : List α) (d : α) (f : α → β) (n : Nat) (h : n = xs.length) : (List.range n).map (fun j => f (xs.getD j d)) = xs.map f := by
  subst h
  refine List.ext_getElem (by simp) fun j h1 h2 => ?_
  have hj : j < xs.length := by simpa using h1
  simp [List.getD_eq_getElem?_getD, hj]
theorem tyV_list {K : Frag} {H : Hp} {p : Addr} {xs : List V} (h : H p = some (.lst xs)) : tyV K "list" (.ref p) H := .inl ⟨rfl, _, SqL.of h⟩
theorem scal_ii {i j : Int} : scal (.int i) (.int j) = true := rfl
theorem scal_bb {i j : Bool} : scal (.bl i) (.bl j) = true := rfl
theorem scal_ss {i j : Str} : scal (.str i) (.str j) = true := rfl
theorem scal_nn : scal .non .non = true := rfl
theorem scal_ni {i : Int} : scal .non (.int i) = true := rfl
theorem scal_in {i : Int} : scal (.int i) .non = true := rfl
section
variable {X : Cx}
def rLen (K : Frag) : List V → Hp → VK → Prop := fun xs H Q => ∃ p ys, xs = [.ref p] ∧ (SqL K H p ys ∨ SqT K H p ys) ∧ Q (.int ys.length) H
theorem call_lenK {K : Frag} (hK : X.K = K) : CallR X (.builtin "len") (rLen K) := by subst hK; exact call_len_seq
def rLof (K : Frag) : List V → Hp → VK → Prop := fun xs H Q => ∃ p ys, xs = [.ref p] ∧ (SqL K H p ys ∨ SqT K H p ys) ∧ ∀ l, H l = none → Q (.ref l) (upd H l (.lst ys))
theorem call_listK {K : Frag} (hK : X.K = K) : CallR X (.type "list") (rLof K) := by subst hK; exact call_list_of
def rTof (K : Frag) : List V → Hp → VK → Prop := fun xs H Q => ∃ p ys, xs = [.ref p] ∧ ((SqL K H p ys ∧ ∀ l, H l = none → Q (.ref l) (upd H l (.tup ys))) ∨ (SqT K H p ys ∧ Q (.ref p) H))
theorem call_tupK {K : Frag} (hK : X.K = K) : CallR X (.type "tuple") (rTof K) := by subst hK; exact call_tuple_of
theorem call_isiK {K : Frag} (hK : X.K = K) : CallR X (.builtin "isinstance") (rIsi K) := by subst hK; exact call_isi
end
theorem ty_ii {K : Frag} {H : Hp} {i : Int} : tyIs K H (.int i) (.type "int") true := .inl ⟨_, .int i, by with_unfolding_all rfl⟩
theorem ty_ib {K : Frag} {H : Hp} {i : Int} : tyIs K H (.int i) (.type "bool") false := .inl ⟨_, .int i, by with_unfolding_all rfl⟩
theorem cOf_ref {a : Addr} {x : Value} : (cOf (.ref a) = some x) = (.ref a = x) := by simp [cOf]
theorem cOf_ty {n : String} {x : Value} : (cOf (.ty n) = some x) = (.type n = x) := by simp [cOf]
end L2


set_option Elab.async false
set_option linter.all false
set_option maxRecDepth 100000
set_option maxHeartbeats 1000000
namespace L2
open PySem PySem.Spec PyProof.Rows PySem.W


section
variable {X : Cx} {e st : Expr} {te ts : TE} {pos p2 : Pos}
def tRev (K : Frag) (te ts : TE) : TE := fun σ H Q => te σ H fun x H1 => ts σ H1 fun z H2 => ∃ a xs, x = .ref a ∧ z = .int (-1) ∧ SqL K H2 a xs ∧ ∀ p, H2 p = none → Q (.ref p) (upd H2 p (.lst xs.reverse))
theorem Vals.rev : ∀ {xs : List V} {us : List Value}, Vals xs us → Vals xs.reverse us.reverse := by
  intro xs us h
  induction h with
  | nil => exact .nil
  | cons r _ ih => rw [List.reverse_cons, List.reverse_cons]; exact ih.append (.cons r .nil)
end
end L2


set_option Elab.async false
set_option linter.all false
set_option maxRecDepth 100000
set_option maxHeartbeats 1000000
namespace L2
open PySem PySem.Spec PyProof.Rows PySem.W


def Rows (H : Hp) (l : Addr) (rs : List (List Int)) : Prop := ∃ as : List Addr, H l = some (.lst (as.map V.ref)) ∧ l ∉ as ∧ as.length = rs.length ∧ ∀ i (h1 : i < as.length) (h2 : i < rs.length), H as[i] = some (.lst (rs[i].map V.int))
theorem Rows.same {H H' : Hp} {l : Addr} {rs : List (List Int)} (R : Rows H l rs) (s : Same H H') : Rows H' l rs := by
  obtain ⟨as, e, n, hl, h⟩ := R
  exact ⟨as, s _ _ e, n, hl, fun i h1 h2 => s _ _ (h i h1 h2)⟩
theorem Rows.at {K : Frag} {H : Hp} {l : Addr} {rs : List (List Int)} (R : Rows H l rs) {i : Nat} (h : i < rs.length) : ∃ xs a, SqL K H l xs ∧ atI xs (i : Int) = some (.ref a) ∧ H a = some (.lst (rs[i].map V.int)) := by
  obtain ⟨as, e, n, hl, hh⟩ := R
  have hi : i < as.length := by omega
  refine ⟨_, as[i], SqL.of e, ?_, hh i hi h⟩
  rw [atI_at rfl (by simpa using hi)]; simp
theorem Rows.push {H : Hp} {l p : Addr} {rs : List (List Int)} {r : List Int} {as : List Addr} (e : H l = some (.lst (as.map V.ref))) (n : l ∉ as) (hl : as.length = rs.length) (h : ∀ i (h1 : i < as.length) (h2 : i < rs.length), H as[i] = some (.lst (rs[i].map V.int)))
    (hp : H p = some (.lst (r.map V.int))) (np : p ≠ l) : Rows (upd H l (.lst (as.map V.ref ++ [.ref p]))) l (rs ++ [r]) := by
  refine ⟨as ++ [p], by rw [upd_same]; simp, ?_, by simp [hl], fun i h1 h2 => ?_⟩
  · simp only [List.mem_append, List.mem_singleton, not_or]
    exact ⟨n, fun z => np z.symm⟩
  · by_cases hi : i < as.length
    · have e1 : (as ++ [p])[i] = as[i] := List.getElem_append_left hi
      have e2 : (rs ++ [r])[i] = rs[i]'(by omega) := List.getElem_append_left (by omega)
      rw [e1, e2, upd_ne]
      · exact h i hi (by omega)
      · intro z; exact n (z ▸ List.getElem_mem hi)
    · have e1 : (as ++ [p])[i] = p := by rw [List.getElem_append_right (by omega)]; simp
      have e2 : (rs ++ [r])[i] = r := by rw [List.getElem_append_right (by omega)]; simp
      rw [e1, e2, upd_ne np]; exact hp
end L2


set_option Elab.async false
set_option linter.all false
set_option maxRecDepth 100000
set_option maxHeartbeats 1000000
namespace L2
open PySem PySem.Spec PyProof.Rows PySem.W


inductive EqD (K : Frag) (H : Hp) : Nat → V → V → Bool → Prop
  | flat {n : Nat} {x y : V} (fx : flatV x = true) (fy : flatV y = true) : EqD K H n x y (eqV x y)
  | lst {n : Nat} {a b : Addr} {xs ys : List V} (e : Nat → Bool) (hx : SqL K H a xs) (hy : SqL K H b ys) (hl : xs.length = ys.length) (h : ∀ j x y, xs[j]? = some x → ys[j]? = some y → EqD K H n x y (e j)) : EqD K H (n + 1) (.ref a) (.ref b) ((List.range xs.length).all e)
  | len {n : Nat} {a b : Addr} {xs ys : List V} (hx : SqL K H a xs) (hy : SqL K H b ys) (hl : xs.length ≠ ys.length) : EqD K H (n + 1) (.ref a) (.ref b) false
  | tup {n : Nat} {a b : Addr} {xs ys : List V} (e : Nat → Bool) (hx : SqT K H a xs) (hy : SqT K H b ys) (h : ∀ j x y, xs[j]? = some x → ys[j]? = some y → EqD K H n x y (e j)) : EqD K H (n + 1) (.ref a) (.ref b) ((List.range (min xs.length ys.length)).all e && xs.length == ys.length)
theorem eqV_refl {x : V} (h : flatV x = true) : eqV x x = true := by
  cases x <;> first
    | rfl
    | (simp [eqV]; done)
    | cases h
section
variable {X : Cx} {pins : List (Addr × Obj)} {σ : St} {H : Hp} {s : Shared}
theorem eqd_refl (I : Inv X pins σ H s) {n : Nat} {x y : V} {b : Bool} (h : EqD X.K H n x y b) : x = y → b = true := by
  induction h with
  | flat fx fy => rintro rfl; exact eqV_refl fx
  | lst e hx hy hl h ih =>
    intro z
    cases z
    have := I.list_inj hx hy
    subst this
    refine List.all_eq_true.mpr fun j hj => ?_
    have hj' := List.mem_range.mp hj
    exact ih j _ _ (List.getElem?_eq_getElem hj') (List.getElem?_eq_getElem hj') rfl
  | len hx hy hl =>
    intro z
    cases z
    have := I.list_inj hx hy
    subst this
    exact absurd rfl hl
  | tup e hx hy h ih =>
    intro z
    cases z
    have := I.tuple_inj hx hy
    subst this
    rw [Nat.min_self]
    have : (List.range _).all e = true := List.all_eq_true.mpr fun j hj => by
      have hj' := List.mem_range.mp hj
      exact ih j _ _ (List.getElem?_eq_getElem hj') (List.getElem?_eq_getElem hj') rfl
    rw [this]; simp
theorem eqd_at (I : Inv X pins σ H s) {n : Nat} {x y : V} {b : Bool} (h : EqD X.K H n x y b) : ∀ (A : Around) (u v : Value), A.units + n < cLine → RelV x u → RelV y v → SeqAt.EqAt A s u v b := by
  induction h with
  | flat fx fy => intro A u v _ ru rv; exact eqAt_V ru rv fx fy
  | @lst n a b xs ys e hx hy hl h ih =>
    intro A u v hu ru rv
    have hb := eqd_refl I (.lst e hx hy hl h)
    cases ru
    cases rv
    by_cases hab : a = b
    · subst hab
      rw [hb rfl]; exact SeqAt.EqAt.same _
    · obtain ⟨is1, r1, p1, _⟩ := I.list hx
      obtain ⟨is2, r2, p2, _⟩ := I.list hy
      have e1 := r1.length
      have e2 := r2.length
      have key := SeqAt.RcAt.lists (A := A) (s := s) (e := e) p1.isList p2.isList (by simp; omega) (by omega) fun j h1 h2 => by
        have h1' : j < xs.length := by simpa [e1] using h1
        have h2' : j < ys.length := by simpa [e2] using h2
        obtain ⟨u, hu1, ru⟩ := r1.get (List.getElem?_eq_getElem h1')
        obtain ⟨v, hv1, rv⟩ := r2.get (List.getElem?_eq_getElem h2')
        have eu : is1.toArray[j] = u := by simpa using (List.getElem?_eq_some_iff.mp hu1).2
        have ev : is2.toArray[j] = v := by simpa using (List.getElem?_eq_some_iff.mp hv1).2
        rw [eu, ev]
        exact ih j _ _ (List.getElem?_eq_getElem h1') (List.getElem?_eq_getElem h2') A.in1 u v (by show A.units + 1 + n < cLine; omega) ru rv
      have e3 : is1.toArray.size = xs.length := by simp [e1]
      rw [e3] at key
      exact SeqAt.EqAt.of_refs hab key
  | @len n a b xs ys hx hy hl =>
    intro A u v hu ru rv
    cases ru
    cases rv
    have hab : a ≠ b := fun z => by subst z; exact hl (congrArg List.length (I.list_inj hx hy))
    obtain ⟨is1, r1, p1, _⟩ := I.list hx
    obtain ⟨is2, r2, p2, _⟩ := I.list hy
    have e1 := r1.length
    have e2 := r2.length
    exact SeqAt.EqAt.of_refs hab (SeqAt.RcAt.lists_lengths p1.isList p2.isList (by simp; omega) (by omega))
  | @tup n a b xs ys e hx hy h ih =>
    intro A u v hu ru rv
    have hb := eqd_refl I (.tup e hx hy h)
    cases ru
    cases rv
    by_cases hab : a = b
    · subst hab
      rw [hb rfl]; exact SeqAt.EqAt.same _
    · obtain ⟨is1, r1, p1, _⟩ := I.tuple hx
      obtain ⟨is2, r2, p2, _⟩ := I.tuple hy
      have e1 := r1.length
      have e2 := r2.length
      have key := SeqAt.RcAt.tuples (A := A) (s := s) (e := e) p1 p2 (by omega) fun j h1 h2 => by
        have h1' : j < xs.length := by simpa [e1] using h1
        have h2' : j < ys.length := by simpa [e2] using h2
        obtain ⟨u, hu1, ru⟩ := r1.get (List.getElem?_eq_getElem h1')
        obtain ⟨v, hv1, rv⟩ := r2.get (List.getElem?_eq_getElem h2')
        have eu : is1.toArray[j] = u := by simpa using (List.getElem?_eq_some_iff.mp hu1).2
        have ev : is2.toArray[j] = v := by simpa using (List.getElem?_eq_some_iff.mp hv1).2
        rw [eu, ev]
        exact ih j _ _ (List.getElem?_eq_getElem h1') (List.getElem?_eq_getElem h2') A.in1 u v (by show A.units + 1 + n < cLine; omega) ru rv
      have e3 : is1.toArray.size = xs.length := by simp [e1]
      have e4 : is2.toArray.size = ys.length := by simp [e2]
      rw [e3, e4] at key
      exact SeqAt.EqAt.of_refs hab key
end
def rEqD (K : Frag) (neg : Bool) : R2 := fun x y H Q => ∃ a b k, x = .ref a ∧ y = .ref b ∧ EqD K H 3 x y k ∧ Q (.bl (if neg then !k else k)) H
section
variable {X : Cx}
theorem op_eqD {K : Frag} (hK : X.K = K) {k : Nat} (hr : Room k X.A) : OpR X (compareOp .Eq) (rEqD K false) := by
  subst hK
  have hu0 := hr.un
  intro pins s σ H x y v u Q I rx ry h
  obtain ⟨a, b, k, rfl, rfl, h, q⟩ := h
  cases rx
  cases ry
  cases h with
  | flat fx fy => cases fx
  | @lst n _ _ xs ys e hx hy hl h =>
    obtain ⟨is1, r1, p1, _⟩ := I.list hx
    obtain ⟨is2, r2, p2, _⟩ := I.list hy
    have e1 := r1.length
    have e2 := r2.length
    have e3 : is1.toArray.size = xs.length := by simp [e1]
    refine SeqAt.eq_listAt (e := e) p1.isList p2.isList (by simp; omega) (by omega) (fun j h1 h2 => ?_) ⟨.bl _, H, I, rfl, by rw [e3]; exact q⟩
    have h1' : j < xs.length := by simpa [e1] using h1
    have h2' : j < ys.length := by simpa [e2] using h2
    obtain ⟨u, hu1, ru⟩ := r1.get (List.getElem?_eq_getElem h1')
    obtain ⟨v, hv1, rv⟩ := r2.get (List.getElem?_eq_getElem h2')
    have eu : is1.toArray[j] = u := by simpa using (List.getElem?_eq_some_iff.mp hu1).2
    have ev : is2.toArray[j] = v := by simpa using (List.getElem?_eq_some_iff.mp hv1).2
    rw [eu, ev]
    exact eqd_at I (h j _ _ (List.getElem?_eq_getElem h1') (List.getElem?_eq_getElem h2')) X.A.in1 u v (by show X.A.units + 1 + 2 < cLine; omega) ru rv
  | @len n _ _ xs ys hx hy hl =>
    obtain ⟨is1, r1, p1, _⟩ := I.list hx
    obtain ⟨is2, r2, p2, _⟩ := I.list hy
    have e1 := r1.length
    have e2 := r2.length
    exact SeqAt.eq_list_lengthsAt p1.isList p2.isList (by simp; omega) (by omega) ⟨.bl _, H, I, rfl, q⟩
  | @tup n _ _ xs ys e hx hy h =>
    obtain ⟨is1, r1, p1, _⟩ := I.tuple hx
    obtain ⟨is2, r2, p2, _⟩ := I.tuple hy
    have e1 := r1.length
    have e2 := r2.length
    have e3 : is1.toArray.size = xs.length := by simp [e1]
    have e4 : is2.toArray.size = ys.length := by simp [e2]
    refine SeqAt.eq_tupleAt (e := e) p1 p2 (by omega) (fun j h1 h2 => ?_) ⟨.bl _, H, I, rfl, by rw [e3, e4]; exact q⟩
    have h1' : j < xs.length := by simpa [e1] using h1
    have h2' : j < ys.length := by simpa [e2] using h2
    obtain ⟨u, hu1, ru⟩ := r1.get (List.getElem?_eq_getElem h1')
    obtain ⟨v, hv1, rv⟩ := r2.get (List.getElem?_eq_getElem h2')
    have eu : is1.toArray[j] = u := by simpa using (List.getElem?_eq_some_iff.mp hu1).2
    have ev : is2.toArray[j] = v := by simpa using (List.getElem?_eq_some_iff.mp hv1).2
    rw [eu, ev]
    exact eqd_at I (h j _ _ (List.getElem?_eq_getElem h1') (List.getElem?_eq_getElem h2')) X.A.in1 u v (by show X.A.units + 1 + 2 < cLine; omega) ru rv
theorem op_neD {K : Frag} (hK : X.K = K) {k : Nat} (hr : Room k X.A) : OpR X (compareOp .NotEq) (rEqD K true) := by
  subst hK
  have hu0 := hr.un
  intro pins s σ H x y v u Q I rx ry h
  obtain ⟨a, b, k, rfl, rfl, h, q⟩ := h
  cases rx
  cases ry
  cases h with
  | flat fx fy => cases fx
  | @lst n _ _ xs ys e hx hy hl h =>
    obtain ⟨is1, r1, p1, _⟩ := I.list hx
    obtain ⟨is2, r2, p2, _⟩ := I.list hy
    have e1 := r1.length
    have e2 := r2.length
    have e3 : is1.toArray.size = xs.length := by simp [e1]
    refine SeqAt.RcNeAt.lists (e := e) p1.isList p2.isList (by simp; omega) (by omega) (fun j h1 h2 => ?_) _ _ _ _ ⟨.bl _, H, I, rfl, by rw [e3]; exact q⟩
    have h1' : j < xs.length := by simpa [e1] using h1
    have h2' : j < ys.length := by simpa [e2] using h2
    obtain ⟨u, hu1, ru⟩ := r1.get (List.getElem?_eq_getElem h1')
    obtain ⟨v, hv1, rv⟩ := r2.get (List.getElem?_eq_getElem h2')
    have eu : is1.toArray[j] = u := by simpa using (List.getElem?_eq_some_iff.mp hu1).2
    have ev : is2.toArray[j] = v := by simpa using (List.getElem?_eq_some_iff.mp hv1).2
    rw [eu, ev]
    exact eqd_at I (h j _ _ (List.getElem?_eq_getElem h1') (List.getElem?_eq_getElem h2')) X.A.in1 u v (by show X.A.units + 1 + 2 < cLine; omega) ru rv
  | @len n _ _ xs ys hx hy hl =>
    obtain ⟨is1, r1, p1, _⟩ := I.list hx
    obtain ⟨is2, r2, p2, _⟩ := I.list hy
    have e1 := r1.length
    have e2 := r2.length
    exact SeqAt.RcNeAt.lists_lengths p1.isList p2.isList (by simp; omega) (by omega) _ _ _ _ ⟨.bl _, H, I, rfl, q⟩
  | @tup n _ _ xs ys e hx hy h =>
    obtain ⟨is1, r1, p1, _⟩ := I.tuple hx
    obtain ⟨is2, r2, p2, _⟩ := I.tuple hy
    have e1 := r1.length
    have e2 := r2.length
    have e3 : is1.toArray.size = xs.length := by simp [e1]
    have e4 : is2.toArray.size = ys.length := by simp [e2]
    refine SeqAt.RcNeAt.tuples (e := e) p1 p2 (by omega) (fun j h1 h2 => ?_) _ _ _ _ ⟨.bl _, H, I, rfl, by rw [e3, e4]; exact q⟩
    have h1' : j < xs.length := by simpa [e1] using h1
    have h2' : j < ys.length := by simpa [e2] using h2
    obtain ⟨u, hu1, ru⟩ := r1.get (List.getElem?_eq_getElem h1')
    obtain ⟨v, hv1, rv⟩ := r2.get (List.getElem?_eq_getElem h2')
    have eu : is1.toArray[j] = u := by simpa using (List.getElem?_eq_some_iff.mp hu1).2
    have ev : is2.toArray[j] = v := by simpa using (List.getElem?_eq_some_iff.mp hv1).2
    rw [eu, ev]
    exact eqd_at I (h j _ _ (List.getElem?_eq_getElem h1') (List.getElem?_eq_getElem h2')) X.A.in1 u v (by show X.A.units + 1 + 2 < cLine; omega) ru rv
end

def IsI (v : V) (i : Int) : Prop := v = .int i
def IsL (K : Frag) (H : Hp) {α : Type} (P : V → α → Prop) (v : V) (as : List α) : Prop := ∃ a xs, v = .ref a ∧ SqL K H a xs ∧ xs.length = as.length ∧ ∀ (j : Nat) (x : V) (y : α), xs[j]? = some x → as[j]? = some y → P x y
def IsT (K : Frag) (H : Hp) {α : Type} (P : V → α → Prop) (v : V) (as : List α) : Prop := ∃ a xs, v = .ref a ∧ SqT K H a xs ∧ xs.length = as.length ∧ ∀ (j : Nat) (x : V) (y : α), xs[j]? = some x → as[j]? = some y → P x y
def EqP (K : Frag) (H : Hp) (n : Nat) {α : Type} [DecidableEq α] (P : V → α → Prop) : Prop := ∀ x y a b, P x a → P y b → EqD K H n x y (decide (a = b))
theorem eqp_int {K : Frag} {H : Hp} {n : Nat} : EqP K H n IsI := by
  rintro x y a b rfl rfl
  have := EqD.flat (K := K) (H := H) (n := n) (x := .int a) (y := .int b) rfl rfl
  have e : eqV (.int a) (.int b) = decide (a = b) := by simp [eqV, Bool.beq_eq_decide_eq]
  rw [← e]; exact this
theorem all_eq {α : Type} [DecidableEq α] (as bs : List α) (h : as.length = bs.length) : (List.range as.length).all (fun j => decide (as[j]? = bs[j]?)) = decide (as = bs) := by
  rw [Bool.eq_iff_iff, List.all_eq_true, decide_eq_true_iff]
  constructor
  · intro q
    refine List.ext_getElem? fun j => ?_
    by_cases hj : j < as.length
    · simpa using q j (List.mem_range.mpr hj)
    · rw [List.getElem?_eq_none (by omega), List.getElem?_eq_none (by omega)]
  · rintro rfl j _; simp
theorem eqp_lst {K : Frag} {H : Hp} {n : Nat} {α : Type} [DecidableEq α] {P : V → α → Prop} (h : EqP K H n P) : EqP K H (n + 1) (IsL K H P) := by
  rintro x y as bs ⟨a, xs, rfl, hx, lx, px⟩ ⟨b, ys, rfl, hy, ly, py⟩
  by_cases hl : as.length = bs.length
  · rw [← all_eq as bs hl, ← lx]
    refine .lst _ hx hy (by omega) fun j x y h1 h2 => ?_
    have j1 := (List.getElem?_eq_some_iff.mp h1).1
    have j2 := (List.getElem?_eq_some_iff.mp h2).1
    have ha : as[j]? = some as[j] := List.getElem?_eq_getElem (by omega)
    have hb : bs[j]? = some bs[j] := List.getElem?_eq_getElem (by omega)
    have := h x y _ _ (px j _ _ h1 ha) (py j _ _ h2 hb)
    rw [ha, hb]
    simpa using this
  · have e : decide (as = bs) = false := by simp; intro z; exact hl (congrArg List.length z)
    rw [e]
    exact .len hx hy (by omega)
theorem eqp_tup {K : Frag} {H : Hp} {n : Nat} {α : Type} [DecidableEq α] {P : V → α → Prop} (h : EqP K H n P) : EqP K H (n + 1) (IsT K H P) := by
  rintro x y as bs ⟨a, xs, rfl, hx, lx, px⟩ ⟨b, ys, rfl, hy, ly, py⟩
  have key := EqD.tup (K := K) (H := H) (n := n) (fun j => decide (as[j]? = bs[j]?)) hx hy fun j x y h1 h2 => by
    have j1 := (List.getElem?_eq_some_iff.mp h1).1
    have j2 := (List.getElem?_eq_some_iff.mp h2).1
    have ha : as[j]? = some as[j] := List.getElem?_eq_getElem (by omega)
    have hb : bs[j]? = some bs[j] := List.getElem?_eq_getElem (by omega)
    have := h x y _ _ (px j _ _ h1 ha) (py j _ _ h2 hb)
    rw [ha, hb]
    simpa using this
  have e : ((List.range (min xs.length ys.length)).all (fun j => decide (as[j]? = bs[j]?)) && xs.length == ys.length) = decide (as = bs) := by
    rw [lx, ly]
    by_cases hl : as.length = bs.length
    · rw [← hl, Nat.min_self, all_eq as bs hl]; simp
    · have e : decide (as = bs) = false := by simp; intro z; exact hl (congrArg List.length z)
      rw [e]
      simp [hl]
  rw [e] at key
  exact key
theorem isL_ints {K : Frag} {H : Hp} {a : Addr} {ns : List Int} (h : SqL K H a (ns.map V.int)) : IsL K H IsI (.ref a) ns := ⟨a, _, rfl, h, by simp, fun j x y h1 h2 => by
  rw [List.getElem?_map, h2] at h1
  exact (Option.some.inj h1).symm⟩
theorem isT_ints {K : Frag} {H : Hp} {a : Addr} {ns : List Int} (h : SqT K H a (ns.map V.int)) : IsT K H IsI (.ref a) ns := ⟨a, _, rfl, h, by simp, fun j x y h1 h2 => by
  rw [List.getElem?_map, h2] at h1
  exact (Option.some.inj h1).symm⟩
end L2


set_option Elab.async false
set_option linter.all false
set_option maxRecDepth 100000
set_option maxHeartbeats 1000000
namespace L2
open PySem PySem.Spec PyProof.Rows PySem.W


section
variable {X : Cx}
def tRngV (ta : TA) : TE := fun σ H Q => ta σ H fun vs H1 => ∃ j : Int, vs = [.int j] ∧ -(2 ^ 62) ≤ j ∧ j < 2 ^ 62 ∧ ∀ p, H1 p = none → Q (.ref p) (upd H1 p (.rng 0 j))
def rLstR : List V → Hp → VK → Prop := fun xs H Q => ∃ p j, xs = [.ref p] ∧ H p = some (.rng 0 j) ∧ 0 ≤ j ∧ j ≤ 1000 ∧ ∀ l, H l = none → Q (.ref l) (upd H l (.lst ((List.range j.toNat).map fun (i : Nat) => V.int (i : Int))))
def rAll (K : Frag) : List V → Hp → VK → Prop := fun xs H Q => ∃ (p : Addr) (bs : List Bool), xs = [.ref p] ∧ SqL K H p (bs.map V.bl) ∧ Q (.bl (bs.all id)) H
def rAny (K : Frag) : List V → Hp → VK → Prop := fun xs H Q => ∃ (p : Addr) (bs : List Bool), xs = [.ref p] ∧ SqL K H p (bs.map V.bl) ∧ Q (.bl (bs.any id)) H
def ipM : TIp := fun x y H Q => ∃ i j, x = .int i ∧ y = .int j ∧ IntMulOk i j ∧ Q (.int (i * j)) H
def rIxQ (K : Frag) : R2 := fun x y H Q => ∃ p xs i v, x = .ref p ∧ y = .int i ∧ (SqL K H p xs ∨ SqT K H p xs) ∧ atI xs i = some v ∧ Q v H
theorem ix_q {K : Frag} (hK : X.K = K) : IxR X (rIxQ K) := by
  subst hK
  intro value slice pins s σ H x y v u Q I rx ry h hs
  refine (ix_list.or ix_tup) (value := value) (slice := slice) pins s σ H x y v u Q I rx ry ?_ hs
  obtain ⟨p, xs, i, v, rfl, rfl, hq, ha, q⟩ := h
  rcases hq with hq | hq
  · exact .inl ⟨p, xs, i, v, rfl, rfl, hq, ha, q⟩
  · exact .inr ⟨p, xs, i, v, rfl, rfl, hq, ha, q⟩
end
end L2


set_option Elab.async false
set_option linter.all false
set_option maxRecDepth 100000
set_option maxHeartbeats 1000000
namespace L2
open PySem PySem.Spec PyProof.Rows PySem.W


def IsLow (f : Nat → Int) (a b p : Nat) : Prop := a ≤ p ∧ p ≤ b ∧ (∀ q, a ≤ q → q < p → f p < f q) ∧ ∀ q, p < q → q ≤ b → f p ≤ f q
theorem IsLow.unique {f : Nat → Int} {a b p q : Nat} (h : IsLow f a b p) (k : IsLow f a b q) : p = q := by
  obtain ⟨h1, h2, h3, h4⟩ := h
  obtain ⟨k1, k2, k3, k4⟩ := k
  rcases Nat.lt_trichotomy p q with z | z | z
  · have := k3 p h1 z
    have := h4 q z k2
    omega
  · exact z
  · have := h3 q k1 z
    have := k4 p z h2
    omega
theorem IsLow.join {f : Nat → Int} {a m a' b p q : Nat} (h : IsLow f a m p) (k : IsLow f a' b q) (h1 : a ≤ a') (h2 : a' ≤ m + 1) (h3 : m ≤ b) : IsLow f a b (if f q < f p then q else p) := by
  obtain ⟨p1, p2, p3, p4⟩ := h
  obtain ⟨q1, q2, q3, q4⟩ := k
  have pm : ∀ r, a ≤ r → r ≤ m → f p ≤ f r := fun r r1 r2 => by
    rcases Nat.lt_trichotomy r p with z | z | z
    · exact Int.le_of_lt (p3 r r1 z)
    · rw [z]; exact Int.le_refl _
    · exact p4 r z r2
  have qm : ∀ r, a' ≤ r → r ≤ b → f q ≤ f r := fun r r1 r2 => by
    rcases Nat.lt_trichotomy r q with z | z | z
    · exact Int.le_of_lt (q3 r r1 z)
    · rw [z]; exact Int.le_refl _
    · exact q4 r z r2
  split
  · rename_i hlt
    refine ⟨by omega, q2, fun r r1 r2 => ?_, fun r r1 r2 => qm r (by omega) r2⟩
    by_cases z : a' ≤ r
    · exact q3 r z r2
    · have := pm r r1 (by omega); omega
  · rename_i hle
    refine ⟨p1, by omega, p3, fun r r1 r2 => ?_⟩
    by_cases z : r ≤ m
    · exact p4 r r1 z
    · have := qm r (by omega) r2; omega
def lowF (f : Nat → Int) (a : Nat) : Nat → Nat
  | 0 => a
  | c + 1 => if f (a + c + 1) < f (lowF f a c) then a + c + 1 else lowF f a c
theorem isLow_one (f : Nat → Int) (a : Nat) : IsLow f a a a := ⟨Nat.le_refl _, Nat.le_refl _, fun q h1 h2 => by omega, fun q h1 h2 => by omega⟩
theorem lowF_is (f : Nat → Int) (a c : Nat) : IsLow f a (a + c) (lowF f a c) := by
  induction c with
  | zero => exact isLow_one f a
  | succ c ih =>
    rw [lowF]
    exact ih.join (isLow_one f (a + c + 1)) (by omega) (by omega) (by omega)
def nth (ns : List Int) (i : Nat) : Int := ns.getD i 0
theorem nth_at {ns : List Int} {i : Nat} (h : i < ns.length) : atI (ns.map V.int) (i : Int) = some (V.int (nth ns i)) := by
  rw [atI_at rfl (by simpa using h)]
  simp [nth, List.getD_eq_getElem?_getD, h]
def Tall (n i : Nat) : Prop := n < 2 ^ i ∧ ∀ j, j < i → 2 ^ j ≤ n
theorem Tall.unique {n i j : Nat} (h : Tall n i) (k : Tall n j) : i = j := by
  rcases Nat.lt_trichotomy i j with z | z | z
  · have := k.2 i z; have := h.1; omega
  · exact z
  · have := h.2 j z; have := k.1; omega

def WI (N : Nat) (Pv : Nat → St → Hp → Prop) (m : Nat) (σ : St) (H : Hp) : Prop := ∃ i, m = N - i ∧ i ≤ N ∧ Pv i σ H
theorem WI.next {N : Nat} {Pv : Nat → St → Hp → Prop} {i : Nat} : ∀ σ' H', (i + 1 ≤ N ∧ Pv (i + 1) σ' H') → ∃ m', m' < N - i ∧ WI N Pv m' σ' H' := fun σ' H' h => ⟨N - (i + 1), by omega, i + 1, rfl, h.1, h.2⟩
theorem while_i {c : TT} {tb : TS} {D : Ends} {σ : St} {H : Hp} (N : Nat) (Pv : Nat → St → Hp → Prop) (h0 : Pv 0 σ H)
    (hs : ∀ i σ H, i ≤ N → Pv i σ H → c σ H fun b H1 => if b = true then ∃ Nx : St → Hp → Prop, (∀ σ' H', Nx σ' H' → ∃ m', m' < N - i ∧ WI N Pv m' σ' H') ∧ tb { D with nx := Nx, ct := Nx, bk := D.nx } σ H1 else D.nx σ H1) : WhileR c tb D σ H := by
  refine ⟨WI N Pv, ⟨N, 0, rfl, Nat.zero_le _, h0⟩, ?_⟩
  rintro m σ H ⟨i, rfl, hi, p⟩
  exact hs i σ H hi p
theorem Same.seqT {K : Frag} {H H' : Hp} {a : Addr} {xs : List V} (e : Same H H') (h : SqT K H a xs) : SqT K H' a xs := by
  rcases h with (h | ⟨o, h⟩) | h
  · exact .inl (.inl (e _ _ h))
  · exact .inl (.inr ⟨o, e _ _ h⟩)
  · exact .inr h
theorem Same.q {K : Frag} {H H' : Hp} {a : Addr} {xs : List V} (e : Same H H') (h : SqL K H a xs ∨ SqT K H a xs) : SqL K H' a xs ∨ SqT K H' a xs := h.imp e.seq e.seqT
theorem Exc.trans {p : Addr} {H H1 H2 : Hp} (a : Exc p H H1) (b : Exc p H1 H2) : Exc p H H2 := fun c o n z => b c o n (a c o n z)
theorem Exc.free {p q : Addr} {H H' : Hp} (e : Exc p H H') (n : q ≠ p) (h : H' q = none) : H q = none := by
  cases z : H q with
  | none => rfl
  | some o => rw [e q o n z] at h; cases h
theorem Exc.updN {p q : Addr} {H H' : Hp} {o : HO} (e : Exc p H H') (h : H q = none) : Exc p H (L2.upd H' q o) := fun b u n z => by
  rw [upd_ne (ne_of_none z h)]; exact e b u n z
theorem Exc.same {p : Addr} {H H1 H2 : Hp} (a : Exc p H H1) (s : Same H1 H2) : Exc p H H2 := a.trans s.toExc

def RowsN (H0 H : Hp) (l : Addr) (rs : List (List Int)) : Prop := ∃ as : List Addr, H l = some (.lst (as.map V.ref)) ∧ l ∉ as ∧ as.length = rs.length ∧ (∀ i (h1 : i < as.length) (h2 : i < rs.length), H as[i] = some (.lst (rs[i].map V.int))) ∧ H0 l = none ∧ ∀ a ∈ as, H0 a = none
theorem RowsN.same {H0 H H' : Hp} {l : Addr} {rs : List (List Int)} (R : RowsN H0 H l rs) (s : Same H H') : RowsN H0 H' l rs := by
  obtain ⟨as, e, n, hl, h, z⟩ := R
  exact ⟨as, s _ _ e, n, hl, fun i h1 h2 => s _ _ (h i h1 h2), z⟩
theorem RowsN.from {H0 H1 H : Hp} {l : Addr} {rs : List (List Int)} (R : RowsN H1 H l rs) (s : Same H0 H1) : RowsN H0 H l rs := by
  obtain ⟨as, e, n, hl, h, z1, z2⟩ := R
  exact ⟨as, e, n, hl, h, s.free z1, fun a ha => s.free (z2 a ha)⟩
theorem RowsN.push {H0 H : Hp} {l p : Addr} {rs : List (List Int)} {r : List Int} {as : List Addr} (e : H l = some (.lst (as.map V.ref))) (n : l ∉ as) (hl : as.length = rs.length) (h : ∀ i (h1 : i < as.length) (h2 : i < rs.length), H as[i] = some (.lst (rs[i].map V.int)))
    (z1 : H0 l = none) (z2 : ∀ a ∈ as, H0 a = none) (hp : H p = some (.lst (r.map V.int))) (np : p ≠ l) (zp : H0 p = none) : RowsN H0 (upd H l (.lst (as.map V.ref ++ [.ref p]))) l (rs ++ [r]) := by
  obtain ⟨bs, q1, q2, q3, q4⟩ := Rows.push e n hl h hp np
  rw [upd_same] at q1
  have e2 : bs = as ++ [p] := by
    have q1' : (as ++ [p]).map V.ref = bs.map V.ref := by
      have := HO.lst.inj (Option.some.inj q1)
      simpa using this
    have inj : ∀ (u v : List Addr), u.map V.ref = v.map V.ref → u = v := by
      intro u
      induction u with
      | nil => intro v hv; cases v with | nil => rfl | cons _ _ => cases hv
      | cons x u ih =>
        intro v hv
        cases v with
        | nil => cases hv
        | cons y v =>
          rw [List.map_cons, List.map_cons] at hv
          injection hv with h1 h2
          injection h1 with h1
          rw [h1, ih v h2]
    exact (inj _ _ q1').symm
  subst e2
  refine ⟨as ++ [p], upd_same.trans (by simp), q2, q3, q4, z1, fun a ha => ?_⟩
  rcases List.mem_append.mp ha with ha | ha
  · exact z2 a ha
  · have : a = p := by simpa using ha
    rw [this]; exact zp
theorem RowsN.nil {H : Hp} {p : Addr} (hp : H p = none) : RowsN H (upd H p (.lst [])) p [] := ⟨[], upd_same, by simp, rfl, fun i h1 h2 => absurd h1 (by simp), hp, fun a ha => nomatch ha⟩
theorem Rows.isL {K : Frag} {H : Hp} {l : Addr} {rs : List (List Int)} (R : Rows H l rs) : IsL K H (IsL K H IsI) (.ref l) rs := by
  obtain ⟨as, e, n, hl, h⟩ := R
  refine ⟨l, _, rfl, SqL.of e, by simpa using hl, fun j x y h1 h2 => ?_⟩
  have j2 := (List.getElem?_eq_some_iff.mp h2)
  obtain ⟨j2, e2⟩ := j2
  have j1 : j < as.length := by omega
  rw [List.getElem?_map, List.getElem?_eq_getElem j1] at h1
  have h1' : x = V.ref as[j] := (Option.some.inj h1).symm
  rw [h1', ← e2]
  exact isL_ints (SqL.of (h j j1 j2))
end L2


set_option Elab.async false
set_option linter.all false
set_option maxRecDepth 100000
set_option maxHeartbeats 1000000
namespace L2
open PySem PySem.Spec PyProof.Rows PySem.W


section
variable {X : Cx} {a b c d : Expr} {ta tb tc td : TE} {pos : Pos}
def tChain3 (r r' r'' : R2) (ta tb tc td : TE) : TE := fun σ H Q => ta σ H fun x H1 => tb σ H1 fun y H2 => r x y H2 fun z H3 => ∃ k, z = .bl k ∧
  (if k = true then tc σ H3 fun y' H4 => r' y y' H4 fun z' H5 => ∃ k', z' = .bl k' ∧ (if k' = true then td σ H5 fun y'' H6 => r'' y' y'' H6 Q else Q (.bl false) H5) else Q (.bl false) H3)
def rBits : V → List V → Hp → VK → Prop := fun x vs H Q => ∃ i, x = .int i ∧ vs = [] ∧ Q (.int (Builtin.Int.intBits i : Nat)) H
def iSeq (K : Frag) (tl : TE) : TI := fun σ H R => tl σ H fun x H1 => ∃ a, x = .ref a ∧ (((∃ xs, SqL K H1 a xs) ∧ R (Itl K a) H1) ∨ ((∃ xs, SqT K H1 a xs) ∧ R (Itt K a) H1))
end

def CA (n : Nat) (Pv : Nat → List V → Hp → Prop) (i m : Nat) (acc : List V) (H : Hp) : Prop := m = n - i ∧ i ≤ n ∧ acc.length ≤ i ∧ Pv i acc H
theorem CA.take {n : Nat} {Pv : Nat → List V → Hp → Prop} {i : Nat} {acc : List V} {v : V} {H : Hp} (hi : i < n) (hl : acc.length ≤ i) (h : Pv (i + 1) (acc ++ [v]) H) : ∃ m', m' < n - i ∧ CA n Pv (i + 1) m' (acc ++ [v]) H := ⟨n - (i + 1), by omega, rfl, hi, by simp; omega, h⟩
theorem CA.skip {n : Nat} {Pv : Nat → List V → Hp → Prop} {i : Nat} {acc : List V} {H : Hp} (hi : i < n) (hl : acc.length ≤ i) (h : Pv (i + 1) acc H) : ∃ m', m' < n - i ∧ CA n Pv (i + 1) m' acc H := ⟨n - (i + 1), by omega, rfl, hi, by omega, h⟩
theorem comp_inv {J : It} {n : Nat} {H1 : Hp} {g : TG} {tt : TT} {te : TE} {σ0 : St} {Q : VK} (Pv : Nat → List V → Hp → Prop) (hn : n < sizeLine) (h0 : Pv 0 [] H1) (hgo : ∀ i acc H, Pv i acc H → i < n → J.go i H) (hstop : ∀ acc H, Pv n acc H → J.stop n H)
    (hb : ∀ i x acc H H', i < n → acc.length ≤ i → Pv i acc H → J.yld i H x H' → g x σ0 H' fun σ2 H2 => tt σ2 H2 fun b H3 => if b = true then te σ2 H3 fun v H4 => ∃ m', m' < n - i ∧ CA n Pv (i + 1) m' (acc ++ [v]) H4 else ∃ m', m' < n - i ∧ CA n Pv (i + 1) m' acc H3)
    (hk : ∀ l acc H', Pv n acc H' → acc.length ≤ n → H' l = none → Q (.ref l) (upd H' l (.lst acc))) : CompR J g tt te σ0 Q H1 := by
  refine ⟨CA n Pv, ⟨n, rfl, Nat.zero_le _, Nat.le_refl _, h0⟩, ?_⟩
  rintro i m acc H ⟨rfl, hi, hl, p⟩
  by_cases h : i < n
  · exact .inr ⟨hgo i acc H p h, by omega, fun x H' y => hb i x acc H H' h hl p y⟩
  · have e : i = n := by omega
    subst e
    exact .inl ⟨hstop acc H p, by omega, fun q hq => hk q acc H p hl hq⟩

def IsQ (K : Frag) (H : Hp) {α : Type} (P : V → α → Prop) (v : V) (as : List α) : Prop := ∃ a xs, v = .ref a ∧ (SqL K H a xs ∨ SqT K H a xs) ∧ xs.length = as.length ∧ ∀ (j : Nat) (x : V) (y : α), xs[j]? = some x → as[j]? = some y → P x y
theorem IsQ.mono {K : Frag} {H H' : Hp} {α : Type} {P P' : V → α → Prop} {v : V} {as : List α} (h : IsQ K H P v as) (s : Same H H') (hp : ∀ x y, P x y → P' x y) : IsQ K H' P' v as := by
  obtain ⟨a, xs, e, q, l, r⟩ := h
  exact ⟨a, xs, e, s.q q, l, fun j x y h1 h2 => hp _ _ (r j x y h1 h2)⟩
theorem IsI.list {xs : List V} {ns : List Int} (hl : xs.length = ns.length) (h : ∀ (j : Nat) (x : V) (y : Int), xs[j]? = some x → ns[j]? = some y → IsI x y) : xs = ns.map V.int := by
  refine List.ext_getElem (by simpa using hl) fun j h1 h2 => ?_
  have h2' : j < ns.length := by simpa using h2
  rw [List.getElem_map]
  exact h j _ _ (List.getElem?_eq_getElem h1) (List.getElem?_eq_getElem h2')
theorem IsQ.at {K : Frag} {H : Hp} {α : Type} {P : V → α → Prop} {a : Addr} {as : List α} (h : IsQ K H P (.ref a) as) {j : Nat} (hj : j < as.length) : ∃ xs x, (SqL K H a xs ∨ SqT K H a xs) ∧ atI xs (j : Int) = some x ∧ P x as[j] := by
  obtain ⟨b, xs, e, q, l, r⟩ := h
  cases e
  have hj' : j < xs.length := by omega
  exact ⟨xs, xs[j], q, atI_at rfl hj', r j _ _ (List.getElem?_eq_getElem hj') (List.getElem?_eq_getElem hj)⟩

def ItemsOf2 (F : List V → HO) (H : Hp) (rs : List (List Int)) (acc : List V) : Prop := acc.length = rs.length ∧ ∀ (j : Nat) (x : V) (ns : List Int), acc[j]? = some x → rs[j]? = some ns → ∃ a, x = .ref a ∧ H a = some (F (ns.map V.int))
theorem Rows.walk {K : Frag} {H1 : Hp} {d : Addr} {rs : List (List Int)} (R : Rows H1 d rs) : (∀ i H, Same H1 H → i < rs.length → (Itl K d).go i H) ∧ (∀ H, Same H1 H → (Itl K d).stop rs.length H) ∧
    ∀ i x H H' (h : i < rs.length), Same H1 H → (Itl K d).yld i H x H' → H' = H ∧ ∃ a, x = .ref a ∧ H a = some (.lst (rs[i].map V.int)) := by
  obtain ⟨as, e, n, hl, hh⟩ := R
  refine ⟨fun i H s hi => ⟨_, V.ref (as[i]'(by omega)), SqL.of (s _ _ e), by simp [show i < as.length by omega]⟩, fun H s => ⟨_, SqL.of (s _ _ e), by simp [hl]⟩, fun i x H H' hi s y => ?_⟩
  obtain ⟨e1, y⟩ := y
  have h1 := y _ (SqL.of (s _ _ e))
  have hia : i < as.length := by omega
  rw [List.getElem?_map, List.getElem?_eq_getElem hia] at h1
  exact ⟨e1, as[i], (Option.some.inj h1).symm, s _ _ (hh i hia hi)⟩
theorem ItemsOf2.isL {K : Frag} {H : Hp} {rs : List (List Int)} {acc : List V} {l : Addr} (h : ItemsOf2 HO.lst H rs acc) (hl : H l = some (.lst acc)) : IsL K H (IsL K H IsI) (.ref l) rs :=
  ⟨l, acc, rfl, SqL.of hl, h.1, fun j x y h1 h2 => by obtain ⟨a, rfl, e⟩ := h.2 j x y h1 h2; exact isL_ints (SqL.of e)⟩
theorem IsQ.same {K : Frag} {H H' : Hp} {v : V} {rs : List (List Int)} (h : IsQ K H (IsQ K H IsI) v rs) (s : Same H H') : IsQ K H' (IsQ K H' IsI) v rs := h.mono s fun x y q => q.mono s fun _ _ z => z

theorem IsQ.walk {K : Frag} {H1 : Hp} {l : Addr} {rs : List (List Int)} {R : It → Hp → Prop} (h : IsQ K H1 (IsQ K H1 IsI) (.ref l) rs)
    (hk : ∀ J : It, (∀ i H, Same H1 H → i < rs.length → J.go i H) → (∀ H, Same H1 H → J.stop rs.length H) → (∀ i x H H' (h : i < rs.length), Same H1 H → J.yld i H x H' → H' = H ∧ IsQ K H IsI x rs[i]) → R J H1) :
    ((∃ xs, SqL K H1 l xs) ∧ R (Itl K l) H1) ∨ ((∃ xs, SqT K H1 l xs) ∧ R (Itt K l) H1) := by
  obtain ⟨b, xs, e, q, hl, r⟩ := h
  cases e
  rcases q with q | q
  · refine .inl ⟨⟨_, q⟩, hk _ (fun i H s hi => ⟨xs, xs[i]'(by omega), s.seq q, List.getElem?_eq_getElem (by omega)⟩) (fun H s => ⟨xs, s.seq q, by omega⟩) fun i x H H' hi s y => ?_⟩
    obtain ⟨e1, y⟩ := y
    exact ⟨e1, (r i x _ (y _ (s.seq q)) (List.getElem?_eq_getElem hi)).mono s fun _ _ z => z⟩
  · refine .inr ⟨⟨_, q⟩, hk _ (fun i H s hi => ⟨xs, xs[i]'(by omega), s.seqT q, List.getElem?_eq_getElem (by omega)⟩) (fun H s => ⟨xs, s.seqT q, by omega⟩) fun i x H H' hi s y => ?_⟩
    obtain ⟨e1, y⟩ := y
    exact ⟨e1, (r i x _ (y _ (s.seqT q)) (List.getElem?_eq_getElem hi)).mono s fun _ _ z => z⟩

theorem ItemsOf2.same {F : List V → HO} {H H' : Hp} {rs : List (List Int)} {acc : List V} (h : ItemsOf2 F H rs acc) (s : Same H H') : ItemsOf2 F H' rs acc := ⟨h.1, fun j x ns h1 h2 => by obtain ⟨a, e1, e2⟩ := h.2 j x ns h1 h2; exact ⟨a, e1, s _ _ e2⟩⟩
theorem PoolAt.some {H : Hp} {p : Addr} (P : PoolAt H p) : H p ≠ none := fun z => by obtain ⟨x, y, e, _⟩ := P; rw [z] at e; cases e
end L2


set_option Elab.async false
set_option linter.all false
set_option maxRecDepth 100000
set_option maxHeartbeats 1000000
namespace L2
open PySem PySem.Spec PyProof.Rows PySem.W


section
variable {X : Cx}
def rInsert : V → List V → Hp → VK → Prop := fun x vs H Q => ∃ l xs i y, x = .ref l ∧ vs = [.int i, y] ∧ H l = some (.lst xs) ∧ 0 ≤ i ∧ i < 2 ^ 62 ∧ xs.length < sizeLine ∧ Q .non (upd H l (.lst (xs.take i.toNat ++ y :: xs.drop i.toNat)))
theorem Vals.takeN : ∀ {xs : List V} {us : List Value} (k : Nat), Vals xs us → Vals (xs.take k) (us.take k)
  | _, _, 0, _ => by simp; exact .nil
  | _, _, _ + 1, .nil => .nil
  | _, _, k + 1, .cons r h => .cons r (Vals.takeN k h)
def rIndex (K : Frag) : V → List V → Hp → VK → Prop := fun x vs H Q => ∃ (l : Addr) (ns : List Int) (k : Int), x = .ref l ∧ vs = [.int k] ∧ SqL K H l (ns.map V.int) ∧ ns.length ≤ 100000 ∧ k ∈ ns ∧ Q (.int (ns.idxOf k : Nat)) H
end
def rIntB : List V → Hp → VK → Prop := fun xs H Q => ∃ k, xs = [.bl k] ∧ Q (.int (if k = true then 1 else 0)) H
theorem call_intB {X : Cx} : CallR X (.type "int") rIntB := fun pins s σ H xs us Q I r h => call_int1 pins s σ H xs us Q I r (.inr h)
def PotAt (H : Hp) (p : Addr) : Prop := ∃ x : Int, H p = some (.lst [.int x]) ∧ 0 ≤ x
theorem PotAt.ne {H : Hp} {p q : Addr} (P : PotAt H p) (h : H q = none) : q ≠ p := by
  obtain ⟨x, e, _⟩ := P
  exact (ne_of_none e h).symm
theorem PotAt.same {H H' : Hp} {p : Addr} (P : PotAt H p) (s : Same H H') : PotAt H' p := by
  obtain ⟨x, e, r⟩ := P
  exact ⟨x, s _ _ e, r⟩
theorem PotAt.upd {H : Hp} {p q : Addr} {o : HO} (P : PotAt H p) (h : H q = none) : PotAt (L2.upd H q o) p := P.same ((Same.refl H).upd h)
theorem PotAt.updN {H : Hp} {p q : Addr} {o : HO} (P : PotAt H p) (h : q ≠ p) : PotAt (L2.upd H q o) p := by
  obtain ⟨x, e, r⟩ := P
  exact ⟨x, by rw [upd_ne h.symm]; exact e, r⟩
theorem PotAt.some {H : Hp} {p : Addr} (P : PotAt H p) : H p ≠ none := fun z => by obtain ⟨x, e, _⟩ := P; rw [z] at e; cases e
end L2


set_option Elab.async false
set_option linter.all false
set_option maxRecDepth 100000
set_option maxHeartbeats 1000000
namespace L2


def IsPrev (f : Nat → Int) (p q : Nat) : Prop := q < p ∧ f q ≤ f p ∧ ∀ r, q < r → r < p → f p < f r
def IsNext (f : Nat → Int) (n p r : Nat) : Prop := p < r ∧ r < n ∧ f r < f p ∧ ∀ s, p < s → s < r → f p ≤ f s
def NoPrev (f : Nat → Int) (p : Nat) : Prop := ∀ q, q < p → f p < f q
def NoNext (f : Nat → Int) (n p : Nat) : Prop := ∀ r, p < r → r < n → f p ≤ f r

def ElderIs (f : Nat → Int) (n p : Nat) (e : Int) : Prop :=
  (NoPrev f p ∧ NoNext f n p ∧ e = -1) ∨ (∃ q, IsPrev f p q ∧ NoNext f n p ∧ e = q) ∨ (∃ r, NoPrev f p ∧ IsNext f n p r ∧ e = r) ∨
  ∃ q r, IsPrev f p q ∧ IsNext f n p r ∧ e = if f q ≤ f r then (r : Int) else q
theorem exists_last {P : Nat → Prop} [DecidablePred P] (i : Nat) : ∀ d r, r + d = i → P r → ∃ t, r ≤ t ∧ t ≤ i ∧ P t ∧ ∀ s, t < s → s ≤ i → ¬ P s := by
  intro d
  induction d with
  | zero => intro r e h; exact ⟨r, Nat.le_refl _, by omega, h, fun s h1 h2 => by omega⟩
  | succ d ih =>
    intro r e h
    by_cases hx : ∃ t, r < t ∧ t ≤ i ∧ P t
    · obtain ⟨t, h1, h2, h3⟩ := hx
      -- step to r + 1 by cases
      by_cases h4 : P (r + 1)
      · obtain ⟨u, u1, u2, u3, u4⟩ := ih (r + 1) (by omega) h4
        exact ⟨u, by omega, u2, u3, u4⟩
      · -- go on from the next one
        have gen : ∀ k t, t + k = i → r < t → P t → ∃ u, r ≤ u ∧ u ≤ i ∧ P u ∧ ∀ s, u < s → s ≤ i → ¬ P s := by
          intro k
          induction k with
          | zero => intro t e h1 h3; exact ⟨t, by omega, by omega, h3, fun s h1 h2 => by omega⟩
          | succ k ihk =>
            intro t e h1 h3
            by_cases hy : ∃ s, t < s ∧ s ≤ i ∧ P s
            · -- the last one of the rest
              have key : ∀ m, m ≤ i → (∃ s, t < s ∧ s ≤ m ∧ P s) → ∃ u, t < u ∧ u ≤ m ∧ P u ∧ ∀ s, u < s → s ≤ m → ¬ P s := by
                intro m
                induction m with
                | zero => rintro _ ⟨s, h5, h6, _⟩; omega
                | succ m ihm =>
                  rintro hm ⟨s, h5, h6, h7⟩
                  by_cases hp : P (m + 1)
                  · exact ⟨m + 1, by omega, Nat.le_refl _, hp, fun s h1 h2 => by omega⟩
                  · have hs : s ≤ m := by
                      rcases Nat.lt_or_ge m s with z | z
                      · have : s = m + 1 := by omega
                        rw [this] at h7; exact absurd h7 hp
                      · exact z
                    obtain ⟨u, u1, u2, u3, u4⟩ := ihm (by omega) ⟨s, h5, hs, h7⟩
                    refine ⟨u, u1, by omega, u3, fun s' h1 h2 => ?_⟩
                    by_cases e : s' = m + 1
                    · rw [e]; exact hp
                    · exact u4 s' h1 (by omega)
              obtain ⟨u, u1, u2, u3, u4⟩ := key i (Nat.le_refl _) hy
              exact ⟨u, by omega, u2, u3, u4⟩
            · exact ⟨t, by omega, by omega, h3, fun s h1 h2 h5 => hy ⟨s, h1, h2, h5⟩⟩
        exact gen (i - t) t (by omega) h1 h3
    · exact ⟨r, Nat.le_refl _, by omega, h, fun s h1 h2 h3 => hx ⟨s, h1, h2, h3⟩⟩

theorem last_below {P : Nat → Prop} [DecidablePred P] {n r : Nat} (hr : r < n) (h : P r) : ∃ t, r ≤ t ∧ t < n ∧ P t ∧ ∀ s, t < s → s < n → ¬ P s := by
  obtain ⟨t, h1, h2, h3, h4⟩ := exists_last (P := P) (n - 1) (n - 1 - r) r (by omega) h
  exact ⟨t, h1, by omega, h3, fun s a b => h4 s a (by omega)⟩
def Spine (f : Nat → Int) (i : Nat) (sp : List Nat) : Prop := sp.Pairwise (· < ·) ∧ ∀ q, q ∈ sp ↔ q < i ∧ ∀ r, q < r → r < i → f q ≤ f r
theorem prev_or (f : Nat → Int) (p : Nat) : NoPrev f p ∨ ∃ q, IsPrev f p q := by
  by_cases h : ∃ q, q < p ∧ f q ≤ f p
  · obtain ⟨q, h1, h2⟩ := h
    obtain ⟨t, _, t2, t3, t4⟩ := last_below (P := fun q => f q ≤ f p) h1 h2
    exact .inr ⟨t, t2, t3, fun r a b => by have := t4 r a b; omega⟩
  · exact .inl fun q hq => by
      have : ¬ (f q ≤ f p) := fun z => h ⟨q, hq, z⟩
      omega

theorem prev_open {f : Nat → Int} {i p q : Nat} (hp : p < i) (ho : ∀ r, p < r → r < i → f p ≤ f r) (h : IsPrev f p q) : (∀ r, q < r → r < i → f q ≤ f r) ∧ ∀ s, q < s → s < p → ¬ ∀ r, s < r → r < i → f s ≤ f r := by
  obtain ⟨h1, h2, h3⟩ := h
  refine ⟨fun r a b => ?_, fun s a b z => ?_⟩
  · rcases Nat.lt_trichotomy r p with c | c | c
    · have := h3 r a c; omega
    · rw [c]; exact h2
    · have := ho r c b; omega
  · have := z p b hp
    have := h3 s a b
    omega
theorem spine_step {f : Nat → Int} {i : Nat} {A B : List Nat} (hs : Spine f i (A ++ B)) (hA : ∀ q ∈ A, f q ≤ f i) (hB : ∀ q ∈ B, f i < f q) :
    Spine f (i + 1) (A ++ [i]) ∧ ElderIs f (i + 1) i (match A.getLast? with | some q => (q : Int) | none => -1) ∧ ∀ p e, p < i → ElderIs f i p e → ElderIs f (i + 1) p (if B.head? = some p then (i : Int) else e) := by
  obtain ⟨hso, hm⟩ := hs
  have hAB := List.pairwise_append.mp hso
  have noNx : NoNext f (i + 1) i := fun r a b => by omega
  refine ⟨⟨?_, fun q => ?_⟩, ?_, fun p e hp he => ?_⟩
  · refine List.pairwise_append.mpr ⟨hAB.1, List.pairwise_singleton _ _, fun a ha b hb => ?_⟩
    have : b = i := by simpa using hb
    rw [this]
    exact ((hm a).mp (List.mem_append_left _ ha)).1
  · rw [List.mem_append, List.mem_singleton]
    constructor
    · rintro (h | h)
      · obtain ⟨h1, h2⟩ := (hm q).mp (List.mem_append_left _ h)
        refine ⟨by omega, fun r a b => ?_⟩
        by_cases e : r = i
        · rw [e]; exact hA q h
        · exact h2 r a (by omega)
      · subst h; exact ⟨by omega, fun r a b => by omega⟩
    · rintro ⟨h1, h2⟩
      by_cases e : q = i
      · exact .inr e
      · have hq : q ∈ A ++ B := (hm q).mpr ⟨by omega, fun r a b => h2 r a (by omega)⟩
        rcases List.mem_append.mp hq with h | h
        · exact .inl h
        · have := hB q h
          have := h2 i (by omega) (by omega)
          omega
  · -- the elder of i
    rcases prev_or f i with h | ⟨q, h⟩
    · have hA0 : A = [] := by
        cases A with
        | nil => rfl
        | cons a r =>
          have h1 := ((hm a).mp (by simp)).1
          have := hA a (by simp)
          have := h a h1
          omega
      rw [hA0]
      exact .inl ⟨h, noNx, rfl⟩
    · have ho : ∀ r, q < r → r < i → f q ≤ f r := fun r a b => by have := h.2.2 r a b; have := h.2.1; omega
      have hqA : q ∈ A := by
        rcases List.mem_append.mp ((hm q).mpr ⟨h.1, ho⟩) with z | z
        · exact z
        · have := hB q z; have := h.2.1; omega
      have hlast : A.getLast? = some q := by
        have hne : A ≠ [] := fun z => by rw [z] at hqA; cases hqA
        rw [List.getLast?_eq_some_getLast hne]
        congr 1
        have hl : A.getLast hne ∈ A := List.getLast_mem hne
        -- q ≤ last, and last is not past q
        by_cases e : A.getLast hne = q
        · exact e
        · exfalso
          have hlt : q < A.getLast hne := by
            have hd := List.dropLast_concat_getLast hne
            have hq2 : q ∈ A.dropLast := by
              rw [← hd] at hqA
              rcases List.mem_append.mp hqA with z | z
              · exact z
              · exact absurd (by simpa using z) (Ne.symm e)
            have hp2 := hAB.1
            rw [← hd] at hp2
            exact (List.pairwise_append.mp hp2).2.2 q hq2 _ (by simp)
          have h1 := ((hm (A.getLast hne)).mp (List.mem_append_left _ hl)).1
          have := h.2.2 _ hlt h1
          have := hA _ hl
          omega
      rw [hlast]
      exact .inr (.inl ⟨q, h, noNx, rfl⟩)
  · -- the elder of an earlier place
    have nxt : ∀ r, IsNext f i p r → IsNext f (i + 1) p r := fun r ⟨a, b, c, d⟩ => ⟨a, by omega, c, d⟩
    by_cases hop : NoNext f i p
    · have hmem : p ∈ A ++ B := (hm p).mpr ⟨hp, hop⟩
      by_cases hlt : f i < f p
      · have hnx : IsNext f (i + 1) p i := ⟨hp, by omega, hlt, fun s a b => hop s a b⟩
        have hpB : p ∈ B := by
          rcases List.mem_append.mp hmem with z | z
          · have := hA p z; omega
          · exact z
        obtain ⟨b0, Br, rfl⟩ : ∃ b0 Br, B = b0 :: Br := by
          cases B with
          | nil => cases hpB
          | cons b0 Br => exact ⟨b0, Br, rfl⟩
        have hhead : (b0 :: Br).head? = some b0 := rfl
        rw [hhead]
        rcases prev_or f p with hn | ⟨q, hq⟩
        · -- nothing ahead: p is the first of all
          have e0 : b0 = p := by
            by_cases z : b0 = p
            · exact z
            · exfalso
              have hpr : p ∈ Br := by
                rcases List.mem_cons.mp hpB with y | y
                · exact absurd y.symm z
                · exact y
              have hlt2 : b0 < p := (List.pairwise_cons.mp hAB.2.1).1 p hpr
              have := ((hm b0).mp (by simp)).2 p hlt2 hp
              have := hn b0 hlt2
              omega
          rw [if_pos (by rw [e0])]
          exact .inr (.inr (.inl ⟨i, hn, hnx, rfl⟩))
        · obtain ⟨hq1, hq2⟩ := prev_open hp hop hq
          have hqm : q ∈ A ++ b0 :: Br := (hm q).mpr ⟨Nat.lt_trans hq.1 hp, hq1⟩
          by_cases hqi : f q ≤ f i
          · -- q is kept: p is the first of B
            have e0 : b0 = p := by
              by_cases z : b0 = p
              · exact z
              · exfalso
                have hpr : p ∈ Br := by
                  rcases List.mem_cons.mp hpB with y | y
                  · exact absurd y.symm z
                  · exact y
                have hlt2 : b0 < p := (List.pairwise_cons.mp hAB.2.1).1 p hpr
                have hb0 := (hm b0).mp (by simp)
                have hqA : q ∈ A := by
                  rcases List.mem_append.mp hqm with y | y
                  · exact y
                  · have := hB q y; omega
                have hqb : q < b0 := hAB.2.2 q hqA b0 (by simp)
                exact hq2 b0 hqb hlt2 hb0.2
            rw [if_pos (by rw [e0])]
            refine .inr (.inr (.inr ⟨q, i, hq, hnx, ?_⟩))
            rw [if_pos hqi]
          · -- q goes, too: the elder stays
            have hqB : q ∈ b0 :: Br := by
              rcases List.mem_append.mp hqm with y | y
              · exact absurd (hA q y) hqi
              · exact y
            have hne : b0 ≠ p := by
              intro z
              subst z
              rcases List.mem_cons.mp hqB with y | y
              · have := hq.1; omega
              · have := (List.pairwise_cons.mp hAB.2.1).1 q y
                have := hq.1; omega
            rw [if_neg (by intro z; exact hne (Option.some.inj z))]
            have ee : e = q := by
              rcases he with ⟨h1, _, _⟩ | ⟨q', h1, _, h3⟩ | ⟨r, h1, _, _⟩ | ⟨q', r, _, h2, _⟩
              · have := h1 q hq.1; have := hq.2.1; omega
              · have : q' = q := by
                  rcases Nat.lt_trichotomy q' q with y | y | y
                  · have := h1.2.2 q y hq.1; have := hq.2.1; omega
                  · exact y
                  · have := hq.2.2 q' y h1.1; have := h1.2.1; omega
                rw [h3, this]
              · have := h1 q hq.1; have := hq.2.1; omega
              · have := hop r h2.1 h2.2.1; have := h2.2.2.1; omega
            refine .inr (.inr (.inr ⟨q, i, hq, hnx, ?_⟩))
            rw [if_neg hqi, ee]
      · -- still open: not of B
        have hnn : NoNext f (i + 1) p := fun r a b => by
          by_cases z : r = i
          · rw [z]; omega
          · exact hop r a (by omega)
        have hne : B.head? ≠ some p := fun z => by
          have : p ∈ B := List.mem_of_head? z
          have := hB p this
          omega
        rw [if_neg hne]
        rcases he with ⟨h1, _, h3⟩ | ⟨q, h1, _, h3⟩ | ⟨r, _, h2, _⟩ | ⟨q, r, _, h2, _⟩
        · exact .inl ⟨h1, hnn, h3⟩
        · exact .inr (.inl ⟨q, h1, hnn, h3⟩)
        · have := hop r h2.1 h2.2.1; have := h2.2.2.1; omega
        · have := hop r h2.1 h2.2.1; have := h2.2.2.1; omega
    · -- shut already
      have hne : B.head? ≠ some p := fun z => hop ((hm p).mp (List.mem_append_right _ (List.mem_of_head? z))).2
      rw [if_neg hne]
      rcases he with ⟨_, h2, _⟩ | ⟨q, _, h2, _⟩ | ⟨r, h1, h2, h3⟩ | ⟨q, r, h1, h2, h3⟩
      · exact absurd h2 hop
      · exact absurd h2 hop
      · exact .inr (.inr (.inl ⟨r, h1, nxt r h2, h3⟩))
      · exact .inr (.inr (.inr ⟨q, r, h1, nxt r h2, h3⟩))
end L2


set_option Elab.async false
set_option linter.all false
set_option maxRecDepth 100000
set_option maxHeartbeats 1000000
namespace L2
open PySem PySem.Spec PyProof.Rows PySem.W


theorem fm_congr {α β : Type} {f g : α → Option β} : ∀ {l : List α}, (∀ x ∈ l, f x = g x) → l.filterMap f = l.filterMap g
  | [], _ => rfl
  | x :: r, h => by rw [List.filterMap_cons, List.filterMap_cons, h x (List.mem_cons_self ..), fm_congr fun y hy => h y (List.mem_cons_of_mem _ hy)]
theorem keep_take (its : List Value) (k : Nat) (hk : k ≤ its.length) (start : Nat) : (its.zipIdx start).filterMap (fun xk => if (decide (((start + k : Nat) : Int) ≤ (xk.2 : Int)) && decide ((xk.2 : Int) < ((start + its.length : Nat) : Int)) && (((xk.2 : Int) - ((start + k : Nat) : Int)) % 1 == 0)) = true then none else some xk.1) = its.take k := by
  induction its generalizing k start with
  | nil => simp
  | cons x r ih =>
    rw [List.zipIdx_cons, List.filterMap_cons]
    cases k with
    | zero =>
      have h1 : (decide (((start + 0 : Nat) : Int) ≤ (start : Int)) && decide ((start : Int) < ((start + (x :: r).length : Nat) : Int)) && (((start : Int) - ((start + 0 : Nat) : Int)) % 1 == 0)) = true := by
        simp; omega
      simp only [h1, if_true]
      have := ih 0 (by omega) (start + 1)
      rw [List.take_zero] at this ⊢
      rw [← this]
      refine fm_congr fun xk hxk => ?_
      have hm := List.mem_zipIdx hxk
      have e1 : (decide (((start + 0 : Nat) : Int) ≤ (xk.2 : Int))) = (decide (((start + 1 + 0 : Nat) : Int) ≤ (xk.2 : Int))) := by
        rw [decide_eq_decide]; omega
      have e2 : ((start + (x :: r).length : Nat) : Int) = ((start + 1 + r.length : Nat) : Int) := by simp; omega
      have e3 : (((xk.2 : Int) - ((start + 0 : Nat) : Int)) % 1 == 0) = (((xk.2 : Int) - ((start + 1 + 0 : Nat) : Int)) % 1 == 0) := by simp [Int.emod_one]
      rw [e1, e2, e3]
    | succ k =>
      have h1 : (decide (((start + (k + 1) : Nat) : Int) ≤ (start : Int)) && decide ((start : Int) < ((start + (x :: r).length : Nat) : Int)) && (((start : Int) - ((start + (k + 1) : Nat) : Int)) % 1 == 0)) = false := by
        have : decide (((start + (k + 1) : Nat) : Int) ≤ (start : Int)) = false := decide_eq_false (by omega)
        rw [this]; rfl
      simp only [h1, Bool.false_eq_true, if_false]
      rw [List.take_succ_cons]
      congr 1
      have := ih k (by simpa using hk) (start + 1)
      rw [← this]
      refine fm_congr fun xk hxk => ?_
      have e1 : ((start + (k + 1) : Nat) : Int) = ((start + 1 + k : Nat) : Int) := by omega
      have e2 : ((start + (x :: r).length : Nat) : Int) = ((start + 1 + r.length : Nat) : Int) := by simp; omega
      rw [e1, e2]
section
variable {X : Cx} {e st : Expr} {te ts : TE} {pos pos1 p2 : Pos}
def tDelT (te ts : TE) : TS := fun D σ H => te σ H fun x H1 => ts σ H1 fun z H2 => ∃ (l : Addr) (xs : List V) (k : Nat), x = .ref l ∧ z = .int k ∧ H2 l = some (.lst xs) ∧ k ≤ xs.length ∧ D.nx σ (upd H2 l (.lst (xs.take k)))
theorem ps_delTail (he : PE X e te) (hs : PE X st ts) : PS X (.Delete [.Subscript e (.Slice (some st) none none p2) pos1] pos) (tDelT te ts) := by
  intro pins s σ H D I h
  refine wpAny_Delete (wpAny_deleteEach_cons ?_)
  show wpAny _ _ (eval e X.env >>= fun ov => holding [ov] (eval (.Slice (some st) none none p2) X.env) >>= fun iv => (do standAt pos1; holding [ov, iv] (delItem ov iv); release [ov, iv] [])) _ _ _
  refine wpAny_bind (thn (he pins s σ H _ I h) fun v s1 ⟨x, H1, I1, r1, q1⟩ => ?_)
  refine wpAny_bind (wpAny_holding ?_)
  refine wpAny_Slice ?_
  rw [evalPart_some]
  refine thn (hs pins s1 σ H1 _ I1 q1) fun vs s2 ⟨z, H2, I2, r2, l, xs, k, e1, e2, hx, hk, q⟩ => ?_
  subst e1 e2
  obtain ⟨tk, rfl⟩ := r2
  cases r1
  rw [evalPart_none]
  refine wpAny_pure ?_
  refine wpAny_pure ?_
  have I4 : Inv X pins σ H2 { s2 with heap := s2.heap.push { cls := .type "slice", data := .fields #[.int k tk, .none, .none] } } := I2.kept (t' := s2.toks) fun b ob q => Heap.get?_push_of_some _ q
  have hsl : ({ s2 with heap := s2.heap.push { cls := .type "slice", data := .fields #[.int k tk, .none, .none] } } : Shared).heap.get? s2.heap.objs.size = some { cls := .type "slice", data := .fields #[.int k tk, .none, .none] } := Heap.get?_push_size _ rfl
  obtain ⟨z, its, n, r, hlen, hob⟩ := I4.lstM hx
  generalize ({ s2 with heap := s2.heap.push { cls := .type "slice", data := .fields #[.int k tk, .none, .none] } } : Shared) = s4 at I4 hsl hob ⊢
  have hT : s4.TypeIs (.ref l) "list" := ⟨_, hob, rfl⟩
  have hTs : s4.TypeIs (.ref s2.heap.objs.size) "slice" := ⟨_, hsl, rfl⟩
  refine wpAny_bind (wpAny_standAt (wpAny_bind (wpAny_holding ?_)))
  refine wpAny_delItem_slot hT (by decide) F.slot_list_delitem (wpAny_call_entry F.slot_list_delitem hT F.entry_list_delitem ?_ (F.args_list_delitem_2 _ _))
  show wpAny _ _ (Builtin.List.listSubscript? (.ref s2.heap.objs.size) >>= _) _ _ s4
  refine wpAny_bind ?_; unfold Builtin.List.listSubscript?; refine wpAny_bind (wpAny_specialOf hTs slice_no_index ?_)
  simp only [Option.isNone_none, if_true]; refine wpAny_pure ?_
  show wpAny _ _ (typeOf (.ref s2.heap.objs.size) >>= _) _ _ s4
  refine wpAny_bind (wpAny_typeOf hTs ?_); rw [if_neg (by decide), listSliceParts_eq]
  refine wpAny_bind (wpAny_bind (wpAny_field hsl rfl (x := .none) rfl (wpAny_bind (wpAny_listPart (k := none) .none ?_)))); rw [if_neg (show ¬ ((rawPart none == rawInt 0) = true) from Bool.false_ne_true)]
  refine wpAny_bind (wpAny_field hsl rfl (x := .int k tk) rfl (wpAny_bind (wpAny_listPart (.int (k : Int) tk) ?_)))
  refine wpAny_bind (wpAny_field hsl rfl (x := .none) rfl (wpAny_bind (wpAny_listPart (k := none) .none (wpAny_pure ?_))))
  refine wpAny_bind (m := Builtin.List.listItems (.ref l)) ?_; unfold Builtin.List.listItems
  refine wpAny_bind (wpAny_seqItems hob rfl (wpAny_pure ?_)); refine wpAny_bind (wpAny_of_eq (sliceIndices_raw (some (k : Int)) none none its.toArray.size (by simp)) (wpAny_bind (wpAny_rule ?_)))
  have hb : sliceBounds (some (k : Int)) none none its.toArray.size = ((k : Int), ((its.length : Nat) : Int), 1) := by
    unfold sliceBounds
    simp
    omega
  rw [hb]
  have hf : ∀ f : Array Value → Array Value, (∀ ys : Array Value, f ys = (ys.toList.zipIdx.filterMap fun xk => if (decide ((k : Int) ≤ (xk.2 : Int)) && decide ((xk.2 : Int) < ((its.length : Nat) : Int)) && (((xk.2 : Int) - (k : Int)) % 1 == 0)) = true then none else some xk.1).toArray) → f its.toArray = (its.take k).toArray := fun f h => by
    rw [h]
    congr 1
    have := keep_take its k (by omega) 0
    simpa using this
  refine wpAny_bind (m := updateSeq l _) ?_
  refine wpAny_updateSeq (n := n) hob rfl ?_ (by rw [List.size_toArray]; omega) ?_
  · refine wpAny_bind (wpAny_letGo (wpAny_pure ⟨_, rfl, ?_⟩))
    refine wpAny_release (wpAny_deleteEach_nil ⟨σ, _, I4.lset hx hob (hf _ fun ys => rfl) (r.takeN k) ?_, q⟩)
    rw [List.length_take]; omega
  · rw [List.size_toArray]
    refine Nat.le_trans (List.length_filterMap_le _ _) ?_
    rw [List.length_zipIdx]
    show its.length ≤ sizeLine + 1
    omega
end
end L2


set_option Elab.async false
set_option linter.all false
set_option maxRecDepth 100000
set_option maxHeartbeats 1000000
namespace L2
open PySem PySem.Spec PyProof.Rows PySem.W


theorem IsPrev.unique {f : Nat → Int} {p q q' : Nat} (h : IsPrev f p q) (k : IsPrev f p q') : q = q' := by
  rcases Nat.lt_trichotomy q q' with z | z | z
  · have := h.2.2 q' z k.1; have := k.2.1; omega
  · exact z
  · have := k.2.2 q z h.1; have := h.2.1; omega
theorem IsNext.unique {f : Nat → Int} {n p r r' : Nat} (h : IsNext f n p r) (k : IsNext f n p r') : r = r' := by
  rcases Nat.lt_trichotomy r r' with z | z | z
  · have := k.2.2.2 r h.1 z; have := h.2.2.1; omega
  · exact z
  · have := h.2.2.2 r' k.1 z; have := k.2.2.1; omega
theorem IsPrev.no {f : Nat → Int} {p q : Nat} (h : IsPrev f p q) (k : NoPrev f p) : False := by have := k q h.1; have := h.2.1; omega
theorem IsNext.no {f : Nat → Int} {n p r : Nat} (h : IsNext f n p r) (k : NoNext f n p) : False := by have := k r h.1 h.2.1; have := h.2.2.1; omega
theorem ElderIs.unique {f : Nat → Int} {n p : Nat} {e e' : Int} (h : ElderIs f n p e) (k : ElderIs f n p e') : e = e' := by
  rcases h with ⟨h1, h2, h3⟩ | ⟨q, h1, h2, h3⟩ | ⟨r, h1, h2, h3⟩ | ⟨q, r, h1, h2, h3⟩ <;>
  rcases k with ⟨k1, k2, k3⟩ | ⟨q', k1, k2, k3⟩ | ⟨r', k1, k2, k3⟩ | ⟨q', r', k1, k2, k3⟩
  · rw [h3, k3]
  · exact (k1.no h1).elim
  · exact (k2.no h2).elim
  · exact (k1.no h1).elim
  · exact (h1.no k1).elim
  · rw [h3, k3, h1.unique k1]
  · exact (h1.no k1).elim
  · exact (k2.no h2).elim
  · exact (h2.no k2).elim
  · exact (k1.no h1).elim
  · rw [h3, k3, h2.unique k2]
  · exact (k1.no h1).elim
  · exact (h1.no k1).elim
  · exact (h2.no k2).elim
  · exact (h1.no k1).elim
  · rw [h3, k3, h1.unique k1, h2.unique k2]
def TreeIs (ns : List Int) (es : List Int) : Prop := es.length = ns.length ∧ ∀ p, p < ns.length → ElderIs (nth ns) ns.length p (es.getD p 0)
theorem TreeIs.unique {ns es es' : List Int} (h : TreeIs ns es) (k : TreeIs ns es') : es = es' := by
  refine List.ext_getElem (by rw [h.1, k.1]) fun j h1 h2 => ?_
  have hj : j < ns.length := by rw [← h.1]; exact h1
  have := (h.2 j hj).unique (k.2 j hj)
  simpa [List.getD_eq_getElem?_getD, h1, h2] using this

def GoodS (f : Nat → Int) (n : Nat) (a b e : Int) : Prop := 0 ≤ a ∧ a ≤ b + 1 ∧ b < n ∧ (∀ k : Nat, a = ((k + 1 : Nat) : Int) → ∀ q : Nat, a ≤ q → (q : Int) ≤ b → f k ≤ f q) ∧ (∀ k : Nat, b + 1 = (k : Int) → k < n → ∀ q : Nat, a ≤ q → (q : Int) ≤ b → f k < f q) ∧
  e = (if a = 0 then (if b + 1 = n then -1 else b + 1) else if b + 1 = n then a - 1 else if f (a - 1).toNat ≤ f (b + 1).toNat then b + 1 else a - 1)
theorem GoodS.elder {f : Nat → Int} {n : Nat} {a c : Nat} {e : Int} (h : GoodS f n a ((a + c : Nat) : Int) e) : ElderIs f n (lowF f a c) e := by
  obtain ⟨h0, h1, h2, h3, h4, h5⟩ := h
  obtain ⟨l1, l2, l3, l4⟩ := lowF_is f a c
  generalize lowF f a c = p at l1 l2 l3 l4
  have prevA : ∀ k, a = k + 1 → IsPrev f p k := fun k hk => ⟨by omega, h3 k (by omega) p (by omega) (by omega), fun r r1 r2 => l3 r (by omega) r2⟩
  have prev0 : a = 0 → NoPrev f p := fun z q hq => l3 q (by omega) hq
  have nextB : a + c + 1 < n → IsNext f n p (a + c + 1) := fun z => ⟨by omega, z, h4 (a + c + 1) (by omega) z p (by omega) (by omega), fun s s1 s2 => l4 s s1 (by omega)⟩
  have next0 : a + c + 1 = n → NoNext f n p := fun z r r1 r2 => l4 r r1 (by omega)
  by_cases za : a = 0
  · by_cases zb : a + c + 1 = n
    · refine .inl ⟨prev0 za, next0 zb, ?_⟩
      rw [h5, if_pos (by omega), if_pos (by omega)]
    · refine .inr (.inr (.inl ⟨a + c + 1, prev0 za, nextB (by omega), ?_⟩))
      rw [h5, if_pos (by omega), if_neg (by omega)]; omega
  · obtain ⟨k, hk⟩ : ∃ k, a = k + 1 := ⟨a - 1, by omega⟩
    by_cases zb : a + c + 1 = n
    · refine .inr (.inl ⟨k, prevA k hk, next0 zb, ?_⟩)
      rw [h5, if_neg (by omega), if_pos (by omega)]; omega
    · refine .inr (.inr (.inr ⟨k, a + c + 1, prevA k hk, nextB (by omega), ?_⟩))
      have e1 : ((a : Int) - 1).toNat = k := by omega
      have e2 : (((a + c : Nat) : Int) + 1).toNat = a + c + 1 := by omega
      rw [h5, if_neg (by omega), if_neg (by omega), e1, e2]
      split <;> omega
theorem GoodS.ahead {f : Nat → Int} {n : Nat} {a c : Nat} {e : Int} (h : GoodS f n a ((a + c : Nat) : Int) e) : GoodS f n a ((lowF f a c : Int) - 1) (lowF f a c) := by
  obtain ⟨h0, h1, h2, h3, h4, h5⟩ := h
  obtain ⟨l1, l2, l3, l4⟩ := lowF_is f a c
  generalize lowF f a c = p at l1 l2 l3 l4
  refine ⟨h0, by omega, by omega, fun k hk q q1 q2 => h3 k hk q q1 (by omega), fun k hk hkn q q1 q2 => ?_, ?_⟩
  · have : k = p := by omega
    subst this
    exact l3 q (by omega) (by omega)
  · by_cases za : a = 0
    · rw [if_pos (by omega), if_neg (by omega)]; omega
    · rw [if_neg (by omega), if_neg (by omega)]
      have e2 : ((p : Int) - 1 + 1).toNat = p := by omega
      have := h3 (a - 1) (by omega) p (by omega) (by omega)
      have e1 : ((a : Int) - 1).toNat = a - 1 := by omega
      rw [e1, e2, if_pos this]; omega
theorem GoodS.behind {f : Nat → Int} {n : Nat} {a c : Nat} {e : Int} (h : GoodS f n a ((a + c : Nat) : Int) e) : GoodS f n ((lowF f a c : Int) + 1) ((a + c : Nat) : Int) (lowF f a c) := by
  obtain ⟨h0, h1, h2, h3, h4, h5⟩ := h
  obtain ⟨l1, l2, l3, l4⟩ := lowF_is f a c
  generalize lowF f a c = p at l1 l2 l3 l4
  refine ⟨by omega, by omega, h2, fun k hk q q1 q2 => ?_, fun k hk hkn q q1 q2 => h4 k hk hkn q (by omega) q2, ?_⟩
  · have : k = p := by omega
    subst this
    exact l4 q (by omega) (by omega)
  · rw [if_neg (by omega)]
    by_cases zb : a + c + 1 = n
    · rw [if_pos (by omega)]; omega
    · rw [if_neg (by omega)]
      have e1 : ((p : Int) + 1 - 1).toNat = p := by omega
      have e2 : (((a + c : Nat) : Int) + 1).toNat = a + c + 1 := by omega
      have := h4 (a + c + 1) (by omega) (by omega) p (by omega) (by omega)
      rw [e1, e2, if_neg (by omega)]; omega

def StackAt (H : Hp) (l : Addr) (st : List (Int × Int × Int)) : Prop := ∃ qs : List Addr, H l = some (.lst (qs.map V.ref)) ∧ qs.length = st.length ∧ ∀ (j : Nat) (q : Addr) (x : Int × Int × Int), qs[j]? = some q → st[j]? = some x → H q = some (.tup [.int x.1, .int x.2.1, .int x.2.2])
theorem StackAt.same {H H' : Hp} {l : Addr} {st : List (Int × Int × Int)} (S : StackAt H l st) (s : Same H H') : StackAt H' l st := by
  obtain ⟨qs, h1, h2, h3⟩ := S
  exact ⟨qs, s _ _ h1, h2, fun j q x a b => s _ _ (h3 j q x a b)⟩
theorem StackAt.other {H : Hp} {l e : Addr} {st : List (Int × Int × Int)} {zs : List V} {o : HO} (S : StackAt H l st) (hne : e ≠ l) (he : H e = some (.lst zs)) : StackAt (upd H e o) l st := by
  obtain ⟨qs, h1, h2, h3⟩ := S
  refine ⟨qs, by rw [upd_ne hne.symm]; exact h1, h2, fun j q x a b => ?_⟩
  have h := h3 j q x a b
  rw [upd_ne]
  · exact h
  · intro z; subst z; rw [he] at h; cases h
theorem StackAt.pop {H : Hp} {l : Addr} {st : List (Int × Int × Int)} {x : Int × Int × Int} (S : StackAt H l (st ++ [x])) : ∃ qs q, H l = some (.lst ((qs ++ [q]).map V.ref)) ∧ qs.length = st.length ∧ H q = some (.tup [.int x.1, .int x.2.1, .int x.2.2]) ∧ q ≠ l ∧ StackAt (upd H l (.lst (qs.map V.ref))) l st := by
  obtain ⟨qs0, h1, h2, h3⟩ := S
  have hne : qs0 ≠ [] := fun z => by rw [z] at h2; simp at h2
  obtain ⟨q, qs, rfl⟩ : ∃ q qs, qs0 = qs ++ [q] := ⟨qs0.getLast hne, qs0.dropLast, (List.dropLast_concat_getLast hne).symm⟩
  have hlen : qs.length = st.length := by simpa using h2
  have hq : H q = some (.tup [.int x.1, .int x.2.1, .int x.2.2]) := by
    refine h3 st.length _ x ?_ (by simp)
    rw [List.getElem?_append_right (by omega), hlen]; simp
  have hql : q ≠ l := fun z => by rw [z, h1] at hq; cases hq
  refine ⟨qs, q, h1, hlen, hq, hql, qs, upd_same, hlen, fun j p y a b => ?_⟩
  have hj : j < st.length := (List.getElem?_eq_some_iff.mp b).1
  have h := h3 j p y (by rw [List.getElem?_append_left (by omega)]; exact a) (by rw [List.getElem?_append_left hj]; exact b)
  rw [upd_ne]
  · exact h
  · intro z; rw [z, h1] at h; cases h
theorem StackAt.push {H : Hp} {l q : Addr} {st : List (Int × Int × Int)} {x : Int × Int × Int} (S : StackAt H l st) (hq : H q = some (.tup [.int x.1, .int x.2.1, .int x.2.2])) : ∃ xs : List V, H l = some (.lst xs) ∧ xs.length = st.length ∧ StackAt (upd H l (.lst (xs ++ [V.ref q]))) l (st ++ [x]) := by
  obtain ⟨qs, h1, h2, h3⟩ := S
  have ql : q ≠ l := fun z => by rw [z, h1] at hq; cases hq
  refine ⟨_, h1, by simp [h2], qs ++ [q], by rw [upd_same]; simp, by simp [h2], fun j p y a b => ?_⟩
  by_cases hj : j < qs.length
  · rw [List.getElem?_append_left hj] at a
    rw [List.getElem?_append_left (by omega)] at b
    have h := h3 j p y a b
    rw [upd_ne]
    · exact h
    · intro z; rw [z, h1] at h; cases h
  · have hjl := (List.getElem?_eq_some_iff.mp a).1
    have e : j = qs.length := by simp at hjl; omega
    subst e
    rw [List.getElem?_append_right (Nat.le_refl _)] at a
    rw [h2, List.getElem?_append_right (Nat.le_refl _)] at b
    simp at a b
    rw [← a, ← b, upd_ne ql]; exact hq
theorem while_m {c : TT} {tb : TS} {D : Ends} {σ : St} {H : Hp} (Pv : Nat → St → Hp → Prop) (m0 : Nat) (h0 : Pv m0 σ H)
    (hs : ∀ m σ H, Pv m σ H → c σ H fun b H1 => if b = true then ∃ Nx : St → Hp → Prop, (∀ σ' H', Nx σ' H' → ∃ m', m' < m ∧ Pv m' σ' H') ∧ tb { D with nx := Nx, ct := Nx, bk := D.nx } σ H1 else D.nx σ H1) : WhileR c tb D σ H := ⟨Pv, ⟨m0, h0⟩, hs⟩
end L2


set_option Elab.async false
set_option linter.all false
set_option maxRecDepth 100000
set_option maxHeartbeats 1000000
namespace L2


def Over (f : Nat → Int) (o p : Nat) : Prop := (o < p ∧ ∀ r, o < r → r ≤ p → f o ≤ f r) ∨ (p < o ∧ ∀ r, p ≤ r → r < o → f o < f r)
theorem Over.irrefl {f : Nat → Int} {p : Nat} : ¬ Over f p p := by rintro (⟨h, _⟩ | ⟨h, _⟩) <;> omega
theorem Over.ne {f : Nat → Int} {o p : Nat} (h : Over f o p) : o ≠ p := fun z => Over.irrefl (z ▸ h)
theorem Over.trans {f : Nat → Int} {o e p : Nat} (h : Over f o e) (k : Over f e p) : Over f o p := by
  rcases h with ⟨h1, h2⟩ | ⟨h1, h2⟩ <;> rcases k with ⟨k1, k2⟩ | ⟨k1, k2⟩
  · refine .inl ⟨by omega, fun r r1 r2 => ?_⟩
    by_cases z : r ≤ e
    · exact h2 r r1 z
    · have := k2 r (by omega) r2; have := h2 e h1 (Nat.le_refl _); omega
  · have he := h2 e h1 (Nat.le_refl _)
    rcases Nat.lt_trichotomy o p with z | z | z
    · exact .inl ⟨z, fun r r1 r2 => h2 r r1 (by omega)⟩
    · have := k2 p (Nat.le_refl _) k1; subst z; omega
    · exact .inr ⟨z, fun r r1 r2 => by have := k2 r r1 (by omega); omega⟩
  · have he := h2 e (Nat.le_refl _) h1
    rcases Nat.lt_trichotomy o p with z | z | z
    · exact .inl ⟨z, fun r r1 r2 => by have := k2 r (by omega) r2; omega⟩
    · have := k2 p k1 (Nat.le_refl _); subst z; omega
    · exact .inr ⟨z, fun r r1 r2 => h2 r (by omega) r2⟩
  · refine .inr ⟨by omega, fun r r1 r2 => ?_⟩
    by_cases z : r < e
    · have := k2 r r1 z; have := h2 e (Nat.le_refl _) h1; omega
    · exact h2 r (by omega) r2
theorem elder_over {f : Nat → Int} {n p : Nat} {e : Int} (hp : p < n) (h : ElderIs f n p e) : e = -1 ∨ ∃ q : Nat, e = q ∧ q < n ∧ Over f q p := by
  have pv : ∀ q, IsPrev f p q → Over f q p := fun q h => .inl ⟨h.1, fun r r1 r2 => by
    by_cases z : r = p
    · rw [z]; exact h.2.1
    · have := h.2.2 r r1 (by omega); have := h.2.1; omega⟩
  have nx : ∀ q, IsNext f n p q → Over f q p := fun q h => .inr ⟨h.1, fun r r1 r2 => by
    by_cases z : r = p
    · rw [z]; exact h.2.2.1
    · have := h.2.2.2 r (by omega) r2; have := h.2.2.1; omega⟩
  rcases h with ⟨_, _, h⟩ | ⟨q, h1, _, h⟩ | ⟨r, _, h1, h⟩ | ⟨q, r, h1, h2, h⟩
  · exact .inl h
  · exact .inr ⟨q, h, by have := h1.1; omega, pv q h1⟩
  · exact .inr ⟨r, h, h1.2.1, nx r h1⟩
  · by_cases z : f q ≤ f r
    · rw [if_pos z] at h; exact .inr ⟨r, h, h2.2.1, nx r h2⟩
    · rw [if_neg z] at h; exact .inr ⟨q, h, by have := h1.1; omega, pv q h1⟩
theorem over_step {f : Nat → Int} {n p o : Nat} {e : Int} (hp : p < n) (ho : o < n) (h : ElderIs f n p e) (hO : Over f o p) : ∃ q : Nat, e = q ∧ q < n ∧ (o = q ∨ Over f o q) := by
  rcases hO with ⟨o1, o2⟩ | ⟨o1, o2⟩
  · have op := o2 p o1 (Nat.le_refl _)
    have pv : ∀ q, IsPrev f p q → o = q ∨ (o < q ∧ Over f o q ∧ f o ≤ f q) := fun q h => by
      rcases Nat.lt_trichotomy o q with z | z | z
      · have := h.1; exact .inr ⟨z, .inl ⟨z, fun r r1 r2 => o2 r r1 (by omega)⟩, o2 q z (by omega)⟩
      · exact .inl z
      · have := h.2.2 o z o1; omega
    rcases h with ⟨h1, _, h⟩ | ⟨q, h1, _, h⟩ | ⟨r, h1, _, h⟩ | ⟨q, r, h1, h2, h⟩
    · have := h1 o o1; omega
    · refine ⟨q, h, by have := h1.1; omega, ?_⟩
      rcases pv q h1 with z | z
      · exact .inl z
      · exact .inr z.2.1
    · have := h1 o o1; omega
    · by_cases z : f q ≤ f r
      · rw [if_pos z] at h
        refine ⟨r, h, h2.2.1, .inr (.inl ⟨by have := h2.1; omega, fun s s1 s2 => ?_⟩)⟩
        by_cases sp : s ≤ p
        · exact o2 s s1 sp
        · by_cases sr : s = r
          · rw [sr]
            rcases pv q h1 with y | y
            · rw [y]; exact z
            · have := y.2.2; omega
          · have := h2.2.2.2 s (by omega) (by omega); omega
      · rw [if_neg z] at h
        refine ⟨q, h, by have := h1.1; omega, ?_⟩
        rcases pv q h1 with z | z
        · exact .inl z
        · exact .inr z.2.1
  · have op := o2 p (Nat.le_refl _) o1
    have nx : ∀ r, IsNext f n p r → o = r ∨ (r < o ∧ Over f o r ∧ f o < f r) := fun r h => by
      rcases Nat.lt_trichotomy o r with z | z | z
      · have := h.2.2.2 o o1 z; omega
      · exact .inl z
      · have := h.1; exact .inr ⟨z, .inr ⟨z, fun s s1 s2 => o2 s (by omega) s2⟩, o2 r (by omega) z⟩
    rcases h with ⟨_, h1, h⟩ | ⟨q, _, h1, h⟩ | ⟨r, _, h1, h⟩ | ⟨q, r, h1, h2, h⟩
    · have := h1 o o1 ho; omega
    · have := h1 o o1 ho; omega
    · refine ⟨r, h, h1.2.1, ?_⟩
      rcases nx r h1 with z | z
      · exact .inl z
      · exact .inr z.2.1
    · by_cases z : f q ≤ f r
      · rw [if_pos z] at h
        refine ⟨r, h, h2.2.1, ?_⟩
        rcases nx r h2 with z | z
        · exact .inl z
        · exact .inr z.2.1
      · rw [if_neg z] at h
        refine ⟨q, h, by have := h1.1; omega, .inr (.inr ⟨by have := h1.1; omega, fun s s1 s2 => ?_⟩)⟩
        by_cases sp : p ≤ s
        · exact o2 s sp s2
        · by_cases sq : s = q
          · rw [sq]
            rcases nx r h2 with y | y
            · rw [y]; omega
            · have := y.2.2; omega
          · have := h1.2.2 s (by omega) (by omega); omega
theorem over_iff {f : Nat → Int} {n p o q : Nat} (hp : p < n) (ho : o < n) (h : ElderIs f n p (q : Int)) : Over f o p ↔ o = q ∨ Over f o q := by
  refine ⟨fun k => ?_, fun k => ?_⟩
  · obtain ⟨q', e, _, z⟩ := over_step hp ho h k
    have : q' = q := by omega
    rw [this] at z; exact z
  · rcases elder_over hp h with z | ⟨q', e, _, z⟩
    · omega
    · have : q' = q := by omega
      rw [this] at z
      rcases k with k | k
      · rw [k]; exact z
      · exact k.trans z
theorem over_none {f : Nat → Int} {n p o : Nat} (hp : p < n) (ho : o < n) (h : ElderIs f n p (-1)) : ¬ Over f o p := fun k => by
  obtain ⟨q', e, _, z⟩ := over_step hp ho h k
  omega


theorem count_same {P Q : Nat → Bool} : ∀ n, (∀ o, o < n → P o = Q o) → (List.range n).countP P = (List.range n).countP Q
  | 0, _ => rfl
  | n + 1, h => by
    rw [List.range_succ, List.countP_append, List.countP_append, count_same n (fun o ho => h o (by omega))]
    simp [List.countP_cons, h n (by omega)]
theorem count_step {P Q : Nat → Bool} {e : Nat} : ∀ n, e < n → (∀ o, o < n → (P o = true ↔ o = e ∨ Q o = true)) → Q e = false → (List.range n).countP P = (List.range n).countP Q + 1
  | 0, h, _, _ => by omega
  | n + 1, h, hi, hq => by
    rw [List.range_succ, List.countP_append, List.countP_append]
    by_cases z : e = n
    · have e1 : (List.range n).countP P = (List.range n).countP Q := count_same n fun o ho => by
        have := hi o (by omega)
        cases hP : P o <;> cases hQ : Q o <;> simp [hP, hQ] at this <;> first | rfl | omega
      have hPn : P n = true := (hi n (by omega)).mpr (.inl z.symm)
      rw [z] at hq
      rw [e1]; simp [List.countP_cons, hPn, hq]
    · rw [count_step n (by omega) (fun o ho => hi o (by omega)) hq]
      have := hi n (by omega)
      have hn : P n = Q n := by
        cases hP : P n <;> cases hQ : Q n <;> simp [hP, hQ] at this <;> first | rfl | omega
      simp [List.countP_cons, hn]; omega
theorem count_lt {P : Nat → Bool} {e n : Nat} (he : e < n) (h : P e = false) : (List.range n).countP P < n := by
  have h1 := count_step (P := fun o => decide (o = e) || P o) (Q := P) n he (fun o _ => by simp) h
  have h2 := List.countP_le_length (p := fun o => decide (o = e) || P o) (l := List.range n)
  rw [h1, List.length_range] at h2
  omega


def wayF (T : List Int) : Nat → Int → List Nat
  | 0, _ => []
  | k + 1, at_ => if 0 ≤ at_ ∧ at_ < T.length then at_.toNat :: wayF T k (nth T at_.toNat) else []
open Classical in
noncomputable def dep (f : Nat → Int) (n p : Nat) : Nat := (List.range n).countP fun o => decide (Over f o p)
theorem dep_lt {f : Nat → Int} {n p : Nat} (hp : p < n) : dep f n p < n := by
  classical
  exact count_lt hp (by simpa using Over.irrefl)
theorem dep_elder {f : Nat → Int} {n p q : Nat} (hp : p < n) (h : ElderIs f n p (q : Int)) : dep f n p = dep f n q + 1 := by
  classical
  have hq : q < n := by
    rcases elder_over hp h with z | ⟨q', e, z, _⟩ <;> omega
  exact count_step n hq (fun o ho => by simpa using over_iff hp ho h) (by simpa using Over.irrefl)
theorem dep_top {f : Nat → Int} {n p : Nat} (hp : p < n) (h : ElderIs f n p (-1)) : dep f n p = 0 := by
  classical
  unfold dep
  rw [List.countP_eq_zero]
  intro o ho
  simpa using over_none hp (by simpa using ho) h
theorem count_mono {P Q : Nat → Bool} : ∀ n, (∀ o, o < n → P o = true → Q o = true) → (List.range n).countP P ≤ (List.range n).countP Q
  | 0, _ => Nat.le_refl _
  | n + 1, h => by
    rw [List.range_succ, List.countP_append, List.countP_append]
    have := count_mono n (fun o ho => h o (by omega))
    have hn := h n (by omega)
    cases hP : P n <;> cases hQ : Q n <;> simp [List.countP_cons, hP, hQ] at hn ⊢ <;> omega
theorem dep_over {f : Nat → Int} {n p q : Nat} (hp : p < n) (hq : q < n) (h : Over f q p) : dep f n q < dep f n p := by
  classical
  have h1 := count_step (P := fun o => decide (o = q) || decide (Over f o q)) (Q := fun o => decide (Over f o q)) (e := q) n hq (fun o _ => by simp) (by simpa using Over.irrefl)
  have h2 := count_mono (P := fun o => decide (o = q) || decide (Over f o q)) (Q := fun o => decide (Over f o p)) n (fun o _ ho => by
    simp at ho ⊢
    rcases ho with z | z
    · rw [z]; exact h
    · exact z.trans h)
  rw [h1] at h2
  exact h2
theorem way_tree {ns T : List Int} (hT : TreeIs ns T) : ∀ k p, p < ns.length → dep (nth ns) ns.length p ≤ k → (∀ o, o ∈ wayF T k (nth T p) ↔ o < ns.length ∧ Over (nth ns) o p) ∧ (wayF T k (nth T p)).length = dep (nth ns) ns.length p
  | k, p, hp, hk => by
    have hE : ElderIs (nth ns) ns.length p (nth T p) := hT.2 p hp
    rcases elder_over hp hE with z | ⟨q, e, hq, hO⟩
    · have e0 : wayF T k (nth T p) = [] := by
        cases k with
        | zero => rfl
        | succ k => rw [wayF, if_neg (by omega)]
      rw [e0]
      rw [z] at hE
      exact ⟨fun o => ⟨fun h => by simp at h, fun h => absurd h.2 (over_none hp h.1 hE)⟩, by rw [dep_top hp hE]; rfl⟩
    · rw [e] at hE
      have hd := dep_elder hp hE
      obtain ⟨k', rfl⟩ : ∃ k', k = k' + 1 := ⟨k - 1, by omega⟩
      have ih := way_tree hT k' q hq (by omega)
      have eT : ((q : Nat) : Int).toNat = q := by omega
      rw [wayF, e, if_pos ⟨by omega, by rw [hT.1]; omega⟩, eT]
      refine ⟨fun o => ?_, by simp [ih.2, hd]⟩
      rw [List.mem_cons, ih.1 o]
      refine ⟨fun h => ?_, fun h => ?_⟩
      · rcases h with h | h
        · rw [h]; exact ⟨hq, hO⟩
        · exact ⟨h.1, h.2.trans hO⟩
      · rcases (over_iff hp h.1 hE).mp h.2 with z | z
        · exact .inl z
        · exact .inr ⟨h.1, z⟩
def deps (T : List Int) : List Int := (List.range T.length).map fun p => ((wayF T T.length (nth T p)).length : Int)
theorem deps_len (T : List Int) : (deps T).length = T.length := by simp [deps]
theorem deps_nth {T : List Int} {p : Nat} (h : p < T.length) : nth (deps T) p = (wayF T T.length (nth T p)).length := by
  simp [nth, deps, List.getD_eq_getElem?_getD, h]
theorem deps_tree {ns T : List Int} (hT : TreeIs ns T) : TreeIs (deps T) T := by
  have eL : T.length = ns.length := hT.1
  have hd : ∀ p, p < ns.length → nth (deps T) p = (dep (nth ns) ns.length p : Int) := fun p hp => by
    rw [deps_nth (by omega), eL, (way_tree hT ns.length p hp (Nat.le_of_lt (dep_lt hp))).2]
  refine ⟨(deps_len T).symm, fun p hp => ?_⟩
  rw [deps_len, eL] at hp ⊢
  have lt : ∀ q p, q < ns.length → p < ns.length → Over (nth ns) q p → nth (deps T) q < nth (deps T) p := fun q p hq hp h => by
    rw [hd q hq, hd p hp]
    have := dep_over hp hq h; omega
  generalize nth (deps T) = g at lt
  clear hd
  have pv : ∀ q, IsPrev (nth ns) p q → IsPrev g p q := fun q h => by
    refine ⟨h.1, Int.le_of_lt (lt q p (by have := h.1; omega) hp (.inl ⟨h.1, fun r r1 r2 => ?_⟩)), fun r r1 r2 => lt p r hp (by omega) (.inr ⟨r2, fun s s1 s2 => h.2.2 s (by omega) s2⟩)⟩
    by_cases z : r = p
    · rw [z]; exact h.2.1
    · have := h.2.2 r r1 (by omega); have := h.2.1; omega
  have nx : ∀ r, IsNext (nth ns) ns.length p r → IsNext g ns.length p r := fun q h => by
    refine ⟨h.1, h.2.1, lt q p h.2.1 hp (.inr ⟨h.1, fun r r1 r2 => ?_⟩), fun s s1 s2 => Int.le_of_lt (lt p s hp (by have := h.2.1; omega) (.inl ⟨s1, fun r r1 r2 => h.2.2.2 r r1 (by omega)⟩))⟩
    by_cases z : r = p
    · rw [z]; exact h.2.2.1
    · have := h.2.2.2 r (by omega) r2; have := h.2.2.1; omega
  have np : NoPrev (nth ns) p → NoPrev g p := fun h q hq => lt p q hp (by omega) (.inr ⟨hq, fun r r1 r2 => h r r2⟩)
  have nn : NoNext (nth ns) ns.length p → NoNext g ns.length p := fun h r r1 r2 => Int.le_of_lt (lt p r hp r2 (.inl ⟨r1, fun s s1 s2 => h s s1 (by omega)⟩))
  have hE : ElderIs (nth ns) ns.length p (T.getD p 0) := hT.2 p hp
  rcases hE with ⟨h1, h2, h⟩ | ⟨q, h1, h2, h⟩ | ⟨r, h1, h2, h⟩ | ⟨q, r, h1, h2, h⟩
  · exact .inl ⟨np h1, nn h2, h⟩
  · exact .inr (.inl ⟨q, pv q h1, nn h2, h⟩)
  · exact .inr (.inr (.inl ⟨r, np h1, nx r h2, h⟩))
  · refine .inr (.inr (.inr ⟨q, r, pv q h1, nx r h2, ?_⟩))
    rw [h]
    have hq : q < ns.length := by have := h1.1; omega
    by_cases z : nth ns q ≤ nth ns r
    · have := lt q r hq h2.2.1 (.inl ⟨by have := h1.1; have := h2.1; omega, fun s s1 s2 => by
        by_cases y : s = r
        · rw [y]; exact z
        · by_cases y2 : s = p
          · rw [y2]; exact h1.2.1
          · have := h1.2.1
            by_cases y3 : s < p
            · have := h1.2.2 s s1 y3; omega
            · have := h2.2.2.2 s (by omega) (by omega); omega⟩)
      rw [if_pos z, if_pos (by omega)]
    · have := lt r q h2.2.1 hq (.inr ⟨by have := h1.1; have := h2.1; omega, fun s s1 s2 => by
        have := h1.2.1; have := h2.2.2.1
        by_cases y : s = q
        · rw [y]; omega
        · by_cases y2 : s = p
          · rw [y2]; omega
          · by_cases y3 : s < p
            · have := h1.2.2 s (by omega) y3; omega
            · have := h2.2.2.2 s (by omega) (by omega); omega⟩)
      rw [if_neg z, if_neg (by omega)]


inductive StT (T : Nat → Int) : Int → Int → Int → Prop
  | nil {a b e : Int} : b < a → StT T a b e
  | node {a b e : Int} (h : Nat) : a ≤ h → (h : Int) ≤ b → T h = e → (∀ q : Nat, a ≤ q → (q : Int) ≤ b → T q = e → q = h) → StT T a ((h : Int) - 1) h → StT T ((h : Int) + 1) b h → StT T a b e
theorem GoodS.out {f : Nat → Int} {n : Nat} {a b e : Int} (h : GoodS f n a b e) : e < a ∨ b < e := by
  obtain ⟨h0, h1, h2, h3, h4, h5⟩ := h
  rw [h5]
  split
  · split <;> omega
  · split
    · omega
    · split <;> omega
inductive StG (T g : Nat → Int) : Int → Int → Int → Int → Prop
  | nil {a b e m : Int} : b < a → StG T g a b e m
  | node {a b e m : Int} (h : Nat) : a ≤ h → (h : Int) ≤ b → T h = e → g h = m → StG T g a ((h : Int) - 1) h (m + 1) → StG T g ((h : Int) + 1) b h (m + 1) → StG T g a b e m
theorem StG.congr {T g g' : Nat → Int} {a b e m : Int} (S : StG T g a b e m) : (∀ q : Nat, a ≤ q → (q : Int) ≤ b → g q = g' q) → StG T g' a b e m := by
  induction S with
  | nil z => intro _; exact .nil z
  | node h h1 h2 h3 h4 _ _ ih1 ih2 =>
    intro k
    exact .node h h1 h2 h3 (by rw [← k h h1 h2]; exact h4) (ih1 fun q q1 q2 => k q q1 (by omega)) (ih2 fun q q1 q2 => k q (by omega) q2)
theorem StT.row {T : Nat → Int} {a b e : Int} (S : StT T a b e) : ∀ m, ∃ g, StG T g a b e m := by
  induction S with
  | nil z => intro m; exact ⟨fun _ => 0, .nil z⟩
  | node h h1 h2 h3 h4 _ _ ih1 ih2 =>
    intro m
    obtain ⟨g1, k1⟩ := ih1 (m + 1)
    obtain ⟨g2, k2⟩ := ih2 (m + 1)
    refine ⟨fun q => if q < h then g1 q else if q = h then m else g2 q, .node h h1 h2 h3 ?_ (k1.congr fun q q1 q2 => ?_) (k2.congr fun q q1 q2 => ?_)⟩
    · show (if h < h then g1 h else if h = h then m else g2 h) = m
      rw [if_neg (by omega), if_pos rfl]
    · show g1 q = if q < h then g1 q else if q = h then m else g2 q
      rw [if_pos (by omega)]
    · show g2 q = if q < h then g1 q else if q = h then m else g2 q
      rw [if_neg (by omega), if_neg (by omega)]
theorem StG.ge {T g : Nat → Int} {a b e m : Int} (S : StG T g a b e m) : ∀ q : Nat, a ≤ q → (q : Int) ≤ b → m ≤ g q := by
  induction S with
  | nil z => intro q h1 h2; omega
  | node h h1 h2 h3 h4 _ _ ih1 ih2 =>
    intro q q1 q2
    rcases Nat.lt_trichotomy q h with y | y | y
    · have := ih1 q q1 (by omega); omega
    · rw [y]; omega
    · have := ih2 q (by omega) q2; omega
theorem StG.elder {T g : Nat → Int} {n : Nat} {a b e m : Int} (S : StG T g a b e m) : 0 ≤ a → a ≤ b + 1 → b < n → (∀ k : Nat, a = ((k + 1 : Nat) : Int) → g k < m) → (∀ k : Nat, b + 1 = (k : Int) → k < n → g k < m) →
    e = (if a = 0 then (if b + 1 = n then -1 else b + 1) else if b + 1 = n then a - 1 else if g (a - 1).toNat ≤ g (b + 1).toNat then b + 1 else a - 1) → ∀ p : Nat, a ≤ p → (p : Int) ≤ b → ElderIs g n p (T p) := by
  induction S with
  | nil z => intro _ _ _ _ _ _ p h1 h2; omega
  | @node a b e m h h1 h2 h3 h4 s1 s2 ih1 ih2 =>
    intro c0 c1 c2 c3 c4 c5 p p1 p2
    obtain ⟨a0, rfl⟩ : ∃ a0 : Nat, a = a0 := ⟨a.toNat, by omega⟩
    obtain ⟨c, rfl⟩ : ∃ c : Nat, b = ((a0 + c : Nat) : Int) := ⟨(b - a0).toNat, by omega⟩
    have hge := (StG.node h h1 h2 h3 h4 s1 s2).ge
    have g1 := s1.ge
    have g2 := s2.ge
    have hG : GoodS g n a0 ((a0 + c : Nat) : Int) e := ⟨c0, c1, c2, fun k hk q q1 q2 => by have := c3 k hk; have := hge q q1 q2; omega, fun k hk hkn q q1 q2 => by have := c4 k hk hkn; have := hge q q1 q2; omega, c5⟩
    have hlow : lowF g a0 c = h := by
      have : IsLow g a0 (a0 + c) h := ⟨by omega, by omega, fun r r1 r2 => by have := g1 r (by omega) (by omega); omega, fun r r1 r2 => by have := g2 r (by omega) (by omega); omega⟩
      exact (lowF_is g a0 c).unique this
    rcases Nat.lt_trichotomy p h with y | y | y
    · refine ih1 (by omega) (by omega) (by omega) (fun k hk => by have := c3 k hk; omega) (fun k hk hkn => ?_) ?_ p p1 (by omega)
      · have : k = h := by omega
        rw [this]; omega
      · by_cases z : (a0 : Int) = 0
        · rw [if_pos z, if_neg (by omega)]; omega
        · rw [if_neg z, if_neg (by omega), if_pos ?_]
          · omega
          · have e1 : (((h : Int) - 1 + 1)).toNat = h := by omega
            have := c3 ((a0 : Int) - 1).toNat (by omega)
            rw [e1]; omega
    · rw [y, h3, ← hlow]; exact hG.elder
    · refine ih2 (by omega) (by omega) (by omega) (fun k hk => ?_) (fun k hk hkn => by have := c4 k hk hkn; omega) ?_ p (by omega) p2
      · have : k = h := by omega
        rw [this]; omega
      · rw [if_neg (by omega)]
        by_cases z : ((a0 + c : Nat) : Int) + 1 = n
        · rw [if_pos z]; omega
        · rw [if_neg z, if_neg ?_]
          · omega
          · have e1 : (((h : Int) + 1 - 1)).toNat = h := by omega
            have := c4 (((a0 + c : Nat) : Int) + 1).toNat (by omega) (by omega)
            rw [e1]; omega
theorem tree_deps (T : List Int) : (∃ ns, TreeIs ns T) ↔ TreeIs (deps T) T := ⟨fun ⟨_, h⟩ => deps_tree h, fun h => ⟨_, h⟩⟩
end L2


set_option Elab.async false
set_option linter.all false
set_option maxRecDepth 100000
set_option maxHeartbeats 1000000
namespace L2
open PySem PySem.Spec PyProof.Rows PySem.W
def setE (es : List Int) (A B : List Nat) (i : Nat) : List Int := match A.getLast? with
  | some q => (match B.head? with | some b => es.set b i | none => es).set i (q : Int)
  | none => match B.head? with | some b => es.set b i | none => es
def natsV (l : List Nat) : List V := l.map fun q => V.int (q : Nat)
theorem getD_set (l : List Int) (a p : Nat) (v : Int) (h : p < l.length) : (l.set a v).getD p 0 = if a = p then v else l.getD p 0 := by
  rw [List.getD_eq_getElem?_getD, List.getD_eq_getElem?_getD]
  by_cases e : a = p
  · subst e; rw [if_pos rfl, List.getElem?_set_self h]; rfl
  · rw [if_neg e, List.getElem?_set_ne e]
theorem setE_len (es : List Int) (A B : List Nat) (i : Nat) : (setE es A B i).length = es.length := by
  unfold setE
  cases A.getLast? <;> cases B.head? <;> simp
theorem setE_at (es : List Int) (A B : List Nat) (i p : Nat) (hp : p < es.length) (hb : ∀ b, B.head? = some b → b ≠ i) : (setE es A B i).getD p 0 = if p = i then (match A.getLast? with | some q => (q : Int) | none => es.getD i 0) else if B.head? = some p then (i : Int) else es.getD p 0 := by
  unfold setE
  cases hA : A.getLast? with
  | none =>
    cases hB : B.head? with
    | none =>
      by_cases e : p = i
      · rw [if_pos e, e]
      · rw [if_neg e, if_neg (by simp)]
    | some b =>
      show (es.set b i).getD p 0 = _
      rw [getD_set _ _ _ _ hp]
      by_cases e : p = i
      · rw [if_pos e, if_neg (by rw [e]; exact hb b hB), e]
      · rw [if_neg e]
        by_cases e2 : b = p
        · rw [if_pos e2, if_pos (by rw [e2])]
        · rw [if_neg e2, if_neg (by intro z; exact e2 (Option.some.inj z))]
  | some q =>
    cases hB : B.head? with
    | none =>
      show (es.set i q).getD p 0 = _
      rw [getD_set _ _ _ _ hp]
      by_cases e : p = i
      · rw [if_pos e, if_pos e.symm]
      · rw [if_neg e, if_neg (fun z => e z.symm), if_neg (by simp)]
    | some b =>
      show ((es.set b i).set i q).getD p 0 = _
      rw [getD_set _ _ _ _ (by simpa using hp), getD_set _ _ _ _ hp]
      by_cases e : p = i
      · rw [if_pos e, if_pos e.symm]
      · rw [if_neg e, if_neg (fun z => e z.symm)]
        by_cases e2 : b = p
        · rw [if_pos e2, if_pos (by rw [e2])]
        · rw [if_neg e2, if_neg (by intro z; exact e2 (Option.some.inj z))]
theorem pw_len : ∀ (l : List Nat) (i lo : Nat), l.Pairwise (· < ·) → (∀ q ∈ l, lo ≤ q ∧ q < i) → l.length + lo ≤ i ∨ l = []
  | [], _, _, _, _ => .inr rfl
  | q :: r, i, lo, h, hq => by
    have h1 := hq q (by simp)
    have hr := List.pairwise_cons.mp h
    rcases pw_len r i (q + 1) hr.2 (fun x hx => ⟨hr.1 x hx, (hq x (by simp [hx])).2⟩) with z | z
    · left; simp; omega
    · left; rw [z]; simp; omega
theorem natsV_len (l : List Nat) : (natsV l).length = l.length := by simp [natsV]
theorem natsV_app (a b : List Nat) : natsV (a ++ b) = natsV a ++ natsV b := by simp [natsV]
theorem natsV_at {l : List Nat} {j q : Nat} (h : l[j]? = some q) : atI (natsV l) (j : Int) = some (V.int (q : Nat)) := by
  have hj := (List.getElem?_eq_some_iff.mp h).1
  have e := (List.getElem?_eq_some_iff.mp h).2
  rw [atI_at rfl (by rw [natsV_len]; exact hj)]
  simp [natsV, e]
theorem ixN_nat {n j : Nat} (h : j < n) : ixN n (j : Int) = some j := by
  unfold ixN
  rw [if_pos (by omega), if_pos (by omega)]; simp
end L2


set_option Elab.async false
set_option linter.all false
set_option maxRecDepth 100000
set_option maxHeartbeats 1000000
namespace L2
open PySem PySem.Spec PyProof.Rows PySem.W
section
variable {X : Cx}

def tRngV2 (ta : TA) : TE := fun σ H Q => ta σ H fun vs H1 => ∃ i j : Int, vs = [.int i, .int j] ∧ -(2 ^ 62) ≤ i ∧ i < 2 ^ 62 ∧ -(2 ^ 62) ≤ j ∧ j < 2 ^ 62 ∧ ∀ p, H1 p = none → Q (.ref p) (upd H1 p (.rng i j))
def rLstR2 : List V → Hp → VK → Prop := fun xs H Q => ∃ p i j, xs = [.ref p] ∧ H p = some (.rng i j) ∧ -(2 ^ 62) ≤ i ∧ i < 2 ^ 62 ∧ -(2 ^ 62) ≤ j ∧ j < 2 ^ 62 ∧ j - i ≤ 1000 ∧ ∀ l, H l = none → Q (.ref l) (upd H l (.lst ((List.range (j - i).toNat).map fun (k : Nat) => V.int (i + (k : Int)))))
end
end L2


set_option Elab.async false
set_option linter.all false
set_option maxRecDepth 100000
set_option maxHeartbeats 1000000
namespace L2
open PySem PySem.Spec PyProof.Rows PySem.W

def wayI (T : List Int) (p : Nat) : List Int := (wayF T T.length (nth T p)).map fun q => ((q : Nat) : Int)
def GoodT (T : List Int) : Prop := T.length ≤ 40 ∧ ∃ ns, TreeIs ns T
theorem wayF_len (T : List Int) : ∀ k a, (wayF T k a).length ≤ k
  | 0, _ => by simp [wayF]
  | k + 1, a => by
    rw [wayF]
    split
    · have := wayF_len T k (nth T a.toNat); simp; omega
    · simp

def wayAt (T : List Int) : Nat → Int → Int
  | 0, a => a
  | j + 1, a => if 0 ≤ a ∧ a < T.length then wayAt T j (nth T a.toNat) else a
theorem wayF_snoc (T : List Int) : ∀ j a, 0 ≤ wayAt T j a → wayAt T j a < T.length → (wayF T j a).length = j → wayF T (j + 1) a = wayF T j a ++ [(wayAt T j a).toNat] ∧ wayAt T (j + 1) a = nth T (wayAt T j a).toNat
  | 0, a, h0, h1, _ => by
    have h0' : 0 ≤ a := h0
    have h1' : a < T.length := h1
    constructor
    · simp [wayF, wayAt, h0', h1']
    · simp [wayAt, h0', h1']
  | j + 1, a, h0, h1, hl => by
    rw [wayF] at hl
    by_cases z : 0 ≤ a ∧ a < T.length
    · rw [if_pos z] at hl
      have e1 : wayAt T (j + 1) a = wayAt T j (nth T a.toNat) := by rw [wayAt, if_pos z]
      rw [e1] at h0 h1
      have ih := wayF_snoc T j (nth T a.toNat) h0 h1 (by simpa using hl)
      constructor
      · rw [wayF, if_pos z, ih.1, wayF.eq_def T (j + 1) a]
        simp only [if_pos z, e1]; simp
      · rw [wayAt, if_pos z, ih.2, e1]
    · rw [if_neg z] at hl; simp at hl
theorem wayF_stop (T : List Int) : ∀ j k a, j ≤ k → (wayF T j a).length = j → ¬ (0 ≤ wayAt T j a ∧ wayAt T j a < T.length) → wayF T k a = wayF T j a
  | 0, k, a, _, _, h => by
    have h' : ¬ (0 ≤ a ∧ a < T.length) := h
    cases k with
    | zero => rfl
    | succ k => rw [show wayF T 0 a = [] from rfl, wayF, if_neg h']
  | j + 1, k, a, hk, hl, h => by
    rw [wayF] at hl
    by_cases z : 0 ≤ a ∧ a < T.length
    · rw [if_pos z] at hl
      rw [wayAt, if_pos z] at h
      obtain ⟨k', rfl⟩ : ∃ k', k = k' + 1 := ⟨k - 1, by omega⟩
      rw [wayF, if_pos z, wayF_stop T j k' _ (by omega) (by simpa using hl) h, wayF, if_pos z]
    · rw [if_neg z] at hl; simp at hl
section
variable {X : Cx}
end
end L2


set_option Elab.async false
set_option linter.all false
set_option maxRecDepth 100000
set_option maxHeartbeats 1000000
namespace L2
open PySem PySem.Spec PyProof.Rows PySem.W

section
variable {prog : Program} {w : World} {A : Around} {E : Value → Shared → Prop} {s : Shared}
end
section
variable {X : Cx}
def gSubSl (to tl tu : TE) : TG := fun v σ H Q => to σ H fun x H1 => tl σ H1 fun y H2 => tu σ H2 fun z H3 => ∃ (l b : Addr) (xs ys : List V) (a c : Int), x = .ref l ∧ v = .ref b ∧ y = .int a ∧ z = .int c ∧ H3 l = some (.lst xs) ∧ H3 b = some (.lst ys) ∧ l ≠ b ∧ 0 ≤ a ∧ a ≤ c ∧ a ≤ xs.length ∧ xs.length + ys.length ≤ sizeLine ∧ Q σ (upd H3 l (.lst (xs.take a.toNat ++ ys ++ xs.drop c.toNat)))
end
end L2


set_option Elab.async false
set_option linter.all false
set_option maxRecDepth 100000
set_option maxHeartbeats 1000000
namespace L2
open PySem PySem.Spec PyProof.Rows PySem.W

theorem seqR {a b : TS} {D : Ends} {σ : St} {H : Hp} (Mid : St → Hp → Prop) (h1 : ∀ R : St → Hp → Prop, (∀ σ' H', Mid σ' H' → R σ' H') → a { D with nx := R } σ H) (h2 : ∀ σ' H', Mid σ' H' → b D σ' H') : tSeq a b D σ H := h1 _ h2
end L2


set_option Elab.async false
set_option linter.all false
set_option maxRecDepth 100000
set_option maxHeartbeats 1000000
namespace L2
open PySem PySem.Spec PyProof.Rows


structure CellsOf (cl : List (Str × Addr)) (n0 : Nat) (cs : List (Str × Addr)) (h0 h : Heap) (done : List (Str × NameKind)) : Prop where
  old : ∀ b o, h0.get? b = some o → h.get? b = some o
  sz : n0 ≤ h.objs.size
  mem : ∀ p ∈ cs, p ∈ cl ∨ (n0 ≤ p.2 ∧ p.2 < h.objs.size ∧ h.IsCell p.2 none)
  inj : ∀ p ∈ cs, ∀ q ∈ cs, n0 ≤ p.2 → p.2 = q.2 → p.1 = q.1
  own : ∀ y ∈ done, y.2 = .cell → ∃ c, cs.lookup y.1 = some c ∧ n0 ≤ c
  oth : ∀ x, (∀ y ∈ done, y.2 = .cell → y.1 ≠ x) → cs.lookup x = cl.lookup x
section
variable {X : Cx}

end
end L2


set_option Elab.async false
set_option linter.all false
set_option maxRecDepth 100000
set_option maxHeartbeats 1000000
namespace L2
open PySem PySem.Spec PyProof.Rows PySem.W

def CF (n : Nat) (P : Nat → Bool) (vals : Nat → V) (H1 : Hp) (i m : Nat) (acc : List V) (H : Hp) : Prop := m = n - i ∧ i ≤ n ∧ acc = ((List.range i).filter P).map vals ∧ Same H1 H
theorem CF.take {n : Nat} {P : Nat → Bool} {vals : Nat → V} {H1 H : Hp} {i : Nat} {v : V} (hi : i < n) (hP : P i = true) (hv : v = vals i) (s : Same H1 H) : ∃ m', m' < n - i ∧ CF n P vals H1 (i + 1) m' (((List.range i).filter P).map vals ++ [v]) H :=
  ⟨n - (i + 1), by omega, rfl, hi, by rw [List.range_succ, List.filter_append, List.map_append, hv]; simp [hP], s⟩
theorem CF.skip {n : Nat} {P : Nat → Bool} {vals : Nat → V} {H1 H : Hp} {i : Nat} (hi : i < n) (hP : P i = false) (s : Same H1 H) : ∃ m', m' < n - i ∧ CF n P vals H1 (i + 1) m' (((List.range i).filter P).map vals) H :=
  ⟨n - (i + 1), by omega, rfl, hi, by rw [List.range_succ, List.filter_append, List.map_append]; simp [hP], s⟩
theorem comp_filt {J : It} {n : Nat} {H1 : Hp} {g : TG} {tt : TT} {te : TE} {σ0 : St} {Q : VK} (P : Nat → Bool) (vals : Nat → V) (hn : n < sizeLine) (hgo : ∀ i H, Same H1 H → i < n → J.go i H) (hstop : ∀ H, Same H1 H → J.stop n H)
    (hb : ∀ i x H H', i < n → Same H1 H → J.yld i H x H' → g x σ0 H' fun σ2 H2 => tt σ2 H2 fun b H3 => if b = true then te σ2 H3 fun v H4 => ∃ m', m' < n - i ∧ CF n P vals H1 (i + 1) m' (((List.range i).filter P).map vals ++ [v]) H4 else ∃ m', m' < n - i ∧ CF n P vals H1 (i + 1) m' (((List.range i).filter P).map vals) H3)
    (hk : ∀ l H', Same H1 H' → H' l = none → Q (.ref l) (upd H' l (.lst (((List.range n).filter P).map vals)))) :
    CompR J g tt te σ0 Q H1 := by
  refine ⟨CF n P vals H1, ⟨n, rfl, Nat.zero_le _, rfl, Same.refl _⟩, ?_⟩
  rintro i m acc H ⟨rfl, hi, rfl, s⟩
  have hlen : (((List.range i).filter P).map vals).length ≤ n := by
    rw [List.length_map]
    have := List.length_filter_le P (List.range i)
    rw [List.length_range] at this
    omega
  by_cases h : i < n
  · exact .inr ⟨hgo i H s h, by omega, fun x H' y => hb i x H H' h s y⟩
  · have : i = n := by omega
    subst this
    exact .inl ⟨hstop H s, by omega, fun p hp => hk p H s hp⟩

def CRv (rs : Nat → List Int) (H1 : Hp) (i : Nat) (acc : List V) (H : Hp) : Prop := Same H1 H ∧ ∃ as : List Addr, acc = as.map V.ref ∧ as.length = i ∧ ∀ (k : Nat) (a : Addr), as[k]? = some a → H a = some (.lst ((rs k).map V.int))
theorem CRv.take {rs : Nat → List Int} {H1 H H' : Hp} {i : Nat} {acc : List V} {a : Addr} (h : CRv rs H1 i acc H) (s : Same H H') (ha : H' a = some (.lst ((rs i).map V.int))) : CRv rs H1 (i + 1) (acc ++ [.ref a]) H' := by
  obtain ⟨s1, as, rfl, hl, h1⟩ := h
  refine ⟨s1.trans s, as ++ [a], by simp, by simp [hl], fun k b hk => ?_⟩
  by_cases z : k < as.length
  · rw [List.getElem?_append_left z] at hk
    exact s _ _ (h1 k b hk)
  · have hk2 := (List.getElem?_eq_some_iff.mp hk).1
    rw [List.length_append] at hk2
    have : k = as.length := by simp at hk2; omega
    subst this
    rw [List.getElem?_append_right (Nat.le_refl _)] at hk
    simp at hk
    rw [← hk, hl]; exact ha
theorem IsLow.over {f : Nat → Int} {a b lo p : Nat} (h : IsLow f a b lo) (h1 : a ≤ p) (h2 : p ≤ b) (hne : p ≠ lo) : Over f lo p := by
  obtain ⟨l1, l2, l3, l4⟩ := h
  rcases Nat.lt_or_gt_of_ne hne with z | z
  · exact .inr ⟨z, fun r r1 r2 => l3 r (by omega) r2⟩
  · exact .inl ⟨z, fun r r1 r2 => l4 r r1 (by omega)⟩
theorem IsLow.top {f : Nat → Int} {a b lo o : Nat} (h : IsLow f a b lo) (h1 : a ≤ o) (h2 : o ≤ b) : ¬ Over f o lo := by
  obtain ⟨l1, l2, l3, l4⟩ := h
  rintro (⟨z, k⟩ | ⟨z, k⟩)
  · have := k lo z (Nat.le_refl _); have := l3 o h1 z; omega
  · have := k lo (Nat.le_refl _) z; have := l4 o z h2; omega
theorem tree_row {ns T : List Int} {g : Nat → Int} (hT : TreeIs ns T) (hg : ∀ q p, q < ns.length → p < ns.length → Over (nth ns) q p → (q < p → g q ≤ g p) ∧ (p < q → g q < g p)) : ∀ p, p < ns.length → ElderIs g ns.length p (T.getD p 0) := by
  intro p hp
  have pv : ∀ q, IsPrev (nth ns) p q → IsPrev g p q := fun q h => by
    refine ⟨h.1, (hg q p (by have := h.1; omega) hp (.inl ⟨h.1, fun r r1 r2 => ?_⟩)).1 h.1, fun r r1 r2 => (hg p r hp (by omega) (.inr ⟨r2, fun s s1 s2 => h.2.2 s (by omega) s2⟩)).2 r2⟩
    by_cases z : r = p
    · rw [z]; exact h.2.1
    · have := h.2.2 r r1 (by omega); have := h.2.1; omega
  have nx : ∀ r, IsNext (nth ns) ns.length p r → IsNext g ns.length p r := fun q h => by
    refine ⟨h.1, h.2.1, (hg q p h.2.1 hp (.inr ⟨h.1, fun r r1 r2 => ?_⟩)).2 h.1, fun s s1 s2 => (hg p s hp (by have := h.2.1; omega) (.inl ⟨s1, fun r r1 r2 => h.2.2.2 r r1 (by omega)⟩)).1 s1⟩
    by_cases z : r = p
    · rw [z]; exact h.2.2.1
    · have := h.2.2.2 r (by omega) r2; have := h.2.2.1; omega
  have np : NoPrev (nth ns) p → NoPrev g p := fun h q hq => (hg p q hp (by omega) (.inr ⟨hq, fun r r1 r2 => h r r2⟩)).2 hq
  have nn : NoNext (nth ns) ns.length p → NoNext g ns.length p := fun h r r1 r2 => (hg p r hp r2 (.inl ⟨r1, fun s s1 s2 => h s s1 (by omega)⟩)).1 r1
  have hE : ElderIs (nth ns) ns.length p (T.getD p 0) := hT.2 p hp
  rcases hE with ⟨h1, h2, h⟩ | ⟨q, h1, h2, h⟩ | ⟨r, h1, h2, h⟩ | ⟨q, r, h1, h2, h⟩
  · exact .inl ⟨np h1, nn h2, h⟩
  · exact .inr (.inl ⟨q, pv q h1, nn h2, h⟩)
  · exact .inr (.inr (.inl ⟨r, np h1, nx r h2, h⟩))
  · refine .inr (.inr (.inr ⟨q, r, pv q h1, nx r h2, ?_⟩))
    rw [h]
    have hq : q < ns.length := by have := h1.1; omega
    have hqr : q < r := by have := h1.1; have := h2.1; omega
    by_cases z : nth ns q ≤ nth ns r
    · have := (hg q r hq h2.2.1 (.inl ⟨hqr, fun s s1 s2 => by
        by_cases y : s = r
        · rw [y]; exact z
        · by_cases y2 : s = p
          · rw [y2]; exact h1.2.1
          · have := h1.2.1
            by_cases y3 : s < p
            · have := h1.2.2 s s1 y3; omega
            · have := h2.2.2.2 s (by omega) (by omega); omega⟩)).1 hqr
      rw [if_pos z, if_pos (by omega)]
    · have := (hg r q h2.2.1 hq (.inr ⟨hqr, fun s s1 s2 => by
        have := h1.2.1; have := h2.2.2.1
        by_cases y : s = q
        · rw [y]; omega
        · by_cases y2 : s = p
          · rw [y2]; omega
          · by_cases y3 : s < p
            · have := h1.2.2 s (by omega) y3; omega
            · have := h2.2.2.2 s (by omega) (by omega); omega⟩)).2 hqr
      rw [if_neg z, if_neg (by omega)]

theorem atI_m1 {xs : List V} {v : V} (h : 0 < xs.length) (hv : xs[xs.length - 1]? = some v) : atI xs (-1) = some v := by
  have e : ixN xs.length (-1) = some (xs.length - 1) := by
    unfold ixN
    rw [if_neg (by omega), if_pos (by omega)]
    congr 1
    omega
  unfold atI
  rw [e]
  exact hv
end L2


set_option Elab.async false
set_option linter.all false
set_option maxRecDepth 100000
set_option maxHeartbeats 1000000
namespace HT
open PySem PyProof.Rows
section
open PySem.SeqAt
open PySem.AutoSeq1 (wpAny_loadPart')
open PySem.MeetsSeq PySem.MeetsSeq2 PySem.MeetsSeq3
variable {prog : Program} {w : World} {A : Around} {E : Value → Shared → Prop} {s : Shared}
end
end HT
namespace L2
open PySem PySem.Spec PyProof.Rows PySem.W
section
variable {X : Cx}

def rSlQ (K : Frag) : V → Option Int → Option Int → Hp → VK → Prop := fun x lo hi H Q => ∃ a xs, x = .ref a ∧ ((SqL K H a xs ∧ ∀ p, H p = none → Q (.ref p) (upd H p (.lst (cutV xs lo hi)))) ∨
  (SqT K H a xs ∧ (HT.sIx xs.length 0 lo = 0 ∧ HT.sIx xs.length xs.length hi = xs.length → Q (.ref a) H) ∧ (¬ (HT.sIx xs.length 0 lo = 0 ∧ HT.sIx xs.length xs.length hi = xs.length) → ∀ p, H p = none → Q (.ref p) (upd H p (.tup (cutV xs lo hi))))))
end
section
variable {X : Cx} {tg l : Expr} {tl : TE}
theorem pi_listK {K : Frag} (hK : X.K = K) (hl : PE X l tl) : PI X tg l (iList K tl) := hK ▸ pi_list hl
end
end L2


set_option Elab.async false
set_option linter.all false
set_option maxRecDepth 100000
set_option maxHeartbeats 1000000
namespace L2
open PySem PySem.Spec PyProof.Rows PySem.W

theorem wayF_ext (T : List Int) : ∀ k a, (wayF T k a).length < k → wayF T (k + 1) a = wayF T k a
  | 0, _, h => by omega
  | k + 1, a, h => by
    rw [wayF] at h ⊢
    by_cases z : 0 ≤ a ∧ a < T.length
    · rw [if_pos z] at h ⊢
      rw [wayF_ext T k _ (by simpa using h), wayF, if_pos z]
    · rw [if_neg z] at h ⊢
      rw [wayF, if_neg z]
def way (T : List Int) (p : Nat) : List Nat := wayF T T.length (nth T p)
theorem way_top {T : List Int} {p : Nat} (h : nth T p = -1) : way T p = [] := by
  unfold way
  rw [h]
  cases T.length with
  | zero => rfl
  | succ k => rw [wayF, if_neg (by omega)]
theorem way_cons {ns T : List Int} (hT : TreeIs ns T) {p q : Nat} (hp : p < ns.length) (h : nth T p = q) : way T p = q :: way T q := by
  have hE : ElderIs (nth ns) ns.length p (q : Int) := h ▸ hT.2 p hp
  have hq : q < ns.length := by
    rcases elder_over hp hE with z | ⟨q', e, z, _⟩ <;> omega
  have hd := dep_elder hp hE
  have hl := dep_lt (f := nth ns) hp
  unfold way
  rw [h, hT.1]
  obtain ⟨k, hk⟩ : ∃ k, ns.length = k + 1 := ⟨ns.length - 1, by omega⟩
  rw [hk, wayF, if_pos ⟨by omega, by rw [hT.1]; omega⟩, show ((q : Nat) : Int).toNat = q by omega]
  rw [wayF_ext T k (nth T q)]
  rw [(way_tree hT k q hq (by omega)).2]
  omega
theorem wayI_way (T : List Int) (p : Nat) : wayI T p = (way T p).map fun q => ((q : Nat) : Int) := rfl

theorem elder_cases {ns T : List Int} (hT : TreeIs ns T) {p : Nat} (hp : p < ns.length) : nth T p = -1 ∨ ∃ q : Nat, nth T p = q ∧ q < ns.length ∧ Over (nth ns) q p ∧ dep (nth ns) ns.length p = dep (nth ns) ns.length q + 1 := by
  rcases elder_over hp (hT.2 p hp) with z | ⟨q, e, hq, hO⟩
  · exact .inl z
  · have e' : nth T p = (q : Int) := e
    have hE : ElderIs (nth ns) ns.length p (q : Int) := e' ▸ hT.2 p hp
    exact .inr ⟨q, e, hq, hO, dep_elder hp hE⟩

def flatN (T : List Int) (p : Nat) : Nat := ((way T p).filter fun o => decide (p < o)).length
def flatI (T : List Int) : List Int := (List.range T.length).map fun p => (flatN T p : Int)
theorem filter_len_congr {P Q : Nat → Bool} {l : List Nat} (h : ∀ x ∈ l, P x = Q x) : (l.filter P).length = (l.filter Q).length := by
  rw [List.filter_congr h]
theorem over_ind {ns T : List Int} (hT : TreeIs ns T) {R : Nat → Nat → Prop} (h1 : ∀ p q, p < ns.length → q < ns.length → nth T p = q → Over (nth ns) q p → R q p) (h2 : ∀ o q p, Over (nth ns) o q → Over (nth ns) q p → R o q → R q p → R o p) :
    ∀ d p o, p < ns.length → o < ns.length → dep (nth ns) ns.length p = d → Over (nth ns) o p → R o p := by
  intro d
  induction d with
  | zero =>
    intro p o hp ho hd hO
    rcases elder_cases hT hp with z | ⟨q, e, hq, hOq, hdq⟩
    · exact absurd hO (over_none hp ho (z ▸ hT.2 p hp))
    · omega
  | succ d ih =>
    intro p o hp ho hd hO
    rcases elder_cases hT hp with z | ⟨q, e, hq, hOq, hdq⟩
    · exact absurd hO (over_none hp ho (z ▸ hT.2 p hp))
    · rcases (over_iff hp ho (show ElderIs (nth ns) ns.length p (q : Int) from (show T.getD p 0 = (q : Int) from e) ▸ hT.2 p hp)).mp hO with y | y
      · rw [y]; exact h1 p q hp hq e hOq
      · exact h2 o q p y hOq (ih q o hq ho (by omega) y) (h1 p q hp hq e hOq)
end L2


set_option Elab.async false
set_option linter.all false
set_option maxRecDepth 100000
set_option maxHeartbeats 1000000
namespace L2
open PySem PySem.Spec PyProof.Rows PySem.W


section
variable {X : Cx} {pins : List (Addr × Obj)} {σ : St} {H : Hp} {s : Shared} {h' : Heap}

theorem Inv.turnedN {t' : Nat} {fp : List Addr} {T : Addr} {o : HO} (I : Inv X pins σ H s) (k : ∀ b u, b ∉ fp → s.heap.get? b = some u → h'.get? b = some u) (hf : ∀ b ∈ fp, FpOk X pins H b) (hT : s.heap.objs.size ≤ T) (new : ObjOk X.prog X.w (upd H T o) h' T o) :
    Inv X pins σ (upd H T o) { s with heap := h', toks := t' } := by
  have nit : ∀ b u, H b = some u → b ∉ fp := fun b u e z => by rw [(hf b z).1] at e; cases e
  have hfr : H T = none := I.hok.fresh hT
  have neT : ∀ b u, s.heap.get? b = some u → b ≠ T := fun b u e z => absurd (Heap.lt_size e) (by rw [z]; exact Nat.not_lt_of_le hT)
  have neH : ∀ b u, H b = some u → b ≠ T := fun b u e z => by rw [z, hfr] at e; cases e
  refine I.step (g' := s.gens) (d' := s.drawn) (ch := fp) (fun b hb => ?_) (fun b o _ _ hc e _ => k b o hc e) (fun b o _ _ hc e _ => ⟨o.slots, k b o hc e⟩) (fun b u _ e n => by rw [upd_ne (neT b u e)]; exact n)
    (fun b o hc e => ⟨o, k b o hc e⟩) (fun b xs e => by rw [upd_ne (neH b _ e)]; exact e) (fun b o u e => by rw [upd_ne (neH b _ e)]; exact e) (fun b ps e => ⟨#[], by rw [upd_ne (neH b _ e), e]; simp⟩) (fun m hm => ?_) (fun b u e => ?_) I.bare
  · obtain ⟨_, f1, _, f3, f4, f5⟩ := hf b hb
    exact ⟨f3, f1, f4, f5⟩
  · obtain ⟨o, es, ep, ho, r⟩ := hm
    exact ⟨o, es, ep, k _ o (fun z => (hf _ z).2.1 rfl) ho, r⟩
  · by_cases z : b = T
    · subst z
      rw [upd_same] at e; cases e
      exact new
    · rw [upd_ne z] at e
      refine (I.hok b u e).stay (fun c v hc q => k c v ?_ q) (fun c q => ?_) (fun c xs q => ?_) fun c o u q => ?_
      · rcases hc with y | y
        · rw [y]; exact nit b u e
        · exact nit c _ y
      · rw [upd_ne (neH _ _ q)]; exact q
      · rw [upd_ne (neH _ _ q)]; exact q
      · rw [upd_ne (neH _ _ q)]; exact q

def Ite (K : Frag) (a : Addr) : It :=
  ⟨fun i H => ∃ xs x, SqL K H a xs ∧ xs[i]? = some x,
   fun i H v H' => ∃ p x, H p = none ∧ v = .ref p ∧ H' = upd H p (.tup [.int (i : Int), x]) ∧ ∀ xs, SqL K H a xs → xs[i]? = some x,
   fun i H => ∃ xs, SqL K H a xs ∧ xs.length = i⟩
def iEnum (K : Frag) (ta : TA) : TI := fun σ H R => ta σ H fun vs H1 => ∃ a xs, vs = [.ref a] ∧ SqL K H1 a xs ∧ R (Ite K a) H1
theorem boot_enum' : bootBuiltins "enumerate" = some (.type "enumerate") := by decide +kernel
end
end L2


set_option Elab.async false
set_option linter.all false
set_option maxRecDepth 100000
set_option maxHeartbeats 1000000
namespace L2
open PySem PySem.Spec PyProof.Rows PySem.W

section
variable {X : Cx}

def tMaxD (K : Frag) (ta td : TA) : TE := fun σ H Q => ta σ H fun vs H1 => td σ H1 fun zs H2 => ∃ (p : Addr) (ns : List Int) (d : Int), vs = [.ref p] ∧ zs = [.int d] ∧ SqL K H2 p (ns.map V.int) ∧ (ns = [] → Q (.int d) H2) ∧ (ns ≠ [] → ∀ m, m ∈ ns → (∀ a ∈ ns, a ≤ m) → Q (.int m) H2)
end
section
variable {X : Cx}

def tMinD (K : Frag) (ta td : TA) : TE := fun σ H Q => ta σ H fun vs H1 => td σ H1 fun zs H2 => ∃ (p : Addr) (ns : List Int) (d : Int), vs = [.ref p] ∧ zs = [.int d] ∧ SqL K H2 p (ns.map V.int) ∧ (ns = [] → Q (.int d) H2) ∧ (ns ≠ [] → ∀ m, m ∈ ns → (∀ a ∈ ns, m ≤ a) → Q (.int m) H2)
end
end L2


set_option Elab.async false
set_option linter.all false
set_option maxRecDepth 100000
set_option maxHeartbeats 1000000
namespace L2
open PySem PySem.Spec PyProof.Rows PySem.W
section
variable {X : Cx}

def rIndexF (K : Frag) : V → List V → Hp → VK → Prop := fun x vs H Q => ∃ (l : Addr) (xs : List V) (y : V) (j : Nat), x = .ref l ∧ vs = [y] ∧ SqL K H l xs ∧ xs.length ≤ 100000 ∧ xs.all flatV = true ∧ flatV y = true ∧ (∃ z, xs[j]? = some z ∧ eqV z y = true) ∧ (∀ (i : Nat) (z : V), i < j → xs[i]? = some z → eqV z y = false) ∧ Q (.int (j : Nat)) H
end
end L2


set_option Elab.async false
set_option linter.all false
set_option maxRecDepth 100000
set_option maxHeartbeats 1000000
namespace L2
open PySem PySem.Spec PyProof.Rows PySem.W

def LowsEq (f g : Nat → Int) (n : Nat) : Prop := ∀ a c, a + c < n → lowF f a c = lowF g a c
theorem LowsEq.symm {f g : Nat → Int} {n : Nat} (h : LowsEq f g n) : LowsEq g f n := fun a c k => (h a c k).symm
theorem LowsEq.over {f g : Nat → Int} {n o p : Nat} (h : LowsEq f g n) (ho : o < n) (hp : p < n) (k : Over f o p) : Over g o p := by
  rcases k with ⟨z, k⟩ | ⟨z, k⟩
  · have i1 : IsLow f o (o + (p - o)) o := ⟨Nat.le_refl _, by omega, fun q q1 q2 => by omega, fun q q1 q2 => k q q1 (by omega)⟩
    have e := h o (p - o) (by omega)
    rw [(lowF_is f o (p - o)).unique i1] at e
    have i2 := lowF_is g o (p - o)
    rw [← e] at i2
    exact .inl ⟨z, fun r r1 r2 => i2.2.2.2 r r1 (by omega)⟩
  · have i1 : IsLow f p (p + (o - p)) o := ⟨by omega, by omega, fun q q1 q2 => k q q1 q2, fun q q1 q2 => by omega⟩
    have e := h p (o - p) (by omega)
    rw [(lowF_is f p (o - p)).unique i1] at e
    have i2 := lowF_is g p (o - p)
    rw [← e] at i2
    exact .inr ⟨z, fun r r1 r2 => i2.2.2.1 r r1 (by omega)⟩
theorem LowsEq.tree {ns ms T : List Int} (hT : TreeIs ns T) (hl : ms.length = ns.length) (h : LowsEq (nth ns) (nth ms) ns.length) : TreeIs ms T := by
  refine ⟨by rw [hl]; exact hT.1, fun p hp => ?_⟩
  rw [hl] at hp ⊢
  refine tree_row hT (fun q p hq hp hO => ?_) p hp
  rcases h.over hq hp hO with ⟨z, k⟩ | ⟨z, k⟩
  · exact ⟨fun _ => k p z (Nat.le_refl _), fun y => by omega⟩
  · exact ⟨fun y => by omega, fun _ => k p (Nat.le_refl _) z⟩
theorem LowsEq.mono {f g : Nat → Int} {n m : Nat} (h : LowsEq f g n) (k : m ≤ n) : LowsEq f g m := fun a c z => h a c (by omega)

def PartAt (f g : Nat → Int) (x y size a m : Nat) : Prop := a + m < size ∧ (lowF f (x + a) m : Int) - (x + a : Nat) ≠ (lowF g (y + a) m : Int) - (y + a : Nat) ∧ (∀ m', m' < m → ∀ a', a' + m' < size → (lowF f (x + a') m' : Int) - (x + a' : Nat) = (lowF g (y + a') m' : Int) - (y + a' : Nat)) ∧
  ∀ a', a' < a → (lowF f (x + a') m : Int) - (x + a' : Nat) = (lowF g (y + a') m : Int) - (y + a' : Nat)
theorem first_not {P : Nat → Prop} : ∀ n, ¬ (∀ j, j < n → P j) → ∃ j, j < n ∧ ¬ P j ∧ ∀ i, i < j → P i
  | 0, h => absurd (fun j hj => by omega) h
  | n + 1, h => by
    by_cases z : ∀ j, j < n → P j
    · exact ⟨n, by omega, fun y => h fun j hj => by
        by_cases e : j = n
        · rw [e]; exact y
        · exact z j (by omega), z⟩
    · obtain ⟨j, h1, h2, h3⟩ := first_not n z
      exact ⟨j, by omega, h2, h3⟩
end L2


set_option Elab.async false
set_option linter.all false
set_option maxRecDepth 100000
set_option maxHeartbeats 1000000
namespace L2
open PySem PySem.Spec PyProof.Rows PySem.W
section
variable {X : Cx}

def rSorted (K : Frag) : List V → Hp → VK → Prop := fun xs H Q => ∃ (p : Addr) (ns : List Int), xs = [.ref p] ∧ SqL K H p (ns.map V.int) ∧ ns.length < 64 ∧ ∀ (ns' : List Int) (l : Addr), ns'.Perm ns → ns'.Pairwise (· ≤ ·) → H l = none → Q (.ref l) (upd H l (.lst (ns'.map V.int)))
def rOr (r1 r2 : R2) : R2 := fun x y H Q => r1 x y H Q ∨ r2 x y H Q
theorem bt_sorted : bootBuiltins "sorted" = some (.builtin "sorted") := by decide +kernel
end

theorem partAt_zero {f g : Nat → Int} {n a m : Nat} (h1 : a + m < n) (h2 : lowF f a m ≠ lowF g a m) (h3 : ∀ m', m' < m → ∀ a', a' + m' < n → lowF f a' m' = lowF g a' m') (h4 : ∀ a', a' < a → lowF f a' m = lowF g a' m) : PartAt f g 0 0 n a m := by
  refine ⟨h1, ?_, fun m' hm' a' ha' => ?_, fun a' ha' => ?_⟩
  · rw [Nat.zero_add]; omega
  · rw [Nat.zero_add, h3 m' hm' a' ha']
  · rw [Nat.zero_add, h4 a' ha']
theorem PartAt.low {f g : Nat → Int} {n a m : Nat} (h : PartAt f g 0 0 n a m) : a + m < n ∧ lowF f a m ≠ lowF g a m ∧ (∀ m', m' < m → ∀ a', a' + m' < n → lowF f a' m' = lowF g a' m') ∧ ∀ a', a' < a → lowF f a' m = lowF g a' m := by
  obtain ⟨h1, h2, h3, h4⟩ := h
  refine ⟨h1, fun e => h2 (by rw [Nat.zero_add, e]), fun m' hm' a' ha' => ?_, fun a' ha' => ?_⟩
  · have := h3 m' hm' a' ha'; rw [Nat.zero_add] at this; omega
  · have := h4 a' ha'; rw [Nat.zero_add] at this; omega
theorem PartAt.symm {f g : Nat → Int} {n a m : Nat} (h : PartAt f g 0 0 n a m) : PartAt g f 0 0 n a m := by
  obtain ⟨h1, h2, h3, h4⟩ := h.low
  exact partAt_zero h1 h2.symm (fun m' hm' a' ha' => (h3 m' hm' a' ha').symm) (fun a' ha' => (h4 a' ha').symm)
theorem PartAt.unique {f g : Nat → Int} {n a m a' m' : Nat} (h : PartAt f g 0 0 n a m) (k : PartAt f g 0 0 n a' m') : a = a' ∧ m = m' := by
  obtain ⟨h1, h2, h3, h4⟩ := h.low
  obtain ⟨k1, k2, k3, k4⟩ := k.low
  have hm : m = m' := by
    rcases Nat.lt_trichotomy m m' with z | z | z
    · exact absurd (k3 m z a h1) h2
    · exact z
    · exact absurd (h3 m' z a' k1) k2
  subst hm
  refine ⟨?_, rfl⟩
  rcases Nat.lt_trichotomy a a' with z | z | z
  · exact absurd (k4 a z) h2
  · exact z
  · exact absurd (h4 a' z) k2
end L2


set_option Elab.async false
set_option linter.all false
set_option maxRecDepth 100000
set_option maxHeartbeats 1000000
namespace L2
open PySem PySem.Spec PyProof.Rows PySem.W
section
variable {prog : Program} {w : World} {A : Around} {E Q : Value → Shared → Prop} {s : Shared} {it t : Addr} {i : Nat} {items : Array Value}
theorem nextOf_tuple_item {x : Value} (hi : s.heap.IsTupleIter it t i) (ht : s.heap.IsTuple t items) (hx : items[i]? = some x) (h : ∀ h', h'.IsTupleIter it t (i + 1) → Heap.SameBut it s.heap h' → Q x { s with heap := h' }) : wpAny (model prog w) A (Builtin.SmallTypes.nextOf (.ref it)) Q E s := by
  obtain ⟨o, ho, hc, hd⟩ := id hi
  obtain ⟨ot, hot, hct, n, hdt⟩ := id ht
  have hT : s.TypeIs (.ref it) "tuple_iterator" := ⟨o, ho, hc⟩
  unfold Builtin.SmallTypes.nextOf
  refine wpAny_bind (wpAny_callSpecial?_slot hT F.slot_tuple_iterator_next (wpAny_call_entry F.slot_tuple_iterator_next hT F.entry_tuple_iterator_next ?_ (F.args_tuple_iterator_next_1 _)))
  show wpAny _ _ (_ >>= _) _ _ _
  refine wpAny_bind (wpAny_of_eq (show slotArgs "__next__" 0 { pos := [.ref it] } = pure (.ref it, []) from rfl) ?_)
  refine wpAny_bind (wpAny_field ho hd (x := .ref t) rfl ?_)
  rw [if_neg (by simp)]
  refine wpAny_bind (wpAny_field ho hd (x := .int (i : Int) 0) rfl ?_)
  refine wpAny_bind (wpAny_seqItems hot hdt ?_)
  dsimp only
  rw [Int.toNat_natCast, hx]
  refine wpAny_bind (wpAny_setField ho hd (by show 1 < 2; decide) (wpAny_pure ⟨x, rfl, ?_⟩))
  refine wpAny_pure (h _ ?_ ⟨by simp, fun b hb => Heap.get?_update_other _ _ (Ne.symm hb)⟩)
  obtain ⟨cls, dict, data, slots⟩ := o
  simp only at hc hd
  subst hc hd
  exact ⟨_, Heap.get?_update_self _ ho rfl, rfl, rfl⟩
theorem nextOf_tuple_end (hA : A.handled = none) (hi : s.heap.IsTupleIter it t i) (ht : s.heap.IsTuple t items) (hx : items[i]? = none) (h : ∀ h' e, Heap.ExtBut it s.heap h' → (∃ o, h'.get? e = some o ∧ o.cls = .type "StopIteration") → E (.ref e) { s with heap := h' }) : wpAny (model prog w) A (Builtin.SmallTypes.nextOf (.ref it)) Q E s := by
  obtain ⟨o, ho, hc, hd⟩ := id hi
  obtain ⟨ot, hot, hct, n, hdt⟩ := id ht
  have hT : s.TypeIs (.ref it) "tuple_iterator" := ⟨o, ho, hc⟩
  unfold Builtin.SmallTypes.nextOf
  refine wpAny_bind (wpAny_callSpecial?_slot hT F.slot_tuple_iterator_next (wpAny_call_entry F.slot_tuple_iterator_next hT F.entry_tuple_iterator_next ?_ (F.args_tuple_iterator_next_1 _)))
  show wpAny _ _ (_ >>= _) _ _ _
  refine wpAny_bind (wpAny_of_eq (show slotArgs "__next__" 0 { pos := [.ref it] } = pure (.ref it, []) from rfl) ?_)
  refine wpAny_bind (wpAny_field ho hd (x := .ref t) rfl ?_)
  rw [if_neg (by simp)]
  refine wpAny_bind (wpAny_field ho hd (x := .int (i : Int) 0) rfl ?_)
  refine wpAny_bind (wpAny_seqItems hot hdt ?_)
  dsimp only
  rw [Int.toNat_natCast, hx]
  refine wpAny_bind (wpAny_rule (wpAny_bind (wpAny_setField ho hd (by show 0 < 2; decide) ?_)))
  unfold Builtin.SmallTypes.stopIteration
  refine wpAny_bind ?_
  unfold newExc
  refine wpAny_bind (wpAny_newTuple ?_ (Nat.zero_le _))
  refine wpAny_bind (wpAny_of_eq (show firstArgMember (.type "StopIteration") [] = pure .none by first | rfl | (unfold firstArgMember; rfl)) ?_)
  refine wpAny_newObj_type (wpAny_raiseNew_none hA (h _ _ (fun b o' hb e => ?_) ⟨_, Heap.get?_push_size _ rfl, rfl⟩))
  exact Heap.get?_push_of_some _ (Heap.get?_push_of_some _ ((Heap.get?_update_other _ _ (Ne.symm hb)).trans e))
theorem draws_tuple (hA : A.handled = none) (it t : Addr) (hne : t ≠ it) (items : Array Value) : Draws prog w A it [it, t] items.size (fun i v => items[i]? = some v) (fun i h => h.IsTupleIter it t i ∧ h.IsTuple t items) where
  live := fun i h st => by obtain ⟨⟨o, ho, _⟩, _⟩ := st; exact ⟨o, ho⟩
  frame := fun i h h' st k => by
    obtain ⟨⟨o, ho, r⟩, ⟨ot, hot, rt⟩⟩ := st
    exact ⟨⟨o, k it (by simp) o ho, r⟩, ⟨ot, k t (by simp) ot hot, rt⟩⟩
  item := fun i s Q E hi st h => by
    obtain ⟨ot, hot, rt⟩ := st.2
    refine nextOf_tuple_item st.1 st.2 (Array.getElem?_eq_getElem hi) fun h' hit hs => h _ h' s.toks (Array.getElem?_eq_getElem hi) ⟨hit, ⟨ot, (hs.2 t hne).trans hot, rt⟩⟩ hs
  done := fun s Q E st h => nextOf_tuple_end hA st.1 st.2 (Array.getElem?_eq_none (Nat.le_refl _)) h
end
section
variable {X : Cx} {pins : List (Addr × Obj)} {σ : St} {H : Hp} {s : Shared} {h' : Heap}

def IteT (K : Frag) (a : Addr) : It :=
  ⟨fun i H => ∃ xs x, SqT K H a xs ∧ xs[i]? = some x,
   fun i H v H' => ∃ p x, H p = none ∧ v = .ref p ∧ H' = upd H p (.tup [.int (i : Int), x]) ∧ ∀ xs, SqT K H a xs → xs[i]? = some x,
   fun i H => ∃ xs, SqT K H a xs ∧ xs.length = i⟩
theorem turn_enumT {P : Program} {w : World} {K : Frag} {elts : List Expr} {x1} {pos : Pos} {a e it : Addr} (h1 : e ≠ it) (h2 : a ≠ e) (h3 : a ≠ it) :
    Turn P w K (.Tuple elts x1 pos) (IteT K a) [e, it] e (fun i h => (∃ old, IsEnum h e it (i : Int) old) ∧ h.IsTupleIter it a i) where
  mem := by simp
  obj := fun i h st c hc => by
    obtain ⟨⟨old, q1⟩, ⟨o4, q4, _, d4⟩⟩ := st
    simp at hc
    rcases hc with rfl | rfl
    · exact ⟨_, q1, fun v z => by cases z⟩
    · exact ⟨_, q4, fun v z => by rw [d4] at z; cases z⟩
  keep := fun i h h' st k => by
    obtain ⟨⟨old, q1⟩, ⟨o, ho, r⟩⟩ := st
    exact ⟨⟨old, k e (by simp) _ q1⟩, ⟨o, k it (by simp) o ho, r⟩⟩
  item := by
    intro X hP hw hK hc i pins s σ H E I hf st hg
    subst hP hw hK
    obtain ⟨xs, x, qa, hx⟩ := hg
    obtain ⟨is1, r1, p1, hz1⟩ := I.tuple qa
    obtain ⟨u, hu, ru⟩ := r1.get hx
    have W := WalksT.enumerateD (prog := X.prog) (w := X.w) (A := X.A) (draws_tuple (A := X.A.in1) (I.ok.hd hc) it a h3 is1.toArray) e h1 (by simp; exact ⟨h1, h2.symm⟩) (by simp)
    have hi : i < is1.toArray.size := by
      have := (List.getElem?_eq_some_iff.mp hu).1
      simpa using this
    refine W.item i s _ E hi ⟨st.1, st.2, p1⟩ fun T vals h' tk Pt hT hTup Mid keep => ⟨_, rfl, W.go elts x1 pos i T _ _ E Mid fun h2' St2 keep2 => ?_⟩
    obtain ⟨t, y, hy, rfl⟩ := Pt
    have hyu : y = u := by
      have : is1[i]? = some y := by simpa using hy
      rw [hu] at this; exact (Option.some.inj this).symm
    subst hyu
    have nT := W.apart i T h' Mid
    have hfr : H T = none := I.hok.fresh hT
    have kk : ∀ b o, b ∉ [e, it] → s.heap.get? b = some o → h2'.get? b = some o := fun b o hb q => keep2 b o hb (keep b o hb q)
    have nTe : ∀ c ∈ [e, it], c ≠ T := fun c hc z => nT (z ▸ hc)
    refine ⟨.ref T, _, Inv.turnedN (s := s) (t' := tk) (o := .tup [.int (i : Int), x]) I kk hf hT ?_, rfl, ⟨T, x, hfr, rfl, rfl, fun xs' q' => ?_⟩, ⟨?_, St2.2.1⟩, fun c hc => ?_⟩
    · obtain ⟨oT, q1, q2, n, q3⟩ := hTup
      exact ⟨by show 2 ≤ sizeLine; decide, [.int (i : Int) t, y], .cons ⟨t, rfl⟩ (.cons ru .nil), ⟨oT, keep2 T oT nT q1, q2, n, q3⟩⟩
    · rw [I.tuple_inj q' qa]; exact hx
    · obtain ⟨old, q⟩ := St2.1
      exact ⟨old, by rw [show (((i + 1 : Nat)) : Int) = (i : Int) + 1 by omega] at *; exact q⟩
    · rw [upd_ne (nTe c hc)]; exact (hf c hc).1
  done := by
    intro X hP hw hK hc i pins s σ H E I hf st hg
    subst hP hw hK
    obtain ⟨xs, qa, hx⟩ := hg
    obtain ⟨is1, r1, p1, _⟩ := I.tuple qa
    have W := WalksT.enumerateD (prog := X.prog) (w := X.w) (A := X.A) (draws_tuple (A := X.A.in1) (I.ok.hd hc) it a h3 is1.toArray) e h1 (by simp; exact ⟨h1, h2.symm⟩) (by simp)
    have hi : i = is1.toArray.size := by
      have := r1.length
      simp; omega
    refine W.done s _ E ?_ fun h' tk keep => ⟨rfl, I.turnedL (t' := tk) (fp := [e, it]) (fun c o hc q => keep c o hc q) hf⟩
    rw [← hi]
    exact ⟨st.1, st.2, p1⟩
  self := fun A i s Q E st h => by
    obtain ⟨⟨old, q⟩, _⟩ := st
    exact wpAny_pyIter_enum q h
theorem called_any {M : Model} {A : Around} {E : Value → Shared → Prop} {s : Shared} (cls : Value) : wpAny M A (Builtin.SmallTypes.calledThroughType cls) (fun _ s' => s' = s) E s := by
  unfold Builtin.SmallTypes.calledThroughType
  exact wpAny_bind (wpAny_stack fun st _ _ _ => wpAny_pure rfl)
theorem meets_enumT {prog : Program} {w : World} (l : Addr) (items : Array Value) : MeetsIn prog w (Builtin.«enumerate.__new__» { pos := [.type "enumerate", .ref l] }) fun A R s => s.heap.IsTuple l items ∧ R (.ok (.ret (.ref (s.heap.objs.size + 1)))) { s with heap := (s.heap.push { cls := .type "tuple_iterator", data := .fields #[.ref l, .int 0 0] }).push { cls := .type "enumerate", data := .fields #[.none, .bool false, .ref s.heap.objs.size, rawInt 0, .none, .none] } } := by
  intro A R s ⟨h, hR⟩
  unfold Builtin.«enumerate.__new__»
  refine wpAny_bind (wpAny_of_eq (show Builtin.SmallTypes.newClass "enumerate" { pos := [.type "enumerate", .ref l] } = pure (.type "enumerate", [.ref l]) from by first | rfl | (unfold Builtin.SmallTypes.newClass; rfl)) ?_)
  show wpAny _ _ (_ >>= _) _ _ _
  have hsz : (s.heap.push { cls := .type "tuple_iterator", data := .fields #[.ref l, .int 0 0] }).objs.size = s.heap.objs.size + 1 := Heap.size_push _ _
  refine wpAny_bind (thn (called_any (.type "enumerate")) fun b s' e => ?_)
  subst e
  cases b with
  | true =>
    show wpAny _ _ (_ >>= _) _ _ _
    refine wpAny_bind (wpAny_of_eq (show _ = pure (.ref l, none) from rfl) ?_)
    show wpAny _ _ (_ >>= _) _ _ _
    refine wpAny_bind (wpAny_pyIter_tuple h ?_)
    show wpAny _ _ (newObj (.type "enumerate") (.fields #[.none, .bool false, .ref s'.heap.objs.size, rawInt 0, .none, .none]) >>= _) _ _ _
    refine wpAny_bind (wpAny_newObj_type (wpAny_pure ?_))
    rw [hsz]; exact hR
  | false =>
    show wpAny _ _ (_ >>= _) _ _ _
    refine wpAny_bind (wpAny_of_eq (show _ = pure (.ref l, none) from rfl) ?_)
    show wpAny _ _ (_ >>= _) _ _ _
    refine wpAny_bind (wpAny_pyIter_tuple h ?_)
    show wpAny _ _ (newObj (.type "enumerate") (.fields #[.none, .bool false, .ref s'.heap.objs.size, rawInt 0, .none, .none]) >>= _) _ _ _
    refine wpAny_bind (wpAny_newObj_type (wpAny_pure ?_))
    rw [hsz]; exact hR
def iEnumT (K : Frag) (ta : TA) : TI := fun σ H R => ta σ H fun vs H1 => ∃ a xs, vs = [.ref a] ∧ SqT K H1 a xs ∧ R (IteT K a) H1
theorem pi_enumT {K : Frag} {elts : List Expr} {x1} {tp : Pos} {e1 : Expr} {ta : TA} {p pos : Pos} (hK : X.K = K) (hg : Gl X "enumerate") (hm : X.mg "enumerate" = none) (ha : PA X [e1] ta) (hs : starEach [e1] X.env = [(false, eval e1 X.env)] := by rfl) :
    PI X (.Tuple elts x1 tp) (.Call (.Name "enumerate" p) [e1] [] pos) (iEnumT K ta) := by
  subst hK
  intro pins s σ H R I h
  refine wpAny_Call_Name_kw (ld_blt I hg hm boot_enum' ?_)
  refine PyProof.Rows.callWith_type1 (thn (ha pos pins s σ H _ I h) fun us s1 ⟨vs, H1, I1, r1, a, xs, e1, qa, q⟩ => ?_) hs rfl
  subst e1
  obtain ⟨u, rfl, ru⟩ := r1.one
  cases (show u = Value.ref a from ru)
  obtain ⟨is1, rr1, p1, _⟩ := I1.tuple qa
  have l1 : a < s1.heap.objs.size := by obtain ⟨o, e, _⟩ := p1; exact Heap.lt_size e
  have sm : ∀ b, s1.heap.objs.size ≤ b → FpOk X pins H1 b := fun b hb => I1.fpOk hb (I1.hok.fresh hb)
  have n1 : s1.heap.objs.size + 1 ≠ s1.heap.objs.size := by show ¬ ((_ : Nat) = _); omega
  have n2 : a ≠ s1.heap.objs.size + 1 := Nat.ne_of_lt (Nat.lt_succ_of_lt l1)
  have n3 : a ≠ s1.heap.objs.size := Nat.ne_of_lt l1
  have T := turn_enumT (P := X.prog) (w := X.w) (K := X.K) (elts := elts) (x1 := x1) (pos := tp) n1 n2 n3
  have hsz : (s1.heap.push { cls := .type "tuple_iterator", data := .fields #[.ref a, .int 0 0] }).objs.size = s1.heap.objs.size + 1 := Heap.size_push _ _
  have c1 : IsEnum ((s1.heap.push { cls := .type "tuple_iterator", data := .fields #[.ref a, .int 0 0] }).push { cls := .type "enumerate", data := .fields #[.none, .bool false, .ref s1.heap.objs.size, rawInt 0, .none, .none] }) (s1.heap.objs.size + 1) s1.heap.objs.size 0 .none := by
    show Heap.get? _ _ = _
    rw [← hsz]; exact Heap.get?_push_size _ rfl
  have c2 : ((s1.heap.push { cls := .type "tuple_iterator", data := .fields #[.ref a, .int 0 0] }).push { cls := .type "enumerate", data := .fields #[.none, .bool false, .ref s1.heap.objs.size, rawInt 0, .none, .none] }).IsTupleIter s1.heap.objs.size a 0 := ⟨_, Heap.get?_push_of_some _ (Heap.get?_push_size _ rfl), rfl, rfl⟩
  refine callType_newIn F.called_enumerate rfl (by first | rfl | decide) (F.newCall_enumerate_1 _) (fun obj => by first | rfl | decide) F.entry_enumerate_new (meets_enumT a is1.toArray) ⟨p1, ⟨_, c1, rfl⟩, ?_⟩
  refine T.self _ 0 _ _ _ ⟨⟨_, c1⟩, c2⟩ ?_
  refine ⟨_, [s1.heap.objs.size + 1, s1.heap.objs.size], _, _, H1, rfl, I1.kept (t' := s1.toks) (fun b o e => Heap.get?_push_of_some _ (Heap.get?_push_of_some _ e)), T, ⟨⟨_, c1⟩, c2⟩, fun c hc => ?_, q⟩
  simp at hc
  rcases hc with rfl | rfl <;> exact sm _ (by omega)
end
end L2


set_option Elab.async false
set_option linter.all false
set_option maxRecDepth 100000
set_option maxHeartbeats 1000000
namespace L2
open PySem PySem.Spec PyProof.Rows PySem.W

open Classical in
noncomputable def fenA (f : Nat → Int) (p : Nat) : Int := if h : ∃ q, IsPrev f p q then (Classical.choose h : Nat) else -1
theorem fenA_prev {f : Nat → Int} {p q : Nat} (h : IsPrev f p q) : fenA f p = q := by
  have hx : ∃ q, IsPrev f p q := ⟨q, h⟩
  unfold fenA
  rw [dif_pos hx, (Classical.choose_spec hx).unique h]
theorem fenA_no {f : Nat → Int} {p : Nat} (h : NoPrev f p) : fenA f p = -1 := by
  unfold fenA
  rw [dif_neg fun ⟨q, hq⟩ => hq.no h]
theorem IsPrev.over {f : Nat → Int} {p q : Nat} (h : IsPrev f p q) : Over f q p := .inl ⟨h.1, fun r r1 r2 => by
  by_cases z : r = p
  · rw [z]; exact h.2.1
  · have := h.2.2 r r1 (by omega); have := h.2.1; omega⟩
theorem IsNext.over {f : Nat → Int} {n p q : Nat} (h : IsNext f n p q) : Over f q p := .inr ⟨h.1, fun r r1 r2 => by
  by_cases z : r = p
  · rw [z]; exact h.2.2.1
  · have := h.2.2.2 r (by omega) r2; have := h.2.2.1; omega⟩

noncomputable def distN (f : Nat → Int) (p : Nat) : Int := if 0 ≤ fenA f p then (p : Int) - fenA f p else 0
def PairsAt (H : Hp) (l : Addr) (n : Nat) (ps : Nat → Int × Int) : Prop := ∃ qs : List Addr, H l = some (.lst (qs.map V.ref)) ∧ qs.length = n ∧ ∀ (j : Nat) (q : Addr), qs[j]? = some q → H q = some (.tup [.int (ps j).1, .int (ps j).2])
theorem PairsAt.same {H H' : Hp} {l : Addr} {n : Nat} {ps : Nat → Int × Int} (h : PairsAt H l n ps) (s : Same H H') : PairsAt H' l n ps := by
  obtain ⟨qs, h1, h2, h3⟩ := h
  exact ⟨qs, s _ _ h1, h2, fun j q hq => s _ _ (h3 j q hq)⟩
theorem PairsAt.push {H : Hp} {l q : Addr} {n : Nat} {ps : Nat → Int × Int} (h : PairsAt H l n ps) (hq : H q = some (.tup [.int (ps n).1, .int (ps n).2])) : ∃ xs : List V, H l = some (.lst xs) ∧ xs.length = n ∧ PairsAt (upd H l (.lst (xs ++ [.ref q]))) l (n + 1) ps := by
  obtain ⟨qs, h1, h2, h3⟩ := h
  have hne : ∀ a o, H a = some (.tup o) → a ≠ l := fun a o ha z => by rw [z, h1] at ha; cases ha
  refine ⟨_, h1, by simp [h2], qs ++ [q], by rw [upd_same]; simp, by simp [h2], fun j a ha => ?_⟩
  by_cases z : j < qs.length
  · rw [List.getElem?_append_left z] at ha
    have := h3 j a ha
    rw [upd_ne (hne _ _ this)]; exact this
  · have hj := (List.getElem?_eq_some_iff.mp ha).1
    rw [List.length_append] at hj
    have : j = n := by simp at hj; omega
    subst this
    rw [List.getElem?_append_right (by omega), h2] at ha
    simp at ha
    rw [← ha, upd_ne (hne _ _ hq)]; exact hq

theorem Spine.mono {f : Nat → Int} {i : Nat} {S : List Nat} (h : Spine f i S) : S.Pairwise (fun a b => f a ≤ f b) := by
  refine List.Pairwise.imp_of_mem ?_ h.1
  intro a b ha hb hab
  exact ((h.2 a).mp ha).2 b hab ((h.2 b).mp hb).1
end L2


set_option Elab.async false
set_option linter.all false
set_option maxRecDepth 100000
set_option maxHeartbeats 1000000
namespace L2
open PySem PySem.Spec PyProof.Rows PySem.W
theorem for_it {J : It} {n : Nat} {g : TG} {tb : TS} {D : Ends} {σ : St} {H : Hp} (Pv : Nat → St → Hp → Prop) (h0 : Pv 0 σ H) (hgo : ∀ i σ H, i < n → Pv i σ H → J.go i H) (hstop : ∀ σ H, Pv n σ H → J.stop n H)
    (hs : ∀ i x σ H H', i < n → Pv i σ H → J.yld i H x H' → g x σ H' fun σ2 H2 => tb { D with nx := Pv (i + 1), ct := Pv (i + 1), bk := D.nx } σ2 H2) (hd : ∀ σ H, Pv n σ H → D.nx σ H) : LoopR J g tb D σ H := by
  refine ⟨fun i m σ H => m = n - i ∧ i ≤ n ∧ Pv i σ H, ⟨n, by simp, Nat.zero_le _, h0⟩, ?_⟩
  rintro i m σ H ⟨rfl, hi, p⟩
  by_cases hlt : i < n
  · exact .inr ⟨hgo i σ H hlt p, Pv (i + 1), fun σ' H' p' => ⟨n - (i + 1), by omega, rfl, hlt, p'⟩, fun x H' y => hs i x σ H H' hlt p y⟩
  · have : i = n := by omega
    subst this
    exact .inl ⟨hstop σ H p, hd σ H p⟩
theorem range_of (L : List Int) : L = (List.range L.length).map fun i => L.getD i 0 := by
  refine List.ext_getElem (by simp) fun j h1 h2 => ?_
  simp [List.getD_eq_getElem?_getD, h1]

theorem comp_sift {K : Frag} {a : Addr} {L : List Int} {H1 : Hp} {Q : VK} {tt : TT} {σr : St} (P : Int → Bool) (ha : H1 a = some (.lst (L.map V.int))) (hn : L.length ≤ 1000)
    (ht : ∀ (x : Int) (H : Hp) (R : Bool → Hp → Prop), R (P x) H → tt (some (V.int x) :: σr) H R)
    (hk : ∀ l H', Same H1 H' → H' l = none → Q (.ref l) (upd H' l (.lst ((L.filter P).map V.int)))) :
    CompR (Itl K a) (gName 0) tt (tVar 0) (none :: σr) Q H1 := by
  refine comp_filt (n := L.length) (fun i => P (L.getD i 0)) (fun i => V.int (L.getD i 0)) (Nat.lt_of_le_of_lt hn (by decide)) (fun i Hx s hi => ⟨_, _, SqL.of (s _ _ ha), List.getElem?_eq_getElem (by simpa using hi)⟩) (fun Hx s => ⟨_, SqL.of (s _ _ ha), by simp⟩) ?_ ?_
  · rintro i x Hx Hy hi s ⟨rfl, hx⟩
    have ex := hx _ (SqL.of (s _ _ ha))
    rw [List.getElem?_map, List.getElem?_eq_getElem hi] at ex
    cases ex
    have eg : L.getD i 0 = L[i] := by simp [List.getD_eq_getElem?_getD, hi]
    refine ht _ _ _ ?_
    cases hP : P L[i] with
    | true =>
      rw [if_pos rfl]
      exact ⟨_, rfl, CF.take hi (by rw [eg]; exact hP) (by rw [eg]) s⟩
    | false =>
      rw [if_neg (by simp)]
      exact CF.skip hi (by rw [eg]; exact hP) s
  · intro l H' s hl
    have := hk l H' s hl
    have e : ((List.range L.length).filter fun i => P (L.getD i 0)).map (fun i => V.int (L.getD i 0)) = (L.filter P).map V.int := by
      conv => rhs; rw [range_of L, List.filter_map, List.map_map]
      rfl
    rw [e]; exact this
end L2


set_option Elab.async false
set_option linter.all false
set_option maxRecDepth 100000
set_option maxHeartbeats 1000000
namespace L2
open PySem PySem.Spec PyProof.Rows PySem.W

section
variable {X : Cx}

def tMaxDT (K : Frag) (ta td : TA) : TE := fun σ H Q => ta σ H fun vs H1 => td σ H1 fun zs H2 => ∃ (p : Addr) (ns : List Int) (d : Int), vs = [.ref p] ∧ zs = [.int d] ∧ SqT K H2 p (ns.map V.int) ∧ (ns = [] → Q (.int d) H2) ∧ (ns ≠ [] → ∀ m, m ∈ ns → (∀ a ∈ ns, a ≤ m) → Q (.int m) H2)
end

def rInD (K : Frag) : R2 := fun x y H Q => ∃ (q p : Addr) (as : List Addr) (e : Addr → Bool), x = .ref q ∧ y = .ref p ∧ SqL K H p (as.map V.ref) ∧ (∀ a ∈ as, EqD K H 3 (.ref a) x (e a)) ∧ Q (.bl (as.any e)) H
section
variable {X : Cx}
end
end L2


set_option Elab.async false
set_option linter.all false
set_option maxRecDepth 100000
set_option maxHeartbeats 1000000
namespace L2
open PySem PySem.Spec PyProof.Rows PySem.W

end L2


set_option Elab.async false
set_option linter.all false
set_option maxRecDepth 100000
set_option maxHeartbeats 1000000

namespace PySem
open Sem (wp)
section
variable {prog : Program} {w : World} {A : Around} {E : Value → Shared → Prop} {s : Shared}
end
end PySem
namespace L2
open PySem PySem.Spec PyProof.Rows PySem.W
section
variable {X : Cx}
def rTupR2 : List V → Hp → VK → Prop := fun xs H Q => ∃ p i j, xs = [.ref p] ∧ H p = some (.rng i j) ∧ -(2 ^ 62) ≤ i ∧ i < 2 ^ 62 ∧ -(2 ^ 62) ≤ j ∧ j < 2 ^ 62 ∧ j - i ≤ 1000 ∧ ∀ l, H l = none → Q (.ref l) (upd H l (.tup ((List.range (j - i).toNat).map fun (k : Nat) => V.int (i + (k : Int)))))
end
end L2


set_option Elab.async false
set_option linter.all false
set_option maxRecDepth 100000
set_option maxHeartbeats 1000000

namespace L2
open PySem PySem.Spec PyProof.Rows PySem.W

def QIt (h : Heap) (i l : Addr) (k : Nat) (xs : Array Value) : Prop := (h.IsListIter i l k ∧ h.IsList l xs) ∨ (h.IsTupleIter i l k ∧ h.IsTuple l xs)
theorem QIt.ext {h h' : Heap} {i l b : Addr} {k : Nat} {xs : Array Value} (x : QIt h i l k xs) (hs : Heap.ExtBut b h h') (n1 : i ≠ b) (n2 : l ≠ b) : QIt h' i l k xs := by
  rcases x with ⟨p, q⟩ | ⟨p, q⟩
  · exact .inl ⟨p.extBut hs n1, q.extBut hs n2⟩
  · obtain ⟨o, ho, r⟩ := q
    exact .inr ⟨p.extBut hs n1, ⟨o, hs _ _ n2 ho, r⟩⟩
theorem QIt.at {h h' : Heap} {i l : Addr} {k : Nat} {xs : Array Value} (x : QIt h i l k xs) (e1 : ∀ o, h.get? i = some o → h'.get? i = some o) (e2 : ∀ o, h.get? l = some o → h'.get? l = some o) : QIt h' i l k xs := by
  rcases x with ⟨p, ⟨o, ho, r⟩⟩ | ⟨⟨o1, p1, r1⟩, ⟨o, ho, r⟩⟩
  · exact .inl ⟨p.at e1, ⟨o, e2 o ho, r⟩⟩
  · exact .inr ⟨⟨o1, e1 _ p1, r1⟩, ⟨o, e2 o ho, r⟩⟩
theorem QIt.obj {h : Heap} {i l : Addr} {k : Nat} {xs : Array Value} (x : QIt h i l k xs) : (∃ o, h.get? i = some o ∧ ∀ v m, o.data ≠ .seq v m) ∧ ∃ o, h.get? l = some o := by
  rcases x with ⟨⟨o, p, p1, p2⟩, ⟨u, q, _⟩⟩ | ⟨⟨o, p, p1, p2⟩, ⟨u, q, _⟩⟩
  · exact ⟨⟨o, p, fun v m z => by rw [p2] at z; cases z⟩, ⟨u, q⟩⟩
  · exact ⟨⟨o, p, fun v m z => by rw [p2] at z; cases z⟩, ⟨u, q⟩⟩
section
variable {prog : Program} {w : World} {A : Around} {E Q : Value → Shared → Prop} {s : Shared} {it l : Addr} {k : Nat} {xs : Array Value}
theorem nextQ_item {x : Value} (q : QIt s.heap it l k xs) (hn : l ≠ it) (hx : xs[k]? = some x) (h : ∀ h', QIt h' it l (k + 1) xs → Heap.SameBut it s.heap h' → Q x { s with heap := h' }) : wpAny (model prog w) A (Builtin.SmallTypes.nextOf (.ref it)) Q E s := by
  rcases q with ⟨q1, q2⟩ | ⟨q1, q2⟩
  · exact wpAny_nextOf_list_item q1 q2 hx fun h' a b => h h' (.inl ⟨a, q2.extBut b.extBut hn⟩) b
  · refine nextOf_tuple_item q1 q2 hx fun h' a b => h h' (.inr ⟨a, ?_⟩) b
    obtain ⟨o, ho, r⟩ := q2
    exact ⟨o, b.extBut _ _ hn ho, r⟩
theorem nextQ_end (hA : A.handled = none) (q : QIt s.heap it l k xs) (hx : xs[k]? = none) (h : ∀ h' e, Heap.ExtBut it s.heap h' → (∃ o, h'.get? e = some o ∧ o.cls = .type "StopIteration") → E (.ref e) { s with heap := h' }) : wpAny (model prog w) A (Builtin.SmallTypes.nextOf (.ref it)) Q E s := by
  rcases q with ⟨q1, q2⟩ | ⟨q1, q2⟩
  · exact wpAny_nextOf_list_end hA q1 q2 hx h
  · exact nextOf_tuple_end hA q1 q2 hx h
end
section
variable {prog : Program} {w : World} {A : Around} {E : Value → Shared → Prop} {s : Shared} {z TI TO i1 i2 l1 l2 : Addr} {k1 k2 : Nat} {xs ys : Array Value} {a b : Value}
def ZKeep (z TO i1 i2 : Addr) (h h' : Heap) : Prop := ∀ c o, c ≠ z → c ≠ TO → c ≠ i1 → c ≠ i2 → h.get? c = some o → h'.get? c = some o
theorem zipq_item {x y : Value} {Q : Value → Shared → Prop} (D : ZipApart z TI TO i1 i2 l1 l2) (hz : IsZip s.heap z TI TO .none) (hI : IsPair s.heap TI (.ref i1) (.ref i2)) (hO : IsPair s.heap TO a b)
    (q1 : QIt s.heap i1 l1 k1 xs) (q2 : QIt s.heap i2 l2 k2 ys) (hx : xs[k1]? = some x) (hy : ys[k2]? = some y)
    (hQ : ∀ h', IsZip h' z TI TO (rawInt s.heap.objs.size) → IsPair h' TO x y → QIt h' i1 l1 (k1 + 1) xs → QIt h' i2 l2 (k2 + 1) ys → IsPair h' s.heap.objs.size x y → ZKeep z TO i1 i2 s.heap h' → Q (.ref s.heap.objs.size) { s with heap := h' }) :
    wpAny (model prog w) A (Builtin.«zip.__next__» ⟨[.ref z], []⟩) (fun fin s' => ∃ v, fin = .done (.ret v) ∧ Q v s') E s := by
  show wpAny _ _ (field (.ref z) 2 >>= _) _ _ _; refine wpAny_bind (wpAny_field hz rfl (x := .bool false) rfl ?_)
  show wpAny _ _ (field (.ref z) 3 >>= _) _ _ _; refine wpAny_bind (wpAny_field hz rfl (x := .ref TI) rfl ?_); refine wpAny_bind (wpAny_seqItems hI rfl ?_)
  show wpAny _ _ (Builtin.SmallTypes.ownedTupleIsFree (.ref z) >>= _) _ _ _; refine wpAny_bind ?_; unfold Builtin.SmallTypes.ownedTupleIsFree
  refine wpAny_bind (wpAny_field hz rfl (x := .none) rfl (wpAny_pure ?_)); simp only [if_true]; refine wpAny_bind (wpAny_rule ?_); refine wpAny_bind (wpAny_field hz rfl (x := .ref TO) rfl ?_)
  refine wpAny_bind (wpAny_setField_rec hz (by simp) fun g1 z1 m1 => ?_); replace z1 : IsZip g1 z TI TO .ellipsis := z1
  refine wpAny_bind ?_; simp only [List.zipIdx_cons, List.zipIdx_nil, List.forIn_cons, List.forIn_nil]; refine wpAny_bind (wpAny_bind (wpAny_onRaise ?_))
  show wpAny _ _ (Builtin.SmallTypes.nextOf (.ref i1) >>= _) _ _ _; refine wpAny_bind (nextQ_item (q1.ext m1.extBut D.i1z D.l1z) D.l1i1 hx fun g2 p1 m2 => wpAny_pure ?_)
  have o2 : IsPair g2 TO a b := m2.extBut _ _ D.TOi1 (m1.extBut _ _ D.TOz hO)
  refine wpAny_bind (wpAny_seqItems o2 rfl ?_); refine wpAny_bind (wpAny_updateSeq_pair o2 fun g3 o3 m3 => ?_); replace o3 : IsPair g3 TO x b := o3
  refine wpAny_bind (wpAny_letGo (wpAny_pure ?_)); refine wpAny_bind (wpAny_bind (wpAny_onRaise ?_))
  show wpAny _ _ (Builtin.SmallTypes.nextOf (.ref i2) >>= _) _ _ _
  refine wpAny_bind (nextQ_item (((q2.ext m1.extBut D.i2z D.l2z).ext m2.extBut D.i12.symm D.l2i1).ext m3.extBut D.TOi2.symm D.l2TO) D.l2i2 hy fun g4 p2 m4 => wpAny_pure ?_)
  have o4 : IsPair g4 TO x b := m4.extBut _ _ D.TOi2 o3
  refine wpAny_bind (wpAny_seqItems o4 rfl ?_); refine wpAny_bind (wpAny_updateSeq_pair o4 fun g5 o5 m5 => ?_); replace o5 : IsPair g5 TO x y := o5
  refine wpAny_bind (wpAny_letGo (wpAny_pure (wpAny_pure ?_))); refine wpAny_bind (wpAny_seqItems o5 rfl ?_); refine wpAny_bind (wpAny_newTuple ?_)
  have hsz : g5.objs.size = s.heap.objs.size := by rw [m5.1, m4.1, m3.1, m2.1, m1.1]
  have z5 : IsZip g5 z TI TO .ellipsis := m5.extBut _ _ D.TOz.symm (m4.extBut _ _ D.i2z.symm (m3.extBut _ _ D.TOz.symm (m2.extBut _ _ D.i1z.symm z1)))
  have kk : ZKeep z TO i1 i2 s.heap g5 := fun c o c1 c2 c3 c4 e => m5.extBut _ _ c2 (m4.extBut _ _ c4 (m3.extBut _ _ c2 (m2.extBut _ _ c3 (m1.extBut _ _ c1 e))))
  have r1 : QIt g5 i1 l1 (k1 + 1) xs := ((p1.ext m3.extBut D.TOi1.symm D.l1TO).ext m4.extBut D.i12 D.l1i2).ext m5.extBut D.TOi1.symm D.l1TO
  have r2 : QIt g5 i2 l2 (k2 + 1) ys := p2.ext m5.extBut D.TOi2.symm D.l2TO
  have lz : z < g5.objs.size := Heap.lt_size z5
  show wpAny _ _ (Builtin.SmallTypes.ownedTupleHandOut (.ref z) (.ref g5.objs.size) >>= _) _ _ _; refine wpAny_bind ?_; unfold Builtin.SmallTypes.ownedTupleHandOut
  have z6 : IsZip (g5.push { cls := .type "tuple", data := .seq #[x, y] }) z TI TO .ellipsis := Heap.get?_push_of_some _ z5
  refine wpAny_bind (wpAny_setField_rec z6 (by simp) fun g7 z7 m7 => ?_); replace z7 : IsZip g7 z TI TO (rawInt g5.objs.size) := z7
  refine wpAny_setField_rec z7 (by simp) fun g8 z8 m8 => ?_; replace z8 : IsZip g8 z TI TO (rawInt g5.objs.size) := z8
  have up : ∀ c o, c ≠ z → g5.get? c = some o → g8.get? c = some o := fun c o c1 e => m8.extBut _ _ c1 (m7.extBut _ _ c1 (Heap.get?_push_of_some _ e))
  have t8 : IsPair g8 g5.objs.size x y := m8.extBut _ _ (Nat.ne_of_gt lz) (m7.extBut _ _ (Nat.ne_of_gt lz) (Heap.get?_push_size _ rfl))
  rw [hsz] at z8 t8
  refine wpAny_pure ⟨_, rfl, ?_⟩; show Q (.ref g5.objs.size) _; rw [hsz]
  exact hQ g8 z8 (up _ _ D.TOz o5) (r1.at (fun o e => up _ o D.i1z e) fun o e => up _ o D.l1z e) (r2.at (fun o e => up _ o D.i2z e) fun o e => up _ o D.l2z e) t8 fun c o c1 c2 c3 c4 e => up c o c1 (kk c o c1 c2 c3 c4 e)
theorem zipq_end {Q : Fin → Shared → Prop} (hA : A.handled = none) (D : ZipApart z TI TO i1 i2 l1 l2) (hz : IsZip s.heap z TI TO .none) (hI : IsPair s.heap TI (.ref i1) (.ref i2)) (hO : IsPair s.heap TO a b)
    (q1 : QIt s.heap i1 l1 k1 xs) (q2 : QIt s.heap i2 l2 k2 ys) (hend : xs[k1]? = none ∨ ys[k2]? = none)
    (hE : ∀ h' e, ZKeep z TO i1 i2 s.heap h' → (∃ o, h'.get? e = some o ∧ o.cls = .type "StopIteration") → E (.ref e) { s with heap := h' }) :
    wpAny (model prog w) A (Builtin.«zip.__next__» ⟨[.ref z], []⟩) Q E s := by
  show wpAny _ _ (field (.ref z) 2 >>= _) _ _ _; refine wpAny_bind (wpAny_field hz rfl (x := .bool false) rfl ?_)
  show wpAny _ _ (field (.ref z) 3 >>= _) _ _ _; refine wpAny_bind (wpAny_field hz rfl (x := .ref TI) rfl ?_); refine wpAny_bind (wpAny_seqItems hI rfl ?_)
  show wpAny _ _ (Builtin.SmallTypes.ownedTupleIsFree (.ref z) >>= _) _ _ _; refine wpAny_bind ?_; unfold Builtin.SmallTypes.ownedTupleIsFree
  refine wpAny_bind (wpAny_field hz rfl (x := .none) rfl (wpAny_pure ?_)); simp only [if_true]; refine wpAny_bind (wpAny_rule ?_); refine wpAny_bind (wpAny_field hz rfl (x := .ref TO) rfl ?_)
  refine wpAny_bind (wpAny_setField_rec hz (by simp) fun g1 z1 m1 => ?_); replace z1 : IsZip g1 z TI TO .ellipsis := z1
  refine wpAny_bind ?_; simp only [List.zipIdx_cons, List.zipIdx_nil, List.forIn_cons, List.forIn_nil]; refine wpAny_bind (wpAny_bind (wpAny_onRaise ?_))
  show wpAny _ _ (Builtin.SmallTypes.nextOf (.ref i1) >>= _) _ _ _
  cases hx : xs[k1]? with
  | none =>
    refine wpAny_bind (nextQ_end hA (q1.ext m1.extBut D.i1z D.l1z) hx fun g2 e m2 he => ?_)
    obtain ⟨oe, e1, e2⟩ := he
    have z2 : IsZip g2 z TI TO .ellipsis := m2 _ _ D.i1z.symm z1
    have nz : e ≠ z := fun q => by subst q; rw [z2] at e1; cases e1; simp at e2
    exact wpAny_setField_rec z2 (by simp) fun g3 _ m3 => hE g3 e (fun c o c1 _ c3 _ q => m3.extBut _ _ c1 (m2 _ _ c3 (m1.extBut _ _ c1 q))) ⟨oe, m3.extBut _ _ nz e1, e2⟩
  | some x =>
    have hy : ys[k2]? = none := by rcases hend with h | h; rw [hx] at h; cases h; exact h
    refine wpAny_bind (nextQ_item (q1.ext m1.extBut D.i1z D.l1z) D.l1i1 hx fun g2 p1 m2 => wpAny_pure ?_)
    have o2 : IsPair g2 TO a b := m2.extBut _ _ D.TOi1 (m1.extBut _ _ D.TOz hO)
    refine wpAny_bind (wpAny_seqItems o2 rfl ?_); refine wpAny_bind (wpAny_updateSeq_pair o2 fun g3 o3 m3 => ?_); refine wpAny_bind (wpAny_letGo (wpAny_pure ?_)); refine wpAny_bind (wpAny_bind (wpAny_onRaise ?_))
    show wpAny _ _ (Builtin.SmallTypes.nextOf (.ref i2) >>= _) _ _ _
    refine wpAny_bind (nextQ_end hA (((q2.ext m1.extBut D.i2z D.l2z).ext m2.extBut D.i12.symm D.l2i1).ext m3.extBut D.TOi2.symm D.l2TO) hy fun g4 e m4 he => ?_)
    obtain ⟨oe, e1, e2⟩ := he
    have z4 : IsZip g4 z TI TO .ellipsis := m4 _ _ D.i2z.symm (m3.extBut _ _ D.TOz.symm (m2.extBut _ _ D.i1z.symm z1))
    have nz : e ≠ z := fun q => by subst q; rw [z4] at e1; cases e1; simp at e2
    exact wpAny_setField_rec z4 (by simp) fun g5 _ m5 => hE g5 e (fun c o c1 c2 c3 c4 q => m5.extBut _ _ c1 (m4 _ _ c4 (m3.extBut _ _ c2 (m2.extBut _ _ c3 (m1.extBut _ _ c1 q))))) ⟨oe, m5.extBut _ _ nz e1, e2⟩
theorem nextzq_item {x y : Value} {Q : Option Value → Shared → Prop} (D : ZipApart z TI TO i1 i2 l1 l2) (hz : IsZip s.heap z TI TO .none) (hI : IsPair s.heap TI (.ref i1) (.ref i2)) (hO : IsPair s.heap TO a b)
    (q1 : QIt s.heap i1 l1 k1 xs) (q2 : QIt s.heap i2 l2 k2 ys) (hx : xs[k1]? = some x) (hy : ys[k2]? = some y)
    (hQ : ∀ h', IsZip h' z TI TO (rawInt s.heap.objs.size) → IsPair h' TO x y → QIt h' i1 l1 (k1 + 1) xs → QIt h' i2 l2 (k2 + 1) ys → IsPair h' s.heap.objs.size x y → ZKeep z TO i1 i2 s.heap h' → Q (some (.ref s.heap.objs.size)) { s with heap := h' }) :
    wpAny (model prog w) A (pyNext (.ref z)) Q E s := by
  have ty : s.TypeIs (.ref z) "zip" := ⟨_, hz, rfl⟩
  unfold pyNext
  exact wpAny_bind (wpAny_attempt (wpAny_callSpecial?_slot (name := Str.ofString "__next__") ty F.slot_zip_next (wpAny_call_entry F.slot_zip_next ty F.entry_zip_next (zipq_item D hz hI hO q1 q2 hx hy fun h' a1 a2 a3 a4 a5 a6 => wpAny_pure (hQ h' a1 a2 a3 a4 a5 a6)) (F.args_zip_next_1 _))))
theorem nextzq_end {Q : Option Value → Shared → Prop} (hA : A.handled = none) (D : ZipApart z TI TO i1 i2 l1 l2) (hz : IsZip s.heap z TI TO .none) (hI : IsPair s.heap TI (.ref i1) (.ref i2)) (hO : IsPair s.heap TO a b)
    (q1 : QIt s.heap i1 l1 k1 xs) (q2 : QIt s.heap i2 l2 k2 ys) (hend : xs[k1]? = none ∨ ys[k2]? = none) (hQ : ∀ h', ZKeep z TO i1 i2 s.heap h' → Q none { s with heap := h' }) : wpAny (model prog w) A (pyNext (.ref z)) Q E s := by
  have ty : s.TypeIs (.ref z) "zip" := ⟨_, hz, rfl⟩
  unfold pyNext
  refine wpAny_bind (wpAny_attempt (wpAny_callSpecial?_slot (name := Str.ofString "__next__") ty F.slot_zip_next (wpAny_call_entry F.slot_zip_next ty F.entry_zip_next (zipq_end hA D hz hI hO q1 q2 hend fun h' e hk he => ?_) (F.args_zip_next_1 _))))
  obtain ⟨o, e1, e2⟩ := he
  exact wpAny_bind (wpAny_isInstance (T := "StopIteration") (b := true) ⟨o, e1, e2⟩ isSubtype_stop (wpAny_pure (hQ _ hk)))

def SqH (h : Heap) (l : Addr) (xs : Array Value) : Prop := h.IsList l xs ∨ h.IsTuple l xs
theorem SqH.push {h : Heap} {l : Addr} {xs : Array Value} (q : SqH h l xs) (o : Obj) : SqH (h.push o) l xs := by
  rcases q with q | ⟨u, hu, r⟩
  · exact .inl (q.push o)
  · exact .inr ⟨u, Heap.get?_push_of_some _ hu, r⟩
theorem SqH.obj {h : Heap} {l : Addr} {xs : Array Value} (q : SqH h l xs) : ∃ o, h.get? l = some o := by
  rcases q with ⟨o, ho, _⟩ | ⟨o, ho, _⟩ <;> exact ⟨o, ho⟩
def itName (h : Heap) (l : Addr) : String := match h.get? l with
  | some o => if o.cls = .type "tuple" then "tuple_iterator" else "list_iterator"
  | none => "list_iterator"
theorem iterQ {Q : Value → Shared → Prop} (q : SqH s.heap l1 xs) (h : Q (.ref s.heap.objs.size) { s with heap := s.heap.push { cls := .type (itName s.heap l1), data := .fields #[.ref l1, .int 0 0] } }) : wpAny (model prog w) A (pyIter (.ref l1)) Q E s := by
  rcases q with q | q
  · have e : itName s.heap l1 = "list_iterator" := by
      obtain ⟨o, ho, hc, _⟩ := q
      unfold itName; rw [ho]; dsimp only; rw [if_neg (by rw [hc]; intro z; injection z with z; exact absurd z (by decide))]
    rw [e] at h; exact wpAny_pyIter_list q h
  · have e : itName s.heap l1 = "tuple_iterator" := by
      obtain ⟨o, ho, hc, _⟩ := q
      unfold itName; rw [ho]; dsimp only; rw [if_pos hc]
    rw [e] at h; exact wpAny_pyIter_tuple q h
theorem itQ {h h' : Heap} {i : Addr} (q : SqH h l1 xs) (ho : h'.get? i = some { cls := .type (itName h l1), data := .fields #[.ref l1, .int 0 0] }) (hl : ∀ o, h.get? l1 = some o → h'.get? l1 = some o) : QIt h' i l1 0 xs := by
  rcases q with q | q
  · have e : itName h l1 = "list_iterator" := by
      obtain ⟨o, ho, hc, _⟩ := q
      unfold itName; rw [ho]; dsimp only; rw [if_neg (by rw [hc]; intro z; injection z with z; exact absurd z (by decide))]
    rw [e] at ho
    obtain ⟨o, q1, r⟩ := q
    exact .inl ⟨⟨_, ho, rfl, rfl⟩, ⟨o, hl _ q1, r⟩⟩
  · have e : itName h l1 = "tuple_iterator" := by
      obtain ⟨o, ho, hc, _⟩ := q
      unfold itName; rw [ho]; dsimp only; rw [if_pos hc]
    rw [e] at ho
    obtain ⟨o, q1, r⟩ := q
    exact .inr ⟨⟨_, ho, rfl, rfl⟩, ⟨o, hl _ q1, r⟩⟩
abbrev zq1 (h : Heap) (l1 : Addr) : Heap := h.push { cls := .type (itName h l1), data := .fields #[.ref l1, .int 0 0] }
abbrev zq2 (h : Heap) (l1 l2 : Addr) : Heap := (zq1 h l1).push { cls := .type (itName (zq1 h l1) l2), data := .fields #[.ref l2, .int 0 0] }
abbrev zq3 (h : Heap) (l1 l2 : Addr) : Heap := (zq2 h l1 l2).push { cls := .type "tuple", data := .seq #[.ref h.objs.size, .ref (zq1 h l1).objs.size] }
abbrev zq4 (h : Heap) (l1 l2 : Addr) : Heap := (zq3 h l1 l2).push { cls := .type "tuple", data := .seq #[.none, .none] }
abbrev zq5 (h : Heap) (l1 l2 : Addr) : Heap := (zq4 h l1 l2).push { cls := .type "zip", data := .fields #[.none, .bool false, .bool false, .ref (zq2 h l1 l2).objs.size, .ref (zq3 h l1 l2).objs.size] }
theorem meets_zipq (l1 l2 : Addr) (xs ys : Array Value) :
    Meets (Builtin.«zip.__new__» ⟨[.type "zip", .ref l1, .ref l2], []⟩) (fun _ R s => SqH s.heap l1 xs ∧ SqH s.heap l2 ys ∧ R (.ok (.ret (.ref (zq4 s.heap l1 l2).objs.size))) { s with heap := zq5 s.heap l1 l2 }) :=
  .of_wp fun prog w A R s h => by
    obtain ⟨hp, g, d, tk, os⟩ := s; obtain ⟨b1, b2, h⟩ := h
    have hsub := sub_zip
    have L1 : SqH (Shared.heap ⟨hp, g, d, tk, os⟩) l1 xs := b1
    have L2 : SqH (Shared.heap ⟨zq1 hp l1, g, d, tk, os⟩) l2 ys := SqH.push b2 _
    wp_walk using iterQ L1, iterQ L2
    exact ⟨_, rfl, h⟩
theorem call_zipq {Q : Value → Shared → Prop} (b1 : SqH s.heap l1 xs) (b2 : SqH s.heap l2 ys)
    (h : ∀ h', IsZip h' (s.heap.objs.size + 4) (s.heap.objs.size + 2) (s.heap.objs.size + 3) .none → IsPair h' (s.heap.objs.size + 2) (.ref s.heap.objs.size) (.ref (s.heap.objs.size + 1)) → IsPair h' (s.heap.objs.size + 3) .none .none →
      QIt h' s.heap.objs.size l1 0 xs → QIt h' (s.heap.objs.size + 1) l2 0 ys → (∀ c o, s.heap.get? c = some o → h'.get? c = some o) → Q (.ref (s.heap.objs.size + 4)) { s with heap := h' }) :
    wpAny (model prog w) A (call (.type "zip") [.ref l1, .ref l2]) Q E s := by
  refine callType_new F.called_zip (by decide) (F.typeCall_zip_2 _ _) (F.newCall_zip_2 _ _) (fun obj => F.args_object_init_3 obj _ _) F.entry_zip_new (meets_zipq l1 l2 xs ys) ⟨b1, b2, ?_⟩
  have z1 : (zq1 s.heap l1).objs.size = s.heap.objs.size + 1 := Heap.size_push ..
  have z2 : (zq2 s.heap l1 l2).objs.size = s.heap.objs.size + 2 := by rw [Heap.size_push, z1]
  have z3 : (zq3 s.heap l1 l2).objs.size = s.heap.objs.size + 3 := by rw [Heap.size_push, z2]
  have z4 : (zq4 s.heap l1 l2).objs.size = s.heap.objs.size + 4 := by rw [Heap.size_push, z3]
  have g5 : (zq5 s.heap l1 l2).get? (zq4 s.heap l1 l2).objs.size = some _ := Heap.get?_push_size _ rfl
  have g4 : (zq5 s.heap l1 l2).get? (zq3 s.heap l1 l2).objs.size = some _ := Heap.get?_push_of_some _ (Heap.get?_push_size _ rfl)
  have g3 : (zq5 s.heap l1 l2).get? (zq2 s.heap l1 l2).objs.size = some _ := Heap.get?_push_of_some _ (Heap.get?_push_of_some _ (Heap.get?_push_size _ rfl))
  have g2 : (zq5 s.heap l1 l2).get? (zq1 s.heap l1).objs.size = some _ := Heap.get?_push_of_some _ (Heap.get?_push_of_some _ (Heap.get?_push_of_some _ (Heap.get?_push_size _ rfl)))
  have g1 : (zq5 s.heap l1 l2).get? s.heap.objs.size = some _ := Heap.get?_push_of_some _ (Heap.get?_push_of_some _ (Heap.get?_push_of_some _ (Heap.get?_push_of_some _ (Heap.get?_push_size _ rfl))))
  have up1 : ∀ c o, (zq1 s.heap l1).get? c = some o → (zq5 s.heap l1 l2).get? c = some o := fun c o x => Heap.get?_push_of_some _ (Heap.get?_push_of_some _ (Heap.get?_push_of_some _ (Heap.get?_push_of_some _ x)))
  have up : ∀ c o, s.heap.get? c = some o → (zq5 s.heap l1 l2).get? c = some o := fun c o x => up1 c o (Heap.get?_push_of_some _ x)
  have r1 := itQ b1 g1 fun o e => up _ o e
  have r2 := itQ (b2.push _) g2 fun o e => up1 _ o e
  show _ ∧ _
  rw [z2, z3, z4] at g5
  rw [z1, z2] at g3
  rw [z3] at g4
  rw [z1] at r2
  rw [z4]
  exact ⟨⟨_, g5, rfl⟩, h _ g5 g3 g4 r1 r2 up⟩
end
section
variable {X : Cx} {pins : List (Addr × Obj)} {σ : St} {H : Hp} {s : Shared}

def SqB (K : Frag) (t : Bool) (H : Hp) (a : Addr) (xs : List V) : Prop := match t with
  | true => SqT K H a xs
  | false => SqL K H a xs
def ItB (t : Bool) (h : Heap) (i a : Addr) (k : Nat) : Prop := match t with
  | true => h.IsTupleIter i a k
  | false => h.IsListIter i a k
theorem SqB.of {K : Frag} {H : Hp} {a : Addr} {xs : List V} (h : SqL K H a xs ∨ SqT K H a xs) : ∃ t, SqB K t H a xs := by
  rcases h with h | h
  · exact ⟨false, h⟩
  · exact ⟨true, h⟩
theorem Same.seqB {K : Frag} {t : Bool} {H H' : Hp} {a : Addr} {xs : List V} (e : Same H H') (h : SqB K t H a xs) : SqB K t H' a xs := by
  cases t
  · exact e.seq h
  · exact e.seqT h
theorem ItB.keep {t : Bool} {h h' : Heap} {i a : Addr} {k : Nat} (q : ItB t h i a k) (e : ∀ o, h.get? i = some o → h'.get? i = some o) : ItB t h' i a k := by
  cases t
  · obtain ⟨o, ho, r⟩ := q; exact ⟨o, e o ho, r⟩
  · obtain ⟨o, ho, r⟩ := q; exact ⟨o, e o ho, r⟩
theorem ItB.obj {t : Bool} {h : Heap} {i a : Addr} {k : Nat} (q : ItB t h i a k) : ∃ o, h.get? i = some o ∧ ∃ v, o.data = .fields v := by
  cases t
  · obtain ⟨o, ho, _, d⟩ := q; exact ⟨o, ho, _, d⟩
  · obtain ⟨o, ho, _, d⟩ := q; exact ⟨o, ho, _, d⟩
theorem Inv.sqb (I : Inv X pins σ H s) {t : Bool} {a : Addr} {xs : List V} (q : SqB X.K t H a xs) : ∃ its : List Value, Vals xs its ∧ SqH s.heap a its.toArray ∧ ∀ i k, ItB t s.heap i a k → QIt s.heap i a k its.toArray := by
  cases t
  · obtain ⟨its, r, p, _⟩ := I.list q; exact ⟨its, r, .inl p.isList, fun i k h => .inl ⟨h, p.isList⟩⟩
  · obtain ⟨its, r, p, _⟩ := I.tuple q; exact ⟨its, r, .inr p, fun i k h => .inr ⟨h, p⟩⟩
theorem Inv.itb (I : Inv X pins σ H s) {t : Bool} {a i : Addr} {xs : List V} {h' : Heap} {k : Nat} {us : Array Value} (q : SqB X.K t H a xs) (kp : ∀ o, s.heap.get? a = some o → h'.get? a = some o) (u : QIt h' i a k us) : ItB t h' i a k := by
  cases t
  · obtain ⟨its, r, p, _⟩ := I.list q
    obtain ⟨o, ho, hc, _⟩ := p.isList
    rcases u with ⟨u, _⟩ | ⟨_, ⟨o', ho', hc', _⟩⟩
    · exact u
    · rw [kp o ho] at ho'
      cases ho'
      rw [hc] at hc'; injection hc' with z; exact absurd z (by decide)
  · obtain ⟨its, r, p, _⟩ := I.tuple q
    obtain ⟨o, ho, hc, _⟩ := p
    rcases u with ⟨_, ⟨o', ho', hc', _⟩⟩ | ⟨u, _⟩
    · rw [kp o ho] at ho'
      cases ho'
      rw [hc] at hc'; injection hc' with z; exact absurd z (by decide)
    · exact u
theorem Inv.sqb_inj (I : Inv X pins σ H s) {t : Bool} {a : Addr} {xs ys : List V} (q : SqB X.K t H a xs) (r : SqB X.K t H a ys) : xs = ys := by
  cases t
  · exact I.list_inj q r
  · exact I.tuple_inj q r

def Itzq (K : Frag) (t u : Bool) (a b : Addr) : It :=
  ⟨fun i H => ∃ xs ys x y, SqB K t H a xs ∧ SqB K u H b ys ∧ xs[i]? = some x ∧ ys[i]? = some y,
   fun i H v H' => ∃ p x y, H p = none ∧ v = .ref p ∧ H' = upd H p (.tup [x, y]) ∧ (∀ xs, SqB K t H a xs → xs[i]? = some x) ∧ ∀ ys, SqB K u H b ys → ys[i]? = some y,
   fun i H => ∃ xs ys, SqB K t H a xs ∧ SqB K u H b ys ∧ (xs.length ≤ i ∨ ys.length ≤ i)⟩
theorem turn_zipq {P : Program} {w : World} {K : Frag} {elts : List Expr} {x1} {pos : Pos} {t u : Bool} {a b z TI TO i1 i2 : Addr} (D : ZipApart z TI TO i1 i2 a b) :
    Turn P w K (.Tuple elts x1 pos) (Itzq K t u a b) [z, TI, TO, i1, i2] z (fun i h => IsZip h z TI TO .none ∧ IsPair h TI (.ref i1) (.ref i2) ∧ (∃ u v, IsPair h TO u v) ∧ ItB t h i1 a i ∧ ItB u h i2 b i) where
  mem := by simp
  obj := fun i h st c hc => by
    obtain ⟨q1, q2, ⟨u, v, q3⟩, q4, q5⟩ := st
    simp at hc
    rcases hc with rfl | rfl | rfl | rfl | rfl
    · exact ⟨_, q1, fun v z => by cases z⟩
    · exact ⟨_, q2, fun v z => by cases z⟩
    · exact ⟨_, q3, fun v z => by cases z⟩
    · obtain ⟨o, ho, v, d⟩ := q4.obj; exact ⟨_, ho, fun v z => by rw [d] at z; cases z⟩
    · obtain ⟨o, ho, v, d⟩ := q5.obj; exact ⟨_, ho, fun v z => by rw [d] at z; cases z⟩
  keep := fun i h h' st k => by
    obtain ⟨q1, q2, ⟨u, v, q3⟩, q4, q5⟩ := st
    exact ⟨k z (by simp) _ q1, k TI (by simp) _ q2, ⟨u, v, k TO (by simp) _ q3⟩, q4.keep fun o e => k i1 (by simp) o e, q5.keep fun o e => k i2 (by simp) o e⟩
  item := by
    intro X hP hw hK hc i pins s σ H E I hf st hg
    subst hP hw hK
    obtain ⟨xs, ys, x, y, qa, qb, hx, hy⟩ := hg
    obtain ⟨q1, q2, ⟨u0, v0, q3⟩, q4, q5⟩ := st
    obtain ⟨is1, r1, p1, w1⟩ := I.sqb qa
    obtain ⟨is2, r2, p2, w2⟩ := I.sqb qb
    obtain ⟨u', hu, ru⟩ := r1.get hx
    obtain ⟨v, hv, rv⟩ := r2.get hy
    have oa := p1.obj
    have ob := p2.obj
    refine nextzq_item D q1 q2 q3 (w1 _ _ q4) (w2 _ _ q5) (x := u') (y := v) (by simpa using hu) (by simpa using hv) fun h' a1 a2 a3 a4 a5 a7 => ?_
    refine ⟨_, rfl, ?_⟩
    refine wpAny_letOwnedTupleGo_zip (s := { s with heap := h' }) a1 fun h2 b1 b2 => ?_
    have hfr : H s.heap.objs.size = none := I.hok.fresh (Nat.le_refl _)
    have I1 : Inv X pins σ (upd H s.heap.objs.size (.tup [x, y])) { s with heap := s.heap.push { cls := .type "tuple", data := .seq #[u', v] } } := by
      refine I.laid (t' := s.toks) (fun b u e => Heap.get?_push_of_some _ e) (Nat.le_refl _) ?_
      exact ⟨by show 2 ≤ sizeLine; decide, [u', v], .cons ru (.cons rv .nil), ⟨_, Heap.get?_push_size _ rfl, rfl, _, rfl⟩⟩
    have nz : ∀ c ∈ [z, TI, TO, i1, i2], c ≠ s.heap.objs.size := fun c hc e => by
      have : ∃ o, s.heap.get? c = some o := by
        simp at hc
        rcases hc with rfl | rfl | rfl | rfl | rfl
        · exact ⟨_, q1⟩
        · exact ⟨_, q2⟩
        · exact ⟨_, q3⟩
        · obtain ⟨o, q, _⟩ := q4.obj; exact ⟨o, q⟩
        · obtain ⟨o, q, _⟩ := q5.obj; exact ⟨o, q⟩
      obtain ⟨o, q⟩ := this
      exact absurd (Heap.lt_size q) (by rw [e]; exact Nat.lt_irrefl _)
    have hf1 : ∀ c ∈ [z, TI, TO, i1, i2], FpOk X pins (upd H s.heap.objs.size (.tup [x, y])) c := fun c hc => by
      obtain ⟨f0, f1, f2, f3, f4, f5⟩ := hf c hc
      exact ⟨by rw [upd_ne (nz c hc)]; exact f0, f1, f2, f3, f4, f5⟩
    have I2 : Inv X pins σ (upd H s.heap.objs.size (.tup [x, y])) { s with heap := h2 } := by
      refine Inv.turnedL (s := { s with heap := s.heap.push { cls := .type "tuple", data := .seq #[u', v] } }) (t' := s.toks) (fp := [z, TI, TO, i1, i2]) I1 (fun c o hc e => ?_) hf1
      simp only [List.mem_cons, List.not_mem_nil, or_false, not_or] at hc
      obtain ⟨c1, c2, c3, c4, c5⟩ := hc
      refine b2.extBut _ _ c1 ?_
      by_cases hs : c = s.heap.objs.size
      · subst hs
        have e' : (s.heap.push { cls := .type "tuple", data := .seq #[u', v] }).get? s.heap.objs.size = some _ := Heap.get?_push_size _ rfl
        have ee : o = { cls := .type "tuple", data := .seq #[u', v] } := by
          have := e.symm.trans e'
          exact Option.some.inj this
        rw [ee]; exact a5
      · have : s.heap.get? c = some o := by
          rcases Heap.get?_push_cases e with ⟨q, _⟩ | q
          · exact absurd q hs
          · exact q
        exact a7 c o c1 c3 c4 c5 this
    have ka : ∀ o, s.heap.get? a = some o → h'.get? a = some o := fun o e => a7 a o D.l1z D.l1TO D.l1i1 D.l1i2 e
    have kb : ∀ o, s.heap.get? b = some o → h'.get? b = some o := fun o e => a7 b o D.l2z D.l2TO D.l2i1 D.l2i2 e
    refine ⟨.ref s.heap.objs.size, _, I2, rfl, ⟨_, x, y, hfr, rfl, rfl, fun xs' q' => ?_, fun ys' q' => ?_⟩, ⟨b1, ?_, ⟨u', v, ?_⟩, ?_, ?_⟩, fun c hc => (hf1 c hc).1⟩
    · rw [I.sqb_inj q' qa]; exact hx
    · rw [I.sqb_inj q' qb]; exact hy
    · exact b2.extBut _ _ D.TIz (a7 _ _ D.TIz D.TITO D.TIi1 D.TIi2 q2)
    · exact b2.extBut _ _ D.TOz a2
    · exact (I.itb qa ka a3).keep fun o e => b2.extBut _ _ D.i1z e
    · exact (I.itb qb kb a4).keep fun o e => b2.extBut _ _ D.i2z e
  done := by
    intro X hP hw hK hc i pins s σ H E I hf st hg
    subst hP hw hK
    obtain ⟨xs, ys, qa, qb, hx⟩ := hg
    obtain ⟨q1, q2, ⟨u0, v0, q3⟩, q4, q5⟩ := st
    obtain ⟨is1, r1, p1, w1⟩ := I.sqb qa
    obtain ⟨is2, r2, p2, w2⟩ := I.sqb qb
    refine nextzq_end (I.ok.hd hc) D q1 q2 q3 (w1 _ _ q4) (w2 _ _ q5) ?_ fun h' k => ⟨rfl, I.turnedL (t' := s.toks) (fp := [z, TI, TO, i1, i2]) (fun c o hc e => ?_) hf⟩
    · rcases hx with hx | hx
      · left; simp; rw [← r1.length]; exact hx
      · right; simp; rw [← r2.length]; exact hx
    · simp only [List.mem_cons, List.not_mem_nil, or_false, not_or] at hc
      obtain ⟨c1, c2, c3, c4, c5⟩ := hc
      exact k c o c1 c3 c4 c5 e
  self := fun _ _ _ _ _ st h => wpAny_pyIter_zip st.1 h
def iZipQ (K : Frag) (ta : TA) : TI := fun σ H R => ta σ H fun vs H1 => ∃ a b t u xs ys, vs = [.ref a, .ref b] ∧ SqB K t H1 a xs ∧ SqB K u H1 b ys ∧ R (Itzq K t u a b) H1
theorem pi_zipQ {K : Frag} {elts : List Expr} {x1} {tp : Pos} {e1 e2 : Expr} {ta : TA} {p pos : Pos} (hK : X.K = K) (hg : Gl X "zip") (hm : X.mg "zip" = none) (ha : PA X [e1, e2] ta) (he : starEach [e1, e2] X.env = (false, eval e1 X.env) :: starEach [e2] X.env := by rfl) (hpl : (backTo pos (starEach [e2] X.env)).any (·.1) = false := by rfl) :
    PI X (.Tuple elts x1 tp) (.Call (.Name "zip" p) [e1, e2] [] pos) (iZipQ K ta) := by
  subst hK
  intro pins s σ H R I h
  refine wpAny_Call_Name_kw (ld_blt I hg hm boot_zip' ?_)
  refine PyProof.Rows.callWith_type1 (thn (ha pos pins s σ H _ I h) fun us s1 ⟨vs, H1, I1, r1, a, b, t, u, xs, ys, e1, qa, qb, q⟩ => ?_) he hpl
  subst e1
  obtain ⟨u', v, rfl, ru, rv⟩ := r1.two
  cases (show u' = Value.ref a from ru)
  cases (show v = Value.ref b from rv)
  obtain ⟨is1, rr1, p1, _⟩ := I1.sqb qa
  obtain ⟨is2, rr2, p2, _⟩ := I1.sqb qb
  refine call_zipq p1 p2 fun h' c1 c2 c3 c4 c5 c7 => ?_
  refine wpAny_pyIter_zip c1 ?_
  have l1 : a < s1.heap.objs.size := by obtain ⟨o, e⟩ := p1.obj; exact Heap.lt_size e
  have l2 : b < s1.heap.objs.size := by obtain ⟨o, e⟩ := p2.obj; exact Heap.lt_size e
  have sm : ∀ b, s1.heap.objs.size ≤ b → FpOk X pins H1 b := fun b hb => I1.fpOk hb (I1.hok.fresh hb)
  refine ⟨_, [s1.heap.objs.size + 4, s1.heap.objs.size + 2, s1.heap.objs.size + 3, s1.heap.objs.size, s1.heap.objs.size + 1], _, _, H1, rfl, I1.kept (t' := s1.toks) c7, turn_zipq (t := t) (u := u) (a := a) (b := b) ?_, ⟨c1, c2, ⟨_, _, c3⟩, I1.itb qa (fun o e => c7 _ o e) c4, I1.itb qb (fun o e => c7 _ o e) c5⟩, fun c hc => ?_, q⟩
  · exact zapart _ _ _ l1 l2
  · simp at hc
    rcases hc with rfl | rfl | rfl | rfl | rfl <;> exact sm _ (by omega)
end
end L2


set_option Elab.async false
set_option linter.all false
set_option maxRecDepth 100000
set_option maxHeartbeats 1000000
namespace L2
open PySem PySem.Spec PyProof.Rows PySem.W
end L2
namespace L2
open PySem PySem.Spec PyProof.Rows PySem.W
end L2


set_option Elab.async false
set_option linter.all false
set_option maxRecDepth 100000
set_option maxHeartbeats 1000000
namespace L2
open PySem PySem.Spec PyProof.Rows PySem.W

theorem map_range_nth {F : Nat → Int} {n k : Nat} (h : k < n) : nth ((List.range n).map F) k = F k := by simp [nth, List.getD_eq_getElem?_getD, h]
end L2
namespace L2
open PySem PySem.Spec PyProof.Rows PySem.W
end L2


set_option Elab.async false
set_option linter.all false
set_option maxRecDepth 100000
set_option maxHeartbeats 1000000
namespace L2
open PySem PySem.Spec PyProof.Rows PySem.W

end L2
namespace L2
open PySem PySem.Spec PyProof.Rows PySem.W
theorem eqd_nil {K : Frag} {Hx : Hp} {l q : Addr} {L : List Nat} (h1 : Hx l = some (.lst (natsV L))) (h2 : Hx q = some (.lst [])) : EqD K Hx 3 (V.ref l) (V.ref q) (decide (L = [])) := by
  have hh := eqp_lst (n := 2) (K := K) (H := Hx) eqp_int (V.ref l) (V.ref q) (L.map fun (q : Nat) => (q : Int)) [] (isL_ints (SqL.of (by rw [h1]; simp [natsV, Function.comp_def]))) (isL_ints (ns := []) (SqL.of h2))
  have e : decide (L.map (fun (q : Nat) => (q : Int)) = []) = decide (L = []) := by cases L <;> simp
  rw [e] at hh; exact hh
end L2
namespace L2
open PySem PySem.Spec PyProof.Rows PySem.W

end L2
namespace L2
theorem snoc_cases {α : Type} (xs : List α) : xs = [] ∨ ∃ ys y, xs = ys ++ [y] := by
  rcases List.eq_nil_or_concat xs with h | ⟨ys, y, h⟩
  · exact .inl h
  · exact .inr ⟨ys, y, by rw [h, List.concat_eq_append]⟩
end L2
namespace L2
open PySem PySem.Spec PyProof.Rows PySem.W
end L2


set_option Elab.async false
set_option linter.all false
set_option maxRecDepth 100000
set_option maxHeartbeats 1000000
namespace L2
open PySem PySem.Spec PyProof.Rows PySem.W

def sw (d : Int) (k : Nat) : Int := if d ≤ k then d else 0
theorem sw_sw {d : Int} {a b : Nat} (h : a ≤ b) : sw (sw d b) a = sw d a := by
  unfold sw
  by_cases h1 : d ≤ b
  · rw [if_pos h1]
  · rw [if_neg h1, if_pos (by omega : (0 : Int) ≤ a), if_neg (by omega)]
theorem distN_cases (f : Nat → Int) (p : Nat) : (NoPrev f p ∧ distN f p = 0) ∨ ∃ q, IsPrev f p q ∧ distN f p = (p : Int) - q := by
  rcases prev_or f p with h | ⟨q, h⟩
  · exact .inl ⟨h, by unfold distN; rw [fenA_no h, if_neg (by omega)]⟩
  · exact .inr ⟨q, h, by unfold distN; rw [fenA_prev h, if_pos (by omega)]⟩
theorem distN_bounds (f : Nat → Int) (p : Nat) : 0 ≤ distN f p ∧ distN f p ≤ p := by
  rcases distN_cases f p with ⟨_, e⟩ | ⟨q, h, e⟩
  · omega
  · have := h.1; omega
theorem sw_self (f : Nat → Int) (p : Nat) : sw (distN f p) p = distN f p := if_pos (distN_bounds f p).2

def KinD (f g : Nat → Int) (m : Nat) : Prop := ∀ i, i < m → distN f i = distN g i

def Mt (f g : Nat → Int) (m p : Nat) : Prop := ∀ i, i < m → distN f i = sw (distN g (p - m + i)) i
theorem Mt.succ {f g : Nat → Int} {m p : Nat} (h : m ≤ p) : Mt f g (m + 1) (p + 1) ↔ Mt f g m p ∧ distN f m = sw (distN g p) m := by
  constructor
  · intro H
    refine ⟨fun i hi => ?_, ?_⟩
    · have := H i (by omega); rw [show p + 1 - (m + 1) + i = p - m + i by omega] at this; exact this
    · have := H m (by omega); rw [show p + 1 - (m + 1) + m = p by omega] at this; exact this
  · rintro ⟨H, h2⟩ i hi
    rw [show p + 1 - (m + 1) + i = p - m + i by omega]
    by_cases e : i = m
    · rw [e, show p - m + m = p by omega]; exact h2
    · exact H i (by omega)
theorem Mt.part {f g : Nat → Int} {m c p : Nat} (hm : m ≤ c) (hc : c ≤ p) (h : Mt f g c p) : Mt f g m p ↔ Mt f f m c := by
  have key : ∀ j, j < m → sw (distN f (c - m + j)) j = sw (distN g (p - m + j)) j := fun j hj => by
    have := h (c - m + j) (by omega)
    rw [this, show p - c + (c - m + j) = p - m + j by omega, sw_sw (by omega)]
  constructor
  · intro H j hj; rw [key j hj]; exact H j hj
  · intro H j hj; rw [← key j hj]; exact H j hj
theorem Mt.zero (f g : Nat → Int) (p : Nat) : Mt f g 0 p := fun i hi => absurd hi (by omega)
theorem Mt.self (f : Nat → Int) (m : Nat) : Mt f f m m := fun i hi => by rw [Nat.sub_self, Nat.zero_add, sw_self]
def IsBorder (f : Nat → Int) (k m : Nat) : Prop := m < k ∧ Mt f f m k ∧ ∀ j, m < j → j < k → ¬ Mt f f j k
theorem IsBorder.unique {f : Nat → Int} {k m j : Nat} (h : IsBorder f k m) (h' : IsBorder f k j) : m = j := by
  rcases Nat.lt_trichotomy m j with z | z | z
  · exact absurd h'.2.1 (h.2.2 j z h'.1)
  · exact z
  · exact absurd h.2.1 (h'.2.2 m z h.1)
def Goes (f : Nat → Int) (n s : Nat) (d : Int) (m : Nat) : Prop := m ≤ s ∧ Mt f f m s ∧ m < n ∧ distN f m = sw d m ∧ ∀ j, m < j → j ≤ s → Mt f f j s → ¬ (j < n ∧ distN f j = sw d j)

def Walk (f : Nat → Int) (n s : Nat) (d : Int) (c : Nat) : Prop := c ≤ s ∧ Mt f f c s ∧ ∀ j, c < j → j ≤ s → Mt f f j s → ¬ (j < n ∧ distN f j = sw d j)
theorem Walk.start (f : Nat → Int) (n s : Nat) (d : Int) : Walk f n s d s := ⟨Nat.le_refl _, Mt.self f s, fun j h1 h2 => absurd h1 (by omega)⟩
theorem Walk.step {f : Nat → Int} {n s : Nat} {d : Int} {c b : Nat} (h : Walk f n s d c) (no : ¬ (c < n ∧ distN f c = sw d c)) (hb : IsBorder f c b) : Walk f n s d b := by
  obtain ⟨h1, h2, h3⟩ := h
  obtain ⟨b1, b2, b3⟩ := hb
  refine ⟨by omega, (Mt.part (by omega) h1 h2).mpr b2, fun j j1 j2 j3 => ?_⟩
  rcases Nat.lt_trichotomy j c with z | z | z
  · exact absurd ((Mt.part (by omega) h1 h2).mp j3) (b3 j j1 z)
  · rw [z]; exact no
  · exact h3 j z j2 j3
theorem Walk.goes {f : Nat → Int} {n s : Nat} {d : Int} {c : Nat} (h : Walk f n s d c) (ok : c < n ∧ distN f c = sw d c) : Goes f n s d c := ⟨h.1, h.2.1, ok.1, ok.2, h.2.2⟩

end L2
namespace L2
open PySem PySem.Spec PyProof.Rows PySem.W
theorem natsV_last {bs : List Nat} {i : Nat} (h : bs.length = i + 1) : atI (natsV bs) (-1) = some (V.int ((bs.getD i 0 : Nat) : Int)) := by
  refine atI_m1 (by rw [natsV_len]; omega) ?_
  rw [natsV_len, h, Nat.add_sub_cancel]
  simp [natsV, List.getD_eq_getElem?_getD, h]
end L2


set_option Elab.async false
set_option linter.all false
set_option maxRecDepth 100000
set_option maxHeartbeats 1000000
namespace L2
open PySem PySem.Spec PyProof.Rows PySem.W
end L2
namespace L2
end L2


set_option Elab.async false
set_option linter.all false
set_option maxRecDepth 100000
set_option maxHeartbeats 1000000
namespace L2
open PySem PySem.Spec PyProof.Rows PySem.W

structure FunD (K : PySem.W.Frag) (x qual : Str) (st : Stmt) (f : Addr) (fd : FuncData) (dV : Value) : Prop where
  ex : ∃ (oc : Value) (od : Option Addr) (kV doc pm : Value) (an : Option Addr) (cdv ct : Value) (osl : Array (Option Value)),
    fd = PySem.W.fnOf x qual (defArgs st) (defBody st) (defScope st) dV kV doc pm an cdv ct ∧ K.lookup f = some ⟨oc, od, .func fd, osl⟩ ∧ PySem.W.codeIn K cdv qual = true
  kp : PySem.W.keepIn K (.ref f) = true
section
variable {P : Program} {w : World} {K : PySem.W.Frag} {mg : Str → Option Value} {base : Heap}
theorem FunD.okX {x qual : Str} {st : Stmt} {f : Addr} {fd : FuncData} {dV : Value} {N ps : List Str} {k : Nat} {sp : Sp} (F : FunD K x qual st f fd dV) (S : FnScope N ps (defScope st)) (len : ∀ vs H Q E, sp vs H Q E → vs.length = ps.length)
    (hbody : ∀ (cdv : Value) (A : Around) (outer : List Env) (s : Shared) (H : Hp) (vs : List V) (Q : VK) (E : XK), Room k (A.deeper (envOfC qual (defScope st) s.heap.objs.size f cdv)) → sp vs H Q E →
      ∃ t, PSs (cxOf (CXE P w) P w K mg base N qual (defScope st) f cdv A outer s H E) (defBody st) t ∧ t { nx := fun _ H' => Q .non H', rt := Q } (start N vs) H) : FnOk P w K mg base (CXE P w) (k + 1) f fd ps sp := by
  obtain ⟨oc, od, kV, doc, pm, an, cdv, ct, osl, rfl, lk, hcd⟩ := F.ex
  exact fn_of lk hcd S len fun A outer s H vs Q E hr hsp => hbody cdv A outer s H vs Q E hr hsp
theorem FunD.binds {x qual : Str} {st : Stmt} {f : Addr} {fd : FuncData} {D : Addr} {ps : List Str} {ds : List Value} {oc : Value} {od : Option Addr} {items : Array Value} {ep : Nat} {sl : Array (Option Value)} (F : FunD K x qual st f fd (.ref D))
    (lk : K.lookup D = some ⟨oc, od, .seq items ep, sl⟩)
    (h : ∀ (kV doc pm : Value) (an : Option Addr) (cdv ct : Value) (us : List Value), (us ++ ds).length = ps.length → ∃ k, bindArgs (PySem.W.fnOf x qual (defArgs st) (defBody st) (defScope st) (.ref D) kV doc pm an cdv ct) ⟨us, []⟩ = seqItems? (.ref D) >>= k ∧ k (some items) = pure (ps.zip (us ++ ds))) : Binds K fd ps ds := by
  obtain ⟨oc, od, kV, doc, pm, an, cdv, ct, osl, rfl, lf, hcd⟩ := F.ex
  intro s us KX hl
  obtain ⟨k, h1, h2⟩ := h kV doc pm an cdv ct us hl
  exact BindsTo.of_defaults rfl (KX _ _ lk) rfl h1 h2
end

end L2
namespace L2
open PySem PySem.Spec PyProof.Rows PySem.W
end L2


set_option Elab.async false
set_option linter.all false
set_option maxRecDepth 100000
set_option maxHeartbeats 1000000
namespace L2
open PySem PySem.Spec PyProof.Rows PySem.W

def RA (Z H : Hp) (l : Addr) (as : List Addr) (C : Nat) : Prop := H l = some (.lst (as.map V.ref)) ∧ l ∉ as ∧ Z l = none ∧ ∀ a ∈ as, Z a = none ∧ ∃ ns : List Int, H a = some (.lst (ns.map V.int)) ∧ ns.length ≤ C
theorem RA.exc {Z H H' : Hp} {l p : Addr} {as : List Addr} {C : Nat} (R : RA Z H l as C) (e : Exc p H H') (hp : Z p ≠ none) : RA Z H' l as C :=
  ⟨e _ _ (fun z => hp (by rw [← z]; exact R.2.2.1)) R.1, R.2.1, R.2.2.1, fun a ha => ⟨(R.2.2.2 a ha).1, by
    obtain ⟨z, ns, h, hl⟩ := R.2.2.2 a ha
    exact ⟨ns, e _ _ (fun y => hp (by rw [← y]; exact z)) h, hl⟩⟩⟩
theorem RA.same {Z H H' : Hp} {l : Addr} {as : List Addr} {C : Nat} (R : RA Z H l as C) (s : Same H H') : RA Z H' l as C :=
  ⟨s _ _ R.1, R.2.1, R.2.2.1, fun a ha => ⟨(R.2.2.2 a ha).1, by
    obtain ⟨z, ns, h, hl⟩ := R.2.2.2 a ha
    exact ⟨ns, s _ _ h, hl⟩⟩⟩
theorem RA.mono {Z H : Hp} {l : Addr} {as : List Addr} {C D : Nat} (R : RA Z H l as C) (h : C ≤ D) : RA Z H l as D :=
  ⟨R.1, R.2.1, R.2.2.1, fun a ha => ⟨(R.2.2.2 a ha).1, by
    obtain ⟨z, ns, e, hl⟩ := R.2.2.2 a ha
    exact ⟨ns, e, by omega⟩⟩⟩

theorem RA.outer {Z H : Hp} {l : Addr} {as bs : List Addr} {C : Nat} (R : RA Z H l as C) (h : ∀ b ∈ bs, b ∈ as) : RA Z (upd H l (.lst (bs.map V.ref))) l bs C :=
  ⟨upd_same, fun z => R.2.1 (h _ z), R.2.2.1, fun a ha => ⟨(R.2.2.2 a (h a ha)).1, by
    obtain ⟨z, ns, e, hl⟩ := R.2.2.2 a (h a ha)
    exact ⟨ns, by rw [upd_ne (fun y => R.2.1 (by rw [← y]; exact h a ha))]; exact e, hl⟩⟩⟩

theorem RA.more {Z H : Hp} {l q : Addr} {as bs : List Addr} {C : Nat} {ns : List Int} (R : RA Z H l as C) (h : ∀ b ∈ bs, b ∈ as ∨ b = q) (hq : H q = some (.lst (ns.map V.int))) (zq : Z q = none) (hl : ns.length ≤ C) (nq : q ≠ l) : RA Z (upd H l (.lst (bs.map V.ref))) l bs C :=
  ⟨upd_same, fun z => (h _ z).elim R.2.1 (fun y => nq y.symm), R.2.2.1, fun a ha => by
    rcases h a ha with h1 | rfl
    · obtain ⟨z, ns, e, hl⟩ := R.2.2.2 a h1
      exact ⟨z, ns, by rw [upd_ne (fun y => R.2.1 (by rw [← y]; exact h1))]; exact e, hl⟩
    · exact ⟨zq, ns, by rw [upd_ne nq]; exact hq, hl⟩⟩

theorem RA.fresh {Z H : Hp} {l q u : Addr} {as bs : List Addr} {C : Nat} {ns : List Int} (R : RA Z H l as C) (h : ∀ b ∈ bs, b ∈ as ∨ b = q) (hq : H q = some (.lst (ns.map V.int))) (zq : Z q = none) (hl : ns.length ≤ C) (hu : H u = none) (zu : Z u = none) : RA Z (upd H u (.lst (bs.map V.ref))) u bs C := by
  have key : ∀ b ∈ bs, b ≠ u ∧ Z b = none ∧ ∃ ns : List Int, H b = some (.lst (ns.map V.int)) ∧ ns.length ≤ C := fun b hb => by
    rcases h b hb with h1 | rfl
    · obtain ⟨z, ns, e, hl⟩ := R.2.2.2 b h1
      exact ⟨ne_of_none e hu, z, ns, e, hl⟩
    · exact ⟨ne_of_none hq hu, zq, ns, hq, hl⟩
  exact ⟨upd_same, fun z => (key u z).1 rfl, zu, fun a ha => by
    obtain ⟨n, z, ns, e, hl⟩ := key a ha
    exact ⟨z, ns, by rw [upd_ne n]; exact e, hl⟩⟩

theorem RA.at {Z H : Hp} {l : Addr} {as : List Addr} {C i : Nat} (R : RA Z H l as C) (h : i < as.length) : ∃ (a : Addr) (ns : List Int), a ∈ as ∧ as[i]? = some a ∧ atI (as.map V.ref) (i : Int) = some (.ref a) ∧ H a = some (.lst (ns.map V.int)) ∧ ns.length ≤ C ∧ Z a = none ∧ a ≠ l := by
  obtain ⟨z, ns, e, hl⟩ := R.2.2.2 as[i] (List.getElem_mem _)
  refine ⟨as[i], ns, List.getElem_mem _, List.getElem?_eq_getElem h, ?_, e, hl, z, fun y => R.2.1 (by rw [← y]; exact List.getElem_mem _)⟩
  rw [atI_at rfl (by simpa using h)]; simp
theorem RA.from {Z H H' : Hp} {l p : Addr} {as : List Addr} {C : Nat} (R : RA H H' l as C) (e : Exc p Z H) (hp : H p ≠ none) : RA Z H' l as C :=
  ⟨R.1, R.2.1, e.free (fun z => hp (by rw [← z]; exact R.2.2.1)) R.2.2.1, fun a ha => ⟨e.free (fun z => hp (by rw [← z]; exact (R.2.2.2 a ha).1)) (R.2.2.2 a ha).1, (R.2.2.2 a ha).2⟩⟩
theorem RowsN.exc {Z H H' : Hp} {l p : Addr} {rs : List (List Int)} (R : RowsN Z H l rs) (e : Exc p H H') (hp : Z p ≠ none) : RowsN Z H' l rs := by
  obtain ⟨as, h1, h2, h3, h4, h5, h6⟩ := R
  exact ⟨as, e _ _ (fun z => hp (by rw [← z]; exact h5)) h1, h2, h3, fun i i1 i2 => e _ _ (fun z => hp (by rw [← z]; exact h6 _ (List.getElem_mem _))) (h4 i i1 i2), h5, h6⟩
theorem PoolAt.updN {H : Hp} {p q : Addr} {o : HO} (P : PoolAt H p) (h : q ≠ p) : PoolAt (L2.upd H q o) p := by
  obtain ⟨x, y, e, z⟩ := P
  exact ⟨x, y, by rw [upd_ne (fun w => h w.symm)]; exact e, z⟩
theorem IsL.mono {K : Frag} {H H' : Hp} {α : Type} {P P' : V → α → Prop} {v : V} {as : List α} (h : IsL K H P v as) (s : Same H H') (hp : ∀ x y, P x y → P' x y) : IsL K H' P' v as := by
  obtain ⟨a, xs, e, q, l, r⟩ := h
  exact ⟨a, xs, e, s.seq q, l, fun j x y h1 h2 => hp _ _ (r j x y h1 h2)⟩
theorem IsL2.same {K : Frag} {H H' : Hp} {v : V} {rs : List (List Int)} (h : IsL K H (IsL K H IsI) v rs) (s : Same H H') : IsL K H' (IsL K H' IsI) v rs := IsL.mono h s fun x y q => IsL.mono q s fun _ _ z => z
end L2


set_option Elab.async false
set_option linter.all false
set_option maxRecDepth 100000
set_option maxHeartbeats 1000000
namespace L2
open PySem PySem.Spec PyProof.Rows PySem.W

section
variable {X : Cx}
end

structure KindsOf (K : Frag) (mg : Str → Option Value) (C : Addr) (b : Nat → Bool) : Prop where
  z : ExK K C
  k0 : kitOne K (.ref C) (.ref (clsAt mg "Unlike")) = some (b 0)
  k1 : kitOne K (.ref C) (.ref (clsAt mg "Empty")) = some (b 1)
  k2 : kitOne K (.ref C) (.ref (clsAt mg "TooMany")) = some (b 2)
  k3 : kitOne K (.ref C) (.ref (clsAt mg "NoTree")) = some (b 3)
  k4 : kitOne K (.ref C) (.ref (clsAt mg "NoTelling")) = some (b 4)
  k5 : kitOne K (.ref C) (.ref (clsAt mg "NoPlace")) = some (b 5)
  k6 : kitOne K (.ref C) (.ref (clsAt mg "NoNumber")) = some (b 6)
  k7 : kitOne K (.ref C) (.ref (clsAt mg "NoPast")) = some (b 7)
  k8 : kitOne K (.ref C) (.ref (clsAt mg "NoText")) = some (b 8)
  k9 : kitOne K (.ref C) (.ref (clsAt mg "NoLine")) = some (b 9)
  kd : kitOne K (.ref C) (.ref (clsAt mg "DipError")) = some true
  kv : kitOne K (.ref C) (.type "ValueError") = some true
end L2


set_option Elab.async false
set_option linter.all false
set_option maxRecDepth 100000
set_option maxHeartbeats 1000000
namespace L2
open PySem PySem.Spec PyProof.Rows PySem.W

def TupsAt (H : Hp) (l : Addr) (rs : List (List Int)) : Prop := ∃ as : List Addr, H l = some (.lst (as.map V.ref)) ∧ as.length = rs.length ∧ ∀ i (h1 : i < as.length) (h2 : i < rs.length), H as[i] = some (.tup (rs[i].map V.int))
theorem TupsAt.same {H H' : Hp} {l : Addr} {rs : List (List Int)} (R : TupsAt H l rs) (s : Same H H') : TupsAt H' l rs := by
  obtain ⟨as, h1, h2, h3⟩ := R
  exact ⟨as, s _ _ h1, h2, fun i i1 i2 => s _ _ (h3 i i1 i2)⟩
theorem TupsAt.nil {H : Hp} {l : Addr} (h : H l = some (.lst [])) : TupsAt H l [] := ⟨[], h, rfl, fun i i1 => absurd i1 (by simp)⟩
theorem TupsAt.push {H : Hp} {l t : Addr} {rs : List (List Int)} {r : List Int} {as : List Addr} (e : H l = some (.lst (as.map V.ref))) (hl : as.length = rs.length) (h : ∀ i (h1 : i < as.length) (h2 : i < rs.length), H as[i] = some (.tup (rs[i].map V.int))) (ht : H t = some (.tup (r.map V.int))) :
    TupsAt (upd H l (.lst (as.map V.ref ++ [V.ref t]))) l (rs ++ [r]) := by
  refine ⟨as ++ [t], by rw [upd_same]; simp, by simp [hl], fun i i1 i2 => ?_⟩
  have ne : ∀ (a : Addr) (xs : List V), H a = some (.tup xs) → a ≠ l := fun a xs h1 z => by rw [z, e] at h1; cases h1
  by_cases z : i < as.length
  · have h3 := h i z (by omega)
    rw [List.getElem_append_left z, List.getElem_append_left (show i < rs.length by omega), upd_ne (ne _ _ h3)]
    exact h3
  · have e1 : i = as.length := by simp at i1; omega
    subst e1
    rw [upd_ne (by simpa using ne _ _ ht)]
    simp [hl, ht]
theorem TupsAt.isL {K : Frag} {H : Hp} {l : Addr} {rs : List (List Int)} (R : TupsAt H l rs) : IsL K H (IsT K H IsI) (.ref l) rs := by
  obtain ⟨as, h1, h2, h3⟩ := R
  refine ⟨l, _, rfl, SqL.of h1, by simp [h2], fun j x y e1 e2 => ?_⟩
  have j2 := (List.getElem?_eq_some_iff.mp e2).1
  have j1 : j < as.length := by omega
  rw [List.getElem?_map, List.getElem?_eq_getElem j1] at e1
  rw [List.getElem?_eq_getElem j2] at e2
  cases e1
  cases e2
  exact isT_ints (SqT.of (h3 j j1 j2))
end L2


set_option Elab.async false
set_option linter.all false
set_option maxRecDepth 100000
set_option maxHeartbeats 1000000
namespace L2
open PySem PySem.Spec PyProof.Rows PySem.W
def Once (k : Nat) (ss ls : List Int) : Prop := ss = ((List.range k).map fun (j : Nat) => (j : Int)).filter (fun j => decide (j ∉ ls)) ∧ ls = ((List.range k).map fun (j : Nat) => (j : Int)).filter (fun j => decide (j ∈ ls))
instance (k : Nat) (ss ls : List Int) : Decidable (Once k ss ls) := inferInstanceAs (Decidable (_ ∧ _))
theorem TupsAt.walk {K : Frag} {H1 : Hp} {d : Addr} {rs : List (List Int)} (R : TupsAt H1 d rs) : (∀ i H, Same H1 H → i < rs.length → (Itl K d).go i H) ∧ (∀ H, Same H1 H → (Itl K d).stop rs.length H) ∧
    ∀ i x H H' (h : i < rs.length), Same H1 H → (Itl K d).yld i H x H' → H' = H ∧ ∃ a, x = .ref a ∧ H a = some (.tup (rs[i].map V.int)) := by
  obtain ⟨as, e, hl, hh⟩ := R
  refine ⟨fun i H s hi => ⟨_, V.ref (as[i]'(by omega)), SqL.of (s _ _ e), by simp [show i < as.length by omega]⟩, fun H s => ⟨_, SqL.of (s _ _ e), by simp [hl]⟩, fun i x H H' hi s y => ?_⟩
  obtain ⟨e1, y⟩ := y
  have h1 := y _ (SqL.of (s _ _ e))
  rw [List.getElem?_map, List.getElem?_eq_getElem (show i < as.length by omega)] at h1
  cases h1
  exact ⟨e1, _, rfl, s _ _ (hh i (by omega) hi)⟩
theorem TupsAt.sq {K : Frag} {H : Hp} {l : Addr} {rs : List (List Int)} (R : TupsAt H l rs) : ∃ xs, SqL K H l xs := by
  obtain ⟨as, e, _⟩ := R
  exact ⟨_, SqL.of e⟩
end L2


set_option Elab.async false
set_option linter.all false
set_option maxRecDepth 100000
set_option maxHeartbeats 1000000
namespace L2
open PySem PySem.Spec PyProof.Rows PySem.W

theorem KinD.trans {f g h : Nat → Int} {n : Nat} (a : KinD f g n) (b : KinD g h n) : KinD f h n := fun i hi => (a i hi).trans (b i hi)
section
variable {X : Cx}
end
end L2


set_option Elab.async false
set_option linter.all false
set_option maxRecDepth 100000
set_option maxHeartbeats 1000000
namespace L2
open PySem PySem.Spec PyProof.Rows PySem.W

section
variable {N : Nat} {k : Nat → Int} {cmp : Nat → Nat → (Bool → Shared → Prop) → Shared → Prop} {s : Shared} {p : Array Nat}
def kk (k : Nat → Int) (p : Array Nat) (i : Nat) : Int := k (p.getD i 0)
def SoT (k : Nat → Int) (p : Array Nat) (m : Nat) : Prop := ∀ i j, i ≤ j → j < m → kk k p i ≤ kk k p j
def DeT (k : Nat → Int) (p : Array Nat) (m : Nat) : Prop := ∀ i j, i ≤ j → j < m → kk k p j ≤ kk k p i
def Bd (N : Nat) (p : Array Nat) : Prop := p.Perm (List.range N).toArray
theorem kk_congr {p q : Array Nat} {i j : Nat} (h : p[i]? = q[j]?) : kk k p i = kk k q j := by
  unfold kk; rw [Array.getD_eq_getD_getElem?, Array.getD_eq_getD_getElem?, h]
theorem Bd.size (h : Bd N p) : p.size = N := by
  have := (Array.perm_iff_toList_perm.mp h).length_eq
  simpa using this
theorem Bd.lt (h : Bd N p) (hN : 0 < N) (i : Nat) : p.getD i 0 < N := by
  rw [Array.getD_eq_getD_getElem?]
  by_cases hi : i < p.size
  · rw [getElem?_pos p i hi]
    have := (Array.Perm.mem_iff h (a := p[i])).mp (Array.getElem_mem hi)
    simpa using this
  · rw [getElem?_neg p i hi]; exact hN
theorem Bd.rev (h : Bd N p) (i j : Nat) : Bd N (kas_rev p i j) := (mirror_perm p i j _).trans h
theorem Bd.bub (h : Bd N p) (i j : Nat) : Bd N (bubble p i j) := (bubble_perm p i j).trans h
theorem kk_rev {i j : Nat} (hj : j ≤ p.size) (x : Nat) : kk k (kas_rev p i j) x = if i ≤ x ∧ x < j then kk k p (i + j - 1 - x) else kk k p x := by
  have e := getElem?_mirror_all (xs := p) (i := i) hj x
  by_cases h : i ≤ x ∧ x < j
  · rw [if_pos h] at e ⊢; exact kk_congr e
  · rw [if_neg h] at e ⊢; exact kk_congr e
theorem kk_rev_eq {i j : Nat} (hj : j ≤ p.size) (heq : ∀ x, i ≤ x → x < j → kk k p x = kk k p (j - 1)) (x : Nat) : kk k (kas_rev p i j) x = kk k p x := by
  rw [kk_rev hj]
  split
  · rw [heq _ (by omega) (by omega), heq x (by omega) (by omega)]
  · rfl
theorem kk_bub {src d : Nat} (hs : src < p.size) (hd : d ≤ src) (x : Nat) : kk k (bubble p src d) x = if x = src - d then kk k p src else if src - d < x ∧ x ≤ src then kk k p (x - 1) else kk k p x := by
  have e := getElem?_bubble hs d hd x
  by_cases h1 : x = src - d
  · rw [if_pos h1] at e ⊢; exact kk_congr e
  · rw [if_neg h1] at e ⊢
    by_cases h2 : src - d < x ∧ x ≤ src
    · rw [if_pos h2] at e ⊢; exact kk_congr e
    · rw [if_neg h2] at e ⊢; exact kk_congr e
def AskOk (N : Nat) (k : Nat → Int) (cmp : Nat → Nat → (Bool → Shared → Prop) → Shared → Prop) (s : Shared) : Prop := ∀ i j C, i < N → j < N → C (decide (k i < k j)) s → cmp i j C s
theorem SoT.next {m : Nat} (h : SoT k p m) (h1 : 1 ≤ m) (h2 : kk k p (m - 1) ≤ kk k p m) : SoT k p (m + 1) := by
  intro i j hij hj
  by_cases e : j = m
  · subst e
    by_cases e2 : i = j
    · rw [e2]; exact Int.le_refl _
    · exact Int.le_trans (h i (j - 1) (by omega) (by omega)) h2
  · exact h i j hij (by omega)
theorem DeT.next {m : Nat} (h : DeT k p m) (h1 : 1 ≤ m) (h2 : kk k p m ≤ kk k p (m - 1)) : DeT k p (m + 1) := by
  intro i j hij hj
  by_cases e : j = m
  · subst e
    by_cases e2 : i = j
    · rw [e2]; exact Int.le_refl _
    · exact Int.le_trans h2 (h i (j - 1) (by omega) (by omega))
  · exact h i j hij (by omega)
theorem asc_wp (hc : AskOk N k cmp s) (hN : 0 < N) (hB : Bd N p) {Q : Nat → Shared → Prop} : ∀ f n, 1 ≤ n → SoT k p n → (∀ m, n ≤ m → m ≤ n + f → SoT k p m → (m < n + f → kk k p m < kk k p (m - 1)) → Q m s) → (kas_asc p f n).kasWp cmp Q s
  | 0, n, h1, hS, h => h n (Nat.le_refl _) (by omega) hS (fun z => by omega)
  | f + 1, n, h1, hS, h => by
    refine hc _ _ _ (hB.lt hN n) (hB.lt hN (n - 1)) ?_
    by_cases z : kk k p n < kk k p (n - 1)
    · have : decide (k (p.getD n 0) < k (p.getD (n - 1) 0)) = true := decide_eq_true z
      rw [this]
      exact h n (Nat.le_refl _) (by omega) hS fun _ => z
    · have : decide (k (p.getD n 0) < k (p.getD (n - 1) 0)) = false := decide_eq_false z
      rw [this]
      exact asc_wp hc hN hB f (n + 1) (by omega) (hS.next h1 (by omega)) fun m m1 m2 hm hl => h m (by omega) (by omega) hm fun y => hl (by omega)
theorem desc_wp (hc : AskOk N k cmp s) (hN : 0 < N) {Q : Array Nat × Nat × Nat → Shared → Prop} : ∀ f (p : Array Nat) n q, Bd N p → 1 ≤ n → n + f ≤ N → q < n → DeT k p n → (∀ x, n - (q + 1) ≤ x → x < n → kk k p x = kk k p (n - 1)) →
    (∀ p' n' q', Bd N p' → n ≤ n' → n' ≤ n + f → q' < n' → DeT k p' n' → (∀ x, n' - (q' + 1) ≤ x → x < n' → kk k p' x = kk k p' (n' - 1)) → Q (p', n', q') s) → (kas_desc f p n q).kasWp cmp Q s
  | 0, p, n, q, hB, h1, hn, hq, hD, he, h => h p n q hB (Nat.le_refl _) (by omega) hq hD he
  | f + 1, p, n, q, hB, h1, hn, hq, hD, he, h => by
    refine hc _ _ _ (hB.lt hN n) (hB.lt hN (n - 1)) ?_
    have hz := hB.size
    by_cases z : kk k p n < kk k p (n - 1)
    · have : decide (k (p.getD n 0) < k (p.getD (n - 1) 0)) = true := decide_eq_true z
      rw [this]
      show KasT.kasWp cmp (if q > 0 then kas_desc f (kas_rev p (n - (q + 1)) n) (n + 1) 0 else kas_desc f p (n + 1) 0) Q s
      by_cases y : q > 0
      · rw [if_pos y]
        have ke := kk_rev_eq (k := k) (p := p) (i := n - (q + 1)) (j := n) (by omega) he
        refine desc_wp hc hN f _ (n + 1) 0 (hB.rev _ _) (by omega) (by omega) (by omega) ?_ (fun x x1 x2 => by rw [show x = n + 1 - 1 by omega]) fun p' n' q' b1 b2 b3 => h p' n' q' b1 (by omega) (by omega)
        refine DeT.next (fun i j i1 j1 => by rw [ke, ke]; exact hD i j i1 j1) h1 (by rw [ke, ke]; omega)
      · rw [if_neg y]
        exact desc_wp hc hN f p (n + 1) 0 hB (by omega) (by omega) (by omega) (hD.next h1 (by omega)) (fun x x1 x2 => by rw [show x = n + 1 - 1 by omega]) fun p' n' q' b1 b2 b3 => h p' n' q' b1 (by omega) (by omega)
    · have : decide (k (p.getD n 0) < k (p.getD (n - 1) 0)) = false := decide_eq_false z
      rw [this]
      refine hc _ _ _ (hB.lt hN (n - 1)) (hB.lt hN n) ?_
      by_cases y : kk k p (n - 1) < kk k p n
      · have : decide (k (p.getD (n - 1) 0) < k (p.getD n 0)) = true := decide_eq_true y
        rw [this]
        exact h p n q hB (Nat.le_refl _) (by omega) hq hD he
      · have : decide (k (p.getD (n - 1) 0) < k (p.getD n 0)) = false := decide_eq_false y
        rw [this]
        have e : kk k p n = kk k p (n - 1) := by omega
        refine desc_wp hc hN f p (n + 1) (q + 1) hB (by omega) (by omega) (by omega) (hD.next h1 (by omega)) (fun x x1 x2 => ?_) fun p' n' q' b1 b2 b3 => h p' n' q' b1 (by omega) (by omega)
        rw [Nat.add_sub_cancel]
        by_cases w : x = n
        · rw [w]
        · rw [e]; exact he x (by omega) (by omega)
theorem tail3_wp (hc : AskOk N k cmp s) (hN : 0 < N) {Q : Nat × Array Nat → Shared → Prop} {n nrem : Nat} (hB : Bd N p) (h1 : 1 ≤ n) (hn : n ≤ nrem) (hr : nrem ≤ N) (hD : DeT k p n)
    (h : ∀ m p', Bd N p' → n ≤ m → m ≤ nrem → SoT k p' m → Q (m, p') s) : (kas_tail3 n nrem p).kasWp cmp Q s := by
  unfold kas_tail3
  rw [KasT.kasWp_bind]
  have hz := hB.size
  refine asc_wp hc hN (hB.rev 0 n) _ n h1 (fun i j hij hj => ?_) fun m m1 m2 hS _ => h m _ (hB.rev 0 n) m1 (by omega) hS
  rw [kk_rev (by omega), kk_rev (by omega), if_pos (by omega), if_pos (by omega)]
  exact hD _ _ (by omega) (by omega)
theorem descPart_wp (hc : AskOk N k cmp s) (hN : 0 < N) {Q : Nat × Array Nat → Shared → Prop} {n nrem : Nat} (hB : Bd N p) (hn : n + 1 ≤ nrem) (hr : nrem ≤ N) (hD : DeT k p (n + 1))
    (h : ∀ m p', Bd N p' → 1 ≤ m → m ≤ nrem → SoT k p' m → Q (m, p') s) : (kas_descPart n nrem p).kasWp cmp Q s := by
  unfold kas_descPart
  rw [KasT.kasWp_bind]
  refine desc_wp hc hN _ p (n + 1) 0 hB (by omega) (by omega) (by omega) hD (fun x x1 x2 => by rw [show x = n + 1 - 1 by omega]) fun p' n' q' b1 b2 b3 b4 hD' he => ?_
  show KasT.kasWp cmp (if q' > 0 then kas_tail3 n' nrem (kas_rev p' (n' - (q' + 1)) n') else kas_tail3 n' nrem p') Q s
  have hz := b1.size
  by_cases y : q' > 0
  · rw [if_pos y]
    have ke := kk_rev_eq (k := k) (p := p') (i := n' - (q' + 1)) (j := n') (by omega) he
    exact tail3_wp hc hN (b1.rev _ _) (by omega) (by omega) hr (fun i j i1 j1 => by rw [ke, ke]; exact hD' i j i1 j1) fun m p2 c1 c2 c3 => h m p2 c1 (by omega) c3
  · rw [if_neg y]
    exact tail3_wp hc hN b1 (by omega) (by omega) hr hD' fun m p2 c1 c2 c3 => h m p2 c1 (by omega) c3
theorem count_wp (hc : AskOk N k cmp s) (hN : 0 < N) {Q : Nat × Array Nat → Shared → Prop} {nrem : Nat} (hB : Bd N p) (h0 : 1 ≤ nrem) (hr : nrem ≤ N)
    (h : ∀ m p', Bd N p' → 1 ≤ m → m ≤ nrem → SoT k p' m → Q (m, p') s) : (kas_count nrem p).kasWp cmp Q s := by
  unfold kas_count
  rw [KasT.kasWp_bind]
  have hz := hB.size
  refine asc_wp hc hN hB _ 1 (Nat.le_refl _) (fun i j hij hj => by rw [show i = j by omega]; exact Int.le_refl _) fun n n1 n2 hS hl => ?_
  by_cases e : (n == nrem) = true
  · rw [if_pos e]
    exact h n p hB n1 (by omega) hS
  · rw [if_neg e]
    have ne : n ≠ nrem := fun z => e (by rw [z]; exact beq_self_eq_true _)
    have hlt := hl (by omega)
    by_cases y : n > 1
    · rw [if_pos y]
      refine hc _ _ _ (hB.lt hN 0) (hB.lt hN (n - 1)) ?_
      by_cases z : kk k p 0 < kk k p (n - 1)
      · have : decide (k (p.getD 0 0) < k (p.getD (n - 1) 0)) = true := decide_eq_true z
        rw [this]
        exact h n p hB n1 (by omega) hS
      · have : decide (k (p.getD 0 0) < k (p.getD (n - 1) 0)) = false := decide_eq_false z
        rw [this]
        have alle : ∀ x, 0 ≤ x → x < n → kk k p x = kk k p (n - 1) := fun x _ hx => by
          have a := hS 0 x (by omega) hx
          have b := hS x (n - 1) (by omega) (by omega)
          omega
        have ke := kk_rev_eq (k := k) (p := p) (i := 0) (j := n) (by omega) alle
        refine descPart_wp hc hN (hB.rev 0 n) (by omega) hr (DeT.next (fun i j i1 j1 => ?_) (by omega) (by rw [ke, ke]; omega)) h
        rw [ke, ke, alle i (by omega) (by omega), alle j (by omega) (by omega)]
        exact Int.le_refl _
    · rw [if_neg y]
      have : n = 1 := by omega
      subst this
      exact descPart_wp hc hN hB (by omega) hr (DeT.next (fun i j i1 j1 => by rw [show i = j by omega]; exact Int.le_refl _) (Nat.le_refl _) (by omega)) h
theorem place_wp (hc : AskOk N k cmp s) (hN : 0 < N) (hB : Bd N p) {x : Nat} {Q : Nat → Shared → Prop} (hS : SoT k p x) : ∀ f l r, l ≤ r → r ≤ x → r - l ≤ f → (∀ i, i < l → kk k p i ≤ kk k p x) → (∀ i, r ≤ i → i < x → kk k p x < kk k p i) →
    (∀ l, l ≤ x → (∀ i, i < l → kk k p i ≤ kk k p x) → (∀ i, l ≤ i → i < x → kk k p x < kk k p i) → Q l s) → (kas_place p x f l r).kasWp cmp Q s
  | 0, l, r, h1, h2, h3, hlo, hhi, h => h l (by omega) hlo (fun i i1 i2 => hhi i (by omega) i2)
  | f + 1, l, r, h1, h2, h3, hlo, hhi, h => by
    show KasT.kasWp cmp (if l ≥ r then .ret l else .ask (p.getD x 0) (p.getD ((l + r) / 2) 0) fun c => if c = true then kas_place p x f l ((l + r) / 2) else kas_place p x f ((l + r) / 2 + 1) r) Q s
    by_cases y : l ≥ r
    · rw [if_pos y]
      exact h l (by omega) hlo (fun i i1 i2 => hhi i (by omega) i2)
    · rw [if_neg y]
      refine hc _ _ _ (hB.lt hN x) (hB.lt hN _) ?_
      by_cases z : kk k p x < kk k p ((l + r) / 2)
      · have : decide (k (p.getD x 0) < k (p.getD ((l + r) / 2) 0)) = true := decide_eq_true z
        rw [this]
        exact place_wp hc hN hB hS f l ((l + r) / 2) (by omega) (by omega) (by omega) hlo (fun i i1 i2 => Int.lt_of_lt_of_le z (hS _ _ i1 i2)) h
      · have : decide (k (p.getD x 0) < k (p.getD ((l + r) / 2) 0)) = false := decide_eq_false z
        rw [this]
        exact place_wp hc hN hB hS f ((l + r) / 2 + 1) r (by omega) (by omega) (by omega) (fun i i1 => Int.le_trans (hS i ((l + r) / 2) (by omega) (by omega)) (Int.not_lt.mp z)) hhi h
theorem bin_wp (hc : AskOk N k cmp s) (hN : 0 < N) {Q : Array Nat → Shared → Prop} : ∀ f (p : Array Nat) x, Bd N p → x + f ≤ N → SoT k p x → (∀ p', Bd N p' → SoT k p' (x + f) → Q p' s) → (kas_bin f p x).kasWp cmp Q s
  | 0, p, x, hB, hx, hS, h => h p hB hS
  | f + 1, p, x, hB, hx, hS, h => by
    show KasT.kasWp cmp ((kas_place p x x 0 x).bind fun l => kas_bin f (bubble p x (x - l)) (x + 1)) Q s
    rw [KasT.kasWp_bind]
    have hz := hB.size
    refine place_wp hc hN hB hS x 0 x (by omega) (Nat.le_refl _) (by omega) (fun i hi => by omega) (fun i i1 i2 => by omega) fun l hl hlo hhi => ?_
    refine bin_wp hc hN f _ (x + 1) (hB.bub _ _) (by omega) (fun i j hij hj => ?_) fun p' b1 b2 => h p' b1 (by rw [show x + (f + 1) = x + 1 + f by omega]; exact b2)
    rw [kk_bub (by omega) (by omega), kk_bub (by omega) (by omega), show x - (x - l) = l by omega]
    repeat' split
    all_goals first
      | (exfalso; omega)
      | exact Int.le_refl _
      | exact hlo _ (by omega)
      | exact Int.le_of_lt (hhi _ (by omega) (by omega))
      | exact hS _ _ (by omega) (by omega)
theorem sort_wp (hN : 0 < N) (hc : AskOk N k cmp s) {Q : Array Nat → Shared → Prop} (h : ∀ p, Bd N p → SoT k p N → Q p s) : (kas_sort N).kasWp cmp Q s := by
  unfold kas_sort
  rw [KasT.kasWp_bind]
  refine count_wp hc hN (show Bd N (List.toArray (List.range N)) from Array.Perm.refl _) (by omega) (Nat.le_refl _) fun m p' b1 b2 b3 b4 => ?_
  show KasT.kasWp cmp (if m < N then kas_bin (N - max m 1) p' (max m 1) else .ret p') Q s
  by_cases y : m < N
  · rw [if_pos y]
    have e : max m 1 = m := by omega
    rw [e]
    exact bin_wp hc hN _ p' m b1 (by omega) b4 fun p2 c1 c2 => h p2 c1 (by rw [show m + (N - m) = N by omega] at c2; exact c2)
  · rw [if_neg y]
    have : m = N := by omega
    subst this
    exact h p' b1 b4
end
end L2


set_option Elab.async false
set_option linter.all false
set_option maxRecDepth 100000
set_option maxHeartbeats 1000000
namespace L2
open PySem PySem.Spec PyProof.Rows PySem.W

section
variable {prog : Program} {w : World} {E : Value → Shared → Prop} {s : Shared}
def outBy (vs : List Value) (p : Array Nat) : Array Value := List.toArray (p.toList.map fun i => vs.getD i Value.none)
theorem list_sortX {A : Around} {κ : SortKind} {key : Nat → Int} {a : Addr} {vs : List Value} {n : Nat} {P : PySem.Fin → Shared → Prop} (ho : s.heap.get? a = some (seqObj "list" vs.toArray n)) (h64 : vs.length < 64)
    (hk : ∀ s' : Shared, (∀ b o, b ≠ a → s.heap.get? b = some o → s'.heap.get? b = some o) → 2 ≤ vs.length → (∀ Q : SortKind → Shared → Prop, Q κ s' → wpAny (model prog w) A (keyKind' vs.toArray) Q E s') ∧ AskOk vs.length key (kas_ask prog w A κ vs) s')
    (fin : ∀ p : Array Nat, Bd vs.length p → SoT key p vs.length → P (.done (.ret .none)) { s with heap := sortedHeap s.heap a vs (outBy vs p) }) : wpAny (model prog w) A (Builtin.«list.sort» ⟨[.ref a], []⟩) P E s := by
  have lt := Heap.lt_size ho
  obtain ⟨c1, oc1⟩ : ∃ c1, (s.heap.update a (Obj.mapSeq fun _ => #[])).get? a = some (seqObj "list" #[] c1) := ⟨_, get?_update_seq ho fun _ => #[]⟩
  have oc6 : (((s.heap.update a (Obj.mapSeq fun _ => #[])).push (seqObj "tuple" vs.toArray 0)).push (seqObj "list" #[] 0)).get? a = some (seqObj "list" #[] c1) := Heap.get?_push_of_some _ (Heap.get?_push_of_some _ oc1)
  have kp : ∀ b o, b ≠ a → s.heap.get? b = some o → (((s.heap.update a (Obj.mapSeq fun _ => #[])).push (seqObj "tuple" vs.toArray 0)).push (seqObj "list" #[] 0)).get? b = some o := fun b o nb e =>
    Heap.get?_push_of_some _ (Heap.get?_push_of_some _ (by rw [Heap.get?_update_ne _ _ _ _ nb]; exact e))
  have z1 : vs.toArray.size = vs.length := List.size_toArray ..
  have za : ∀ p : Array Nat, Bd vs.length p → (outBy vs p).size ≤ sizeLine := fun p hp => by
    have := hp.size
    unfold outBy
    rw [List.size_toArray, List.length_map, Array.length_toList, this, sizeLine_eq]; omega
  rw [list_sort_plain]
  have hob := ho
  refine wpAny_bind (listItems_at hob rfl (wpAny_bind ?_))
  refine listUpdate_at hob rfl (wpAny_bind (seqEpoch_at oc1 rfl (wpAny_bind ?_))) (by rw [z1, sizeLine_eq]; omega) (Nat.zero_le _)
  refine wpAny_newTuple (wpAny_bind ?_) (Nat.le_trans (show vs.length ≤ 64 by omega) (by decide))
  refine wpAny_newList (wpAny_holding ?_) (Nat.zero_le _)
  show wpAny (model prog w) A _ P E { s with heap := (((s.heap.update a (Obj.mapSeq fun _ => #[])).push (seqObj "tuple" vs.toArray 0)).push (seqObj "list" #[] 0)) }
  dsimp only
  by_cases h2 : vs.toArray.size < 2
  · rw [if_pos h2, if_pos h2]
    refine wpAny_bind (wpAny_pure ?_)
    rw [StateT.run_pure]
    refine wpAny_bind (wpAny_pure ?_)
    have hB : Bd vs.length (List.range vs.length).toArray := Array.Perm.refl _
    have e := kas_range (vs.toArray.zip vs.toArray)
    rw [show (vs.toArray.zip vs.toArray).size = vs.length by simp] at e
    have eo : (arrOf (SortSt.mk' general' (vs.toArray.zip vs.toArray) #[] 7 none)).map (·.2) = outBy vs (List.range vs.length).toArray := kat_snds (ks := vs) (vs := vs) rfl e.symm
    dsimp only
    rw [eo]
    refine wpAny_bind (seqEpoch_at oc6 rfl (wpAny_bind (listUpdate_at oc6 rfl ?_ (Nat.zero_le _) (Nat.le_succ_of_le (za _ hB)))))
    simp only [bne_self_eq_false, Bool.false_eq_true, if_false]
    exact wpAny_pure (fin _ hB fun i j h1 hj => by rw [show i = j by omega]; exact Int.le_refl _)
  · rw [if_neg h2, if_neg h2]
    have h2' : 2 ≤ vs.length := by omega
    obtain ⟨hk1, hk2⟩ := hk { s with heap := (((s.heap.update a (Obj.mapSeq fun _ => #[])).push (seqObj "tuple" vs.toArray 0)).push (seqObj "list" #[] 0)) } kp h2'
    refine wpAny_bind (hk1 _ (wpAny_bind (wpAny_mono (kat_run (ks := vs) (vs := vs) (Q := fun st s' => ∃ p : Array Nat, Bd vs.length p ∧ SoT key p vs.length ∧ arrOf st = p.map (kas_item (vs.toArray.zip vs.toArray)) ∧ failedOf st = none ∧ s' = { s with heap := (((s.heap.update a (Obj.mapSeq fun _ => #[])).push (seqObj "tuple" vs.toArray 0)).push (seqObj "list" #[] 0)) })
      (G := fun p s' => Bd vs.length p ∧ SoT key p vs.length ∧ s' = { s with heap := (((s.heap.update a (Obj.mapSeq fun _ => #[])).push (seqObj "tuple" vs.toArray 0)).push (seqObj "list" #[] 0)) }) rfl h2' h64 (fun p st s' _ a2 a3 a4 => ⟨p, a4.1, a4.2.1, a2, a3, a4.2.2⟩) (sort_wp (by omega) hk2 fun p b1 b2 => ⟨b1, b2, rfl⟩)) ?_ fun _ _ z => z)))
    rintro ⟨⟨⟩, st⟩ s' ⟨p, b1, b2, har, hf, rfl⟩
    have eo : (arrOf st).map (·.2) = outBy vs p := kat_snds (ks := vs) (vs := vs) rfl har
    dsimp only
    rw [eo]
    refine wpAny_bind (seqEpoch_at oc6 rfl (wpAny_bind (listUpdate_at oc6 rfl ?_ (Nat.zero_le _) (Nat.le_succ_of_le (za _ b1)))))
    rw [hf]
    simp only [bne_self_eq_false, Bool.false_eq_true, if_false]
    exact wpAny_pure (fin p b1 b2)
theorem sortedX {A : Around} {κ : SortKind} {key : Nat → Int} {l : Addr} {vs : List Value} {Q : Value → Shared → Prop} (hl : s.heap.IsList l vs.toArray) (h64 : vs.length < 64)
    (hk : ∀ (A' : Around) (E' : Value → Shared → Prop) (s' : Shared), (∀ b o, s.heap.get? b = some o → s'.heap.get? b = some o) → 2 ≤ vs.length → (∀ Q : SortKind → Shared → Prop, Q κ s' → wpAny (model prog w) A' (keyKind' vs.toArray) Q E' s') ∧ AskOk vs.length key (kas_ask prog w A' κ vs) s')
    (fin : ∀ p : Array Nat, Bd vs.length p → SoT key p vs.length → Q (.ref (s.heap.objs.size + 1)) { s with heap := sortedAll s.heap vs (outBy vs p) }) : wpAny (model prog w) A (call (.builtin "sorted") [.ref l]) Q E s := by
  refine Calls.call_function_entry kind_sorted plain_sorted entry_sorted (args_sorted1 _) ?_
  unfold Builtin.«sorted»
  refine wpAny_bind (m := checkCount "sorted" 1 1 _) (wpAny_pure (wpAny_bind (collect_list hl (wpAny_bind (wpAny_newList ?_ (by rw [sizeLine_eq]; omega))) (by rw [sizeLine_eq]; omega))))
  have z5 : ((s.heap.push (seqObj "list" #[] 0)).update s.heap.objs.size (Obj.mapSeq (· ++ vs.toArray))).objs.size = s.heap.objs.size + 1 := (Heap.size_update ..).trans (size_push' ..)
  have o5 : (((s.heap.push (seqObj "list" #[] 0)).update s.heap.objs.size (Obj.mapSeq (· ++ vs.toArray))).push (seqObj "list" vs.toArray 0)).get? (s.heap.objs.size + 1) = some (seqObj "list" vs.toArray 0) := z5 ▸ Heap.get?_push_size _ rfl
  have kp : ∀ b o, s.heap.get? b = some o → (((s.heap.push (seqObj "list" #[] 0)).update s.heap.objs.size (Obj.mapSeq (· ++ vs.toArray))).push (seqObj "list" vs.toArray 0)).get? b = some o := fun b o e => by
    have hlt := Heap.lt_size e
    refine Heap.get?_push_of_some _ ?_
    rw [Heap.get?_update_ne _ _ _ _ (Nat.ne_of_lt hlt)]
    exact Heap.get?_push_of_some _ e
  show wpAny _ _ _ _ _ { s with heap := (((s.heap.push (seqObj "list" #[] 0)).update s.heap.objs.size (Obj.mapSeq (· ++ vs.toArray))).push (seqObj "list" vs.toArray 0)) }
  rw [z5]
  refine wpAny_bind (wpAny_holding (wpAny_call_entry slot_list_sort ⟨_, o5, rfl⟩ entry_list_sort (list_sortX (κ := κ) (key := key) o5 h64 (fun s' k6 h2 => hk _ _ s' (fun b o e => k6 b o (Nat.ne_of_lt (Nat.lt_succ_of_lt (Heap.lt_size e))) (kp b o e)) h2) fun p b1 b2 => ⟨_, rfl, ?_⟩) (args_list_sort _)))
  exact wpAny_pure ⟨_, rfl, fin p b1 b2⟩

def Pr (h : Heap) (v : Value) (x y : Int) : Prop := ∃ a o n t u, v = .ref a ∧ h.get? a = some o ∧ o.cls = .type "tuple" ∧ o.data = .seq #[.int x t, .int y u] n
theorem Pr.keep {h h' : Heap} {v : Value} {x y : Int} (p : Pr h v x y) (k : ∀ b o, h.get? b = some o → h'.get? b = some o) : Pr h' v x y := by
  obtain ⟨a, o, n, t, u, e, g, r⟩ := p
  exact ⟨a, o, n, t, u, e, k _ _ g, r⟩
theorem tups_of {h : Heap} : ∀ {vs : List Value}, (∀ v ∈ vs, ∃ x y, Pr h v x y) → ∃ fs, KatTups h vs fs ∧ fs.length = vs.length ∧ ∀ f ∈ fs, ∃ x t, f = Value.int x t
  | [], _ => ⟨[], trivial, rfl, fun f hf => by cases hf⟩
  | v :: vs, hv => by
    obtain ⟨fs, h1, h2, h3⟩ := tups_of (fun u hu => hv u (List.mem_cons_of_mem _ hu))
    obtain ⟨x, y, a, o, n, t, u, rfl, e, c, d⟩ := hv v List.mem_cons_self
    refine ⟨.int x t :: fs, KatTups.cons e c d rfl h1, by simp [h2], fun f hf => ?_⟩
    rcases List.mem_cons.mp hf with rfl | hf
    · exact ⟨x, t, rfl⟩
    · exact h3 f hf
theorem pairs_kind {A : Around} {vs : List Value} {Q : SortKind → Shared → Prop} (h2 : 2 ≤ vs.length) (hv : ∀ v ∈ vs, ∃ x y, Pr s.heap v x y) (h : Q (tuples' true) s) : wpAny (model prog w) A (keyKind' vs.toArray) Q E s := by
  obtain ⟨fs, h1, hl, h3⟩ := tups_of hv
  refine kat_kind h1 (by omega) (T := .type "int") (fun f hf => ?_) (by decide) ?_
  · obtain ⟨x, t, rfl⟩ := h3 f hf
    exact .now
  · rw [show (Value.type "int" != Value.type "tuple") = true by decide]; exact h
theorem pairs_lt {A : Around} {v v' : Value} {x y x' y' : Int} {C : Bool → Shared → Prop} (p : Pr s.heap v x y) (p' : Pr s.heap v' x' y') (h : C (decide (x < x' ∨ (x = x' ∧ y < y'))) s) : wpAny (model prog w) A (keyLt' (tuples' true) v v') C E s := by
  obtain ⟨a, o, n, t, u, rfl, e, c, d⟩ := p
  obtain ⟨a', o', n', t', u', rfl, e', c', d'⟩ := p'
  refine kat_lt e d e' d' ?_
  show KatLex prog w A true _ C [(.int x t, .int x' t'), (.int y u, .int y' u')] 0 s
  refine kat_cons (wpAny_eqBool_int ?_)
  by_cases ex : x = x'
  · rw [show (x == x') = true from beq_iff_eq.mpr ex]
    refine kat_yes (kat_cons (wpAny_eqBool_int ?_))
    by_cases ey : y = y'
    · rw [show (y == y') = true from beq_iff_eq.mpr ey]
      refine kat_yes (kat_nil ?_)
      have : decide (x < x' ∨ (x = x' ∧ y < y')) = false := decide_eq_false (by omega)
      rw [this] at h
      exact h
    · rw [show (y == y') = false from beq_eq_false_iff_ne.mpr ey]
      refine kat_no (kat_one _ _ (PyProof.Rows.lt_int (show C (decide (y < y')) s from ?_)))
      have : decide (x < x' ∨ (x = x' ∧ y < y')) = decide (y < y') := decide_eq_decide.mpr (by omega)
      rw [this] at h
      exact h
  · rw [show (x == x') = false from beq_eq_false_iff_ne.mpr ex]
    refine kat_no (oneLt_int ?_)
    have : decide (x < x' ∨ (x = x' ∧ y < y')) = decide (x < x') := decide_eq_decide.mpr (by omega)
    rw [this] at h
    exact h
end
section
variable {X : Cx}
def pairK (r : List Int) : Int := r.getD 0 0 * 100000 + r.getD 1 0
def rSortT (K : Frag) : List V → Hp → VK → Prop := fun xs H Q => ∃ (p : Addr) (rs : List (List Int)), xs = [.ref p] ∧ TupsAt H p rs ∧ (∀ r ∈ rs, ∃ x y, r = [x, y] ∧ 0 ≤ y ∧ y < 100000) ∧ rs.length < 64 ∧ ∀ (rs' : List (List Int)) (l : Addr) (H' : Hp), rs'.Perm rs → rs'.Pairwise (fun r r' => pairK r ≤ pairK r') → H l = none → Same H H' → TupsAt H' l rs' → Q (.ref l) H'
theorem call_sortedT {K : Frag} (hK : X.K = K) : CallR X (.builtin "sorted") (rSortT K) := by
  subst hK
  intro pins s σ H xs us Q I r h
  obtain ⟨p, rs, rfl, ⟨as, hp, hla, hT⟩, hR, hn, q⟩ := h
  obtain ⟨u, rfl, ru⟩ := r.one
  cases (show u = Value.ref p from ru)
  obtain ⟨its, rv, pl, hz⟩ := I.list (SqL.of hp)
  have hl : its.length = rs.length := by have := rv.length; rw [List.length_map] at this; omega
  have hits : ∀ i (h1 : i < its.length) (h2 : i < as.length), its[i] = Value.ref as[i] := fun i h1 h2 => by
    obtain ⟨v, e1, e2⟩ := rv.get (i := i) (x := V.ref as[i]) (by rw [List.getElem?_map, List.getElem?_eq_getElem h2]; rfl)
    rw [List.getElem?_eq_getElem h1] at e1
    cases e1
    exact e2
  have hPr : ∀ i (h1 : i < its.length) (h2 : i < rs.length), ∃ x y, rs[i] = [x, y] ∧ 0 ≤ y ∧ y < 100000 ∧ Pr s.heap its[i] x y := fun i h1 h2 => by
    obtain ⟨x, y, e, y0, y1⟩ := hR _ (List.getElem_mem h2)
    obtain ⟨_, tv, hv, o, g, c, n, d⟩ := I.hok _ _ (hT i (by omega) h2)
    rw [e] at hv
    obtain ⟨v1, v2, rfl, ⟨t1, rfl⟩, ⟨t2, rfl⟩⟩ := hv.two
    exact ⟨x, y, e, y0, y1, as[i]'(by omega), o, n, t1, t2, hits i h1 (by omega), g, c, d⟩
  have hPm : ∀ v ∈ its, ∃ x y, Pr s.heap v x y := fun v hv => by
    obtain ⟨i, h1, rfl⟩ := List.getElem_of_mem hv
    obtain ⟨x, y, _, _, _, hp⟩ := hPr i h1 (by omega)
    exact ⟨x, y, hp⟩
  refine sortedX (κ := tuples' true) (key := fun i => pairK (rs.getD i [])) pl.isList (by omega) (fun A' E' s' kp h2 => ⟨fun Q' hq => pairs_kind h2 (fun v hv => ?_) hq, fun i j C hi hj hC => ?_⟩) fun p' hB hS => ?_
  · obtain ⟨x, y, hp⟩ := hPm v hv
    exact ⟨x, y, hp.keep kp⟩
  · obtain ⟨x, y, e, y0, y1, hp1⟩ := hPr i hi (by omega)
    obtain ⟨x', y', e', y0', y1', hp2⟩ := hPr j hj (by omega)
    unfold kas_ask
    rw [show its.getD i Value.none = its[i] by simp [hi], show its.getD j Value.none = its[j] by simp [hj]]
    refine pairs_lt (hp1.keep kp) (hp2.keep kp) ?_
    have ei : pairK (rs.getD i []) = x * 100000 + y := by simp [pairK, List.getD_eq_getElem?_getD, show i < rs.length by omega, e]
    have ej : pairK (rs.getD j []) = x' * 100000 + y' := by simp [pairK, List.getD_eq_getElem?_getD, show j < rs.length by omega, e']
    have : decide (pairK (rs.getD i []) < pairK (rs.getD j [])) = decide (x < x' ∨ (x = x' ∧ y < y')) := by rw [ei, ej]; exact decide_eq_decide.mpr (by omega)
    rw [← this]; exact hC
  · have hsz : p'.size = rs.length := hB.size.trans hl
    have hlt : ∀ i ∈ p'.toList, i < rs.length := fun i hi => by
      have := (Array.perm_iff_toList_perm.mp hB).mem_iff.mp hi
      simpa [hl] using this
    have sm : Same H (upd H (s.heap.objs.size + 1) (.lst ((p'.toList.map fun i => as.getD i 0).map V.ref))) := (Same.refl H).upd (I.hok.fresh (Nat.le_succ _))
    refine ⟨.ref (s.heap.objs.size + 1), _, I.laid (t' := s.toks) (a := s.heap.objs.size + 1) (o := .lst ((p'.toList.map fun i => as.getD i 0).map V.ref)) (fun b o e => sortedAll_old e) (Nat.le_succ _) ?_, rfl, q (p'.toList.map fun i => rs.getD i []) _ _ ?_ ?_ (I.hok.fresh (Nat.le_succ _)) sm ⟨_, upd_same, by simp, fun i i1 i2 => sm _ _ ?_⟩⟩
    · obtain ⟨n, e⟩ := sortedAll_at s.heap its (outBy its p')
      refine ⟨Nat.le_trans (show _ ≤ 1000 by simp; omega) (by decide), (outBy its p').toList, n, ?_, by rw [e]⟩
      have key : ∀ (l : List Nat), (∀ i ∈ l, i < rs.length) → Vals ((l.map fun i => as.getD i 0).map V.ref) (l.map fun i => its.getD i Value.none) := by
        intro l
        induction l with
        | nil => intro _; exact .nil
        | cons a l ih =>
          intro hl'
          refine .cons ?_ (ih fun i hi => hl' i (List.mem_cons_of_mem _ hi))
          have ha := hl' a List.mem_cons_self
          have h1 : a < its.length := by omega
          have h2 : a < as.length := by omega
          show its.getD a Value.none = Value.ref (as.getD a 0)
          rw [show its.getD a Value.none = its[a] by simp [h1], show as.getD a 0 = as[a] by simp [h2]]
          exact hits a h1 h2
      exact key _ hlt
    · have := (Array.perm_iff_toList_perm.mp hB).map fun i => rs.getD i []
      refine this.trans ?_
      have e : ((List.range its.length).toArray.toList.map fun i => rs.getD i []) = rs := by
        rw [hl]
        refine List.ext_getElem (by simp) fun i i1 i2 => ?_
        have : i < rs.length := i2
        simp [List.getD_eq_getElem?_getD, this]
      rw [e]
    · rw [List.pairwise_iff_getElem]
      intro i j i1 j1 hij
      have i2 : i < p'.size := by simpa using i1
      have j2 : j < p'.size := by simpa using j1
      have := hS i j (by omega) (by omega)
      unfold kk at this
      rw [Array.getD_eq_getD_getElem?, Array.getD_eq_getD_getElem?, getElem?_pos p' i i2, getElem?_pos p' j j2] at this
      simpa using this
    · have i3 : i < p'.toList.length := by simpa using i1
      have hi := hlt _ (List.getElem_mem i3)
      have h2 : p'.toList[i] < as.length := by omega
      have := hT _ h2 hi
      have e1 : (p'.toList.map fun i => as.getD i 0)[i]'(by simpa using i1) = as[p'.toList[i]] := by rw [List.getElem_map, List.getD_eq_getElem?_getD, List.getElem?_eq_getElem h2]; rfl
      have e2 : (p'.toList.map fun i => rs.getD i [])[i]'(by simpa using i2) = rs[p'.toList[i]] := by rw [List.getElem_map, List.getD_eq_getElem?_getD, List.getElem?_eq_getElem hi]; rfl
      rw [e1, e2]; exact this
end
end L2


set_option Elab.async false
set_option linter.all false
set_option maxRecDepth 100000
set_option maxHeartbeats 1000000
namespace L2
open PySem PySem.Spec PyProof.Rows PySem.W

theorem kin_tree {ns T ms : List Int} (hT : TreeIs ns T) (hl : ms.length = T.length) (h : ∀ p q : Nat, p < T.length → nth T p = q → nth ms q + (if p < q then 1 else 0) ≤ nth ms p) : TreeIs ms T := by
  have eT : T.length = ns.length := hT.1
  refine ⟨hl.symm, fun p hp => ?_⟩
  have := tree_row (g := nth ms) hT (fun q p hq hp hO => ?_) p (by omega)
  · rw [hl, eT]; exact this
  · have R := over_ind hT (R := fun o p => nth ms o ≤ nth ms p ∧ (p < o → nth ms o < nth ms p)) (fun p q p1 q1 e _ => ?_) (fun o q p O1 O2 r1 r2 => ?_) _ _ _ hp hq rfl hO
    · exact ⟨fun _ => R.1, R.2⟩
    · have := h p q (by omega) e
      refine ⟨?_, fun z => ?_⟩
      · split at this <;> omega
      · rw [if_pos z] at this; omega
    · refine ⟨by omega, fun z => ?_⟩
      by_cases y : p < q
      · have := r2.2 y; omega
      · have := O2.ne
        have := r1.2 (by omega)
        omega
theorem spine_congr {f g : Nat → Int} {i : Nat} {S : List Nat} (h : ∀ q, q < i → f q = g q) (hs : Spine f i S) : Spine g i S := by
  refine ⟨hs.1, fun q => (hs.2 q).trans ⟨fun ⟨h1, h2⟩ => ⟨h1, fun r r1 r2 => by rw [← h q h1, ← h r r2]; exact h2 r r1 r2⟩, fun ⟨h1, h2⟩ => ⟨h1, fun r r1 r2 => by rw [h q h1, h r r2]; exact h2 r r1 r2⟩⟩⟩
theorem elder_congr {f g : Nat → Int} {i p : Nat} {e : Int} (h : ∀ q, q < i → f q = g q) (hp : p < i) (he : ElderIs f i p e) : ElderIs g i p e := by
  have c1 : NoPrev f p → NoPrev g p := fun z q hq => by rw [← h p hp, ← h q (by omega)]; exact z q hq
  have c2 : NoNext f i p → NoNext g i p := fun z r r1 r2 => by rw [← h p hp, ← h r r2]; exact z r r1 r2
  have c3 : ∀ q, IsPrev f p q → IsPrev g p q := fun q ⟨z1, z2, z3⟩ => ⟨z1, by rw [← h p hp, ← h q (by omega)]; exact z2, fun r r1 r2 => by rw [← h p hp, ← h r (by omega)]; exact z3 r r1 r2⟩
  have c4 : ∀ r, IsNext f i p r → IsNext g i p r := fun r ⟨z1, z2, z3, z4⟩ => ⟨z1, z2, by rw [← h p hp, ← h r z2]; exact z3, fun s s1 s2 => by rw [← h p hp, ← h s (by omega)]; exact z4 s s1 s2⟩
  rcases he with ⟨a, b, c⟩ | ⟨q, a, b, c⟩ | ⟨r, a, b, c⟩ | ⟨q, r, a, b, c⟩
  · exact .inl ⟨c1 a, c2 b, c⟩
  · exact .inr (.inl ⟨q, c3 q a, c2 b, c⟩)
  · exact .inr (.inr (.inl ⟨r, c1 a, c4 r b, c⟩))
  · exact .inr (.inr (.inr ⟨q, r, c3 q a, c4 r b, by rw [← h q (Nat.lt_trans a.1 hp), ← h r b.2.1]; exact c⟩))

def Hung (n i : Nat) (S : List Nat) (es : List Int) : Prop := ∃ f : Nat → Int, Spine f i S ∧ S.Pairwise (fun q r => f q + 2 ^ (n - i) ≤ f r) ∧ ∀ p, p < i → ElderIs f i p (es.getD p 0)
theorem hung_zero (n : Nat) (es : List Int) : Hung n 0 [] es := ⟨fun _ => 0, ⟨List.Pairwise.nil, fun q => by simp⟩, List.Pairwise.nil, fun p hp => by omega⟩
theorem Hung.lt {n i : Nat} {S : List Nat} {es : List Int} (h : Hung n i S es) : ∀ q ∈ S, q < i := by
  obtain ⟨f, hS, _⟩ := h
  exact fun q hq => ((hS.2 q).mp hq).1
theorem Hung.len {n i : Nat} {S : List Nat} {es : List Int} (h : Hung n i S es) : S.length ≤ i := by
  have hl := h.lt
  obtain ⟨f, hS, _⟩ := h
  rcases pw_len S i 0 hS.1 (fun q hq => ⟨Nat.zero_le _, hl q hq⟩) with z | z
  · omega
  · rw [z]; simp
theorem Hung.step {n i : Nat} {A B : List Nat} {es : List Int} (h : Hung n i (A ++ B) es) (hi : i < n) (hl : es.length = n) (he : es.getD i 0 = -1) : Hung n (i + 1) (A ++ [i]) (setE es A B i) := by
  have hlt := h.lt
  obtain ⟨f, hS, hg, hE⟩ := h
  have eD : (2 : Int) ^ (n - i) = 2 * 2 ^ (n - (i + 1)) := by
    rw [show n - i = n - (i + 1) + 1 by omega, Int.pow_succ, Int.mul_comm]
  have pD : (0 : Int) < 2 ^ (n - (i + 1)) := Int.pow_pos (by decide)
  rw [eD] at hg
  generalize hDD : (2 : Int) ^ (n - (i + 1)) = D at hg pD
  have hgA := (List.pairwise_append.mp hg).1
  have hgB := (List.pairwise_append.mp hg).2.1
  have hgX := (List.pairwise_append.mp hg).2.2
  obtain ⟨v, vA, vB⟩ : ∃ v : Int, (∀ q ∈ A, f q + D ≤ v) ∧ ∀ q ∈ B, v < f q := by
    cases B with
    | cons b Br =>
      refine ⟨f b - D, fun q hq => ?_, fun q hq => ?_⟩
      · have := hgX q hq b (by simp); omega
      · rcases List.mem_cons.mp hq with rfl | hq
        · omega
        · have := (List.pairwise_cons.mp hgB).1 q hq; omega
    | nil =>
      rcases snoc_cases A with rfl | ⟨A', a, rfl⟩
      · exact ⟨0, (fun q hq => by cases hq), fun q hq => by cases hq⟩
      · refine ⟨f a + D, fun q hq => ?_, fun q hq => by cases hq⟩
        rcases List.mem_append.mp hq with hq | hq
        · have := (List.pairwise_append.mp hgA).2.2 q hq a (by simp); omega
        · rw [List.mem_singleton.mp hq]; omega
  have hag : ∀ q, q < i → f q = (if q = i then v else f q) := fun q hq => by rw [if_neg (by omega)]
  have gi : (fun q => if q = i then v else f q) i = v := if_pos rfl
  have gq : ∀ q, q < i → (fun q => if q = i then v else f q) q = f q := fun q hq => if_neg (by omega)
  generalize (fun q => if q = i then v else f q) = g at gi gq
  have hag : ∀ q, q < i → f q = g q := fun q hq => (gq q hq).symm
  have lA : ∀ q ∈ A, q < i := fun q hq => hlt q (List.mem_append_left _ hq)
  have lB : ∀ q ∈ B, q < i := fun q hq => hlt q (List.mem_append_right _ hq)
  have SS := spine_step (f := g) (i := i) (A := A) (B := B) (spine_congr hag hS) (fun q hq => by rw [gi, gq q (lA q hq)]; have := vA q hq; omega) (fun q hq => by rw [gi, gq q (lB q hq)]; exact vB q hq)
  refine ⟨g, SS.1, ?_, fun p hp => ?_⟩
  · rw [hDD]
    refine List.pairwise_append.mpr ⟨?_, List.pairwise_singleton _ _, fun q hq r hr => ?_⟩
    · refine hgA.imp_of_mem fun {q r} hq hr z => ?_
      rw [gq q (lA q hq), gq r (lA r hr)]; omega
    · rw [List.mem_singleton.mp hr, gi, gq q (lA q hq)]; exact vA q hq
  · have hbi : ∀ b, B.head? = some b → b ≠ i := fun b hb => by
      have := lB b (List.mem_of_head? hb); omega
    rw [setE_at _ _ _ _ _ (by omega) hbi]
    by_cases z : p = i
    · subst z
      rw [if_pos rfl, he]; exact SS.2.1
    · rw [if_neg z]
      exact SS.2.2 p _ (by omega) (elder_congr hag (by omega) (hE p (by omega)))
theorem Hung.tree {n : Nat} {S : List Nat} {es : List Int} (h : Hung n n S es) (hl : es.length = n) : ∃ ns, TreeIs ns es := by
  obtain ⟨f, _, _, hE⟩ := h
  refine ⟨(List.range n).map f, by simp [hl], fun p hp => ?_⟩
  have hp : p < n := by simpa using hp
  have := hE p hp
  rw [show ((List.range n).map f).length = n by simp]
  exact elder_congr (f := f) (fun q hq => (map_range_nth hq).symm) hp this
theorem perm_map_inv {β : Type} {F : Nat → β} {G : β → Nat} {l : List β} {n : Nat} (hG : ∀ p, p < n → G (F p) = p) (h : l.Perm ((List.range n).map F)) : ∃ os : List Nat, os.Perm (List.range n) ∧ l = os.map F := by
  refine ⟨l.map G, ?_, ?_⟩
  · have := h.map G
    rw [List.map_map] at this
    have e : (List.range n).map (G ∘ F) = List.range n := by
      exact (List.map_congr_left (f := G ∘ F) (g := id) fun p hp => hG p (List.mem_range.mp hp)).trans (List.map_id _)
    rwa [e] at this
  · rw [List.map_map]
    have : l.map (F ∘ G) = l.map id := List.map_congr_left fun x hx => by
      obtain ⟨p, hp, rfl⟩ := List.mem_map.mp (h.mem_iff.mp hx)
      show F (G (F p)) = F p
      rw [hG p (List.mem_range.mp hp)]
    rw [this, List.map_id]

def openN (ds : List Nat) : Nat → Nat
  | 0 => 0
  | k + 1 => openN ds k - ds.getD k 0 + 1
def DropsOk (ds : List Nat) : Prop := ∀ k, k < ds.length → ds.getD k 0 ≤ openN ds k
theorem openN_le (ds : List Nat) (k : Nat) : openN ds k ≤ k := by
  induction k with
  | zero => exact Nat.le_refl _
  | succ k ih => unfold openN; omega
theorem openN_app (ds : List Nat) (d : Nat) : ∀ k, k ≤ ds.length → openN (ds ++ [d]) k = openN ds k
  | 0, _ => rfl
  | k + 1, h => by
    unfold openN
    rw [openN_app ds d k (by omega)]
    congr 2
    simp [List.getD_eq_getElem?_getD, List.getElem?_append_left (show k < ds.length by omega)]
theorem DropsOk.snoc {ds : List Nat} {d : Nat} (h : DropsOk ds) (hd : d ≤ openN ds ds.length) : DropsOk (ds ++ [d]) := by
  intro k hk
  rw [openN_app ds d k (by simp at hk; omega)]
  by_cases e : k = ds.length
  · subst e
    simpa [List.getD_eq_getElem?_getD] using hd
  · have hk2 : k < ds.length := by simp at hk; omega
    have := h k hk2
    simpa [List.getD_eq_getElem?_getD, List.getElem?_append_left hk2] using this
theorem natsV_snoc (l : List Nat) (y : Nat) : atI (natsV (l ++ [y])) (-1) = some (V.int (y : Nat)) := by
  have := natsV_last (bs := l ++ [y]) (i := l.length) (by simp)
  rw [this]; simp [List.getD_eq_getElem?_getD]
theorem set_nth_self (es : List Int) (y : Nat) : es.set y (nth es y) = es := by
  by_cases h : y < es.length
  · refine List.ext_getElem (by simp) fun j j1 j2 => ?_
    rw [List.getElem_set]
    split
    · rename_i e
      subst e
      simp [nth, List.getD_eq_getElem?_getD, h]
    · rfl
  · exact List.set_eq_of_length_le (by omega)

theorem split_last {α : Type} (S : List α) {d : Nat} (h : d ≤ S.length) : ∃ A B, S = A ++ B ∧ B.length = d := ⟨S.take (S.length - d), S.drop (S.length - d), (List.take_append_drop _ _).symm, by simp; omega⟩
end L2
namespace L2
open PySem PySem.Spec PyProof.Rows PySem.W
section
variable {X : Cx}
theorem vals3 {x y z : V} {us : List Value} (r : Vals [x, y, z] us) : ∃ u w' v', us = [u, w', v'] ∧ RelV x u ∧ RelV y w' ∧ RelV z v' := by
  cases r with
  | cons r1 r2 =>
    obtain ⟨u, w', rfl, a, b⟩ := vals2 r2
    exact ⟨_, _, _, rfl, r1, a, b⟩
theorem call_min3 (hc : X.calm = true) : CallR X (.builtin "min") (fun xs H Q => ∃ i j k, xs = [.int i, .int j, .int k] ∧ Q (.int (min (min i j) k)) H) := by
  intro pins s σ H xs us Q I r h
  obtain ⟨i, j, k, rfl, q⟩ := h
  obtain ⟨u, w', v', rfl, ⟨t, rfl⟩, ⟨t', rfl⟩, ⟨t'', rfl⟩⟩ := vals3 r
  refine min_three_ints (I.ok.hd hc) fun h' tk kp => ⟨_, H, I.kept kp, ?_, q⟩
  repeat' split
  all_goals exact ⟨_, by congr 1; omega⟩
end
end L2
namespace L2
open PySem PySem.Spec PyProof.Rows PySem.W
theorem cp58 : CPow 10 58 := by unfold CPow; decide
theorem TupsAt.keep {H H' : Hp} {l : Addr} {rs : List (List Int)} (R : TupsAt H l rs) (h1 : ∀ xs, H l = some (.lst xs) → H' l = some (.lst xs)) (h2 : ∀ a xs, H a = some (.tup xs) → H' a = some (.tup xs)) : TupsAt H' l rs := by
  obtain ⟨as, e, hl, h⟩ := R
  exact ⟨as, h1 _ e, hl, fun i i1 i2 => h2 _ _ (h i i1 i2)⟩
theorem TupsAt.exc {H H' : Hp} {l p : Addr} {rs : List (List Int)} (R : TupsAt H l rs) (e : Exc p H H') (P : PoolAt H p) (n : l ≠ p) : TupsAt H' l rs := by
  obtain ⟨x, y, hp, _⟩ := P
  exact R.keep (fun xs h => e _ _ n h) fun a xs h => e _ _ (fun z => by rw [z, hp] at h; cases h) h
theorem TupsAt.updL {H : Hp} {l b : Addr} {rs : List (List Int)} {ys zs : List V} (R : TupsAt H l rs) (hb : H b = some (.lst ys)) (n : l ≠ b) : TupsAt (upd H b (.lst zs)) l rs :=
  R.keep (fun xs h => by rw [upd_ne n]; exact h) fun a xs h => by rw [upd_ne (fun z => by rw [z, hb] at h; cases h)]; exact h

def rankF (T : List Int) (q : Nat) : List Int := [((way T q).length : Int), (q : Int)]
theorem rank_order {T : List Int} {rs : List (List Int)} {n : Nat} (hn : n ≤ 1000) (hp : rs.Perm ((List.range n).map (rankF T))) (hs : rs.Pairwise fun r r' => pairK r ≤ pairK r') : ∃ os : List Nat, os.Perm (List.range n) ∧ rs = os.map (rankF T) ∧ ∀ i j, i < j → j < os.length → os.getD i 0 ≠ os.getD j 0 ∧ (way T (os.getD i 0)).length ≤ (way T (os.getD j 0)).length := by
  obtain ⟨os, ho, rfl⟩ := perm_map_inv (F := rankF T) (G := fun r => (r.getD 1 0).toNat) (fun p _ => by simp [rankF]) hp
  refine ⟨os, ho, rfl, fun i j hij hj => ?_⟩
  have hlt : ∀ q ∈ os, q < n := fun q hq => List.mem_range.mp (ho.mem_iff.mp hq)
  have nd : os.Nodup := ho.nodup_iff.mpr List.nodup_range
  have hi : i < os.length := by omega
  have e1 : os.getD i 0 = os[i] := by simp [hi]
  have e2 : os.getD j 0 = os[j] := by simp [hj]
  rw [e1, e2]
  refine ⟨fun z => ?_, ?_⟩
  · exact List.pairwise_iff_getElem.mp nd i j hi hj hij z
  · rw [List.pairwise_map] at hs
    have := List.pairwise_iff_getElem.mp hs i j hi hj hij
    have a := hlt _ (List.getElem_mem hi)
    have b := hlt _ (List.getElem_mem hj)
    simp only [pairK, rankF, List.getD_cons_zero, List.getD_cons_succ] at this
    omega
end L2


set_option Elab.async false
set_option linter.all false
set_option maxRecDepth 100000
set_option maxHeartbeats 1000000
namespace L2
open PySem PySem.Spec PyProof.Rows PySem.W

end L2


set_option Elab.async false
set_option linter.all false
set_option maxRecDepth 100000
set_option maxHeartbeats 1000000
namespace L2
open PySem PySem.Spec PyProof.Rows PySem.W

theorem next_or (f : Nat → Int) (n p : Nat) : NoNext f n p ∨ ∃ r, IsNext f n p r := by
  by_cases h : ∀ j, j < n - (p + 1) → f p ≤ f (p + 1 + j)
  · exact .inl fun r h1 h2 => by
      have := h (r - (p + 1)) (by omega)
      rwa [show p + 1 + (r - (p + 1)) = r by omega] at this
  · obtain ⟨j, hj, h1, h2⟩ := first_not _ h
    refine .inr ⟨p + 1 + j, by omega, by omega, by omega, fun s s1 s2 => ?_⟩
    have := h2 (s - (p + 1)) (by omega)
    rwa [show p + 1 + (s - (p + 1)) = s by omega] at this
end L2


set_option Elab.async false
set_option linter.all false
set_option maxRecDepth 100000
set_option maxHeartbeats 1000000
namespace L2
open PySem PySem.Spec PyProof.Rows PySem.W

section
variable {X : Cx}
end

def rSlU (K : Frag) : V → Option Int → Option Int → Hp → VK → Prop := fun x lo hi H Q => ∃ a xs, x = .ref a ∧ SqT K H a xs ∧ ∀ p H', Same H H' → SqT K H' p (cutV xs lo hi) → Q (.ref p) H'
theorem TupsAt.at {K : Frag} {H : Hp} {l : Addr} {rs : List (List Int)} {p : Nat} (R : TupsAt H l rs) (h : p < rs.length) : ∃ xs a, SqL K H l xs ∧ atI xs (p : Int) = some (V.ref a) ∧ H a = some (.tup (rs[p].map V.int)) := by
  obtain ⟨as, e, hl, ht⟩ := R
  refine ⟨as.map V.ref, as[p]'(by omega), SqL.of e, ?_, ht p (by omega) h⟩
  rw [atI_at rfl (by rw [List.length_map]; omega)]; simp

end L2


set_option Elab.async false
set_option linter.all false
set_option maxRecDepth 100000
set_option maxHeartbeats 1000000
namespace L2
open PySem PySem.Spec PyProof.Rows PySem.W

def NextAt (f : Nat → Int) (p k : Nat) : Prop := p < k ∧ f k < f p ∧ ∀ s, p < s → s < k → f p ≤ f s
open Classical in

noncomputable def dropAt (f : Nat → Int) (k : Nat) : Nat := (List.range k).countP fun p => decide (NextAt f p k)
theorem count_mem {B : List Nat} {n : Nat} (hB : B.Nodup) (hlt : ∀ q ∈ B, q < n) : (List.range n).countP (fun p => decide (p ∈ B)) = B.length := by
  rw [List.countP_eq_length_filter]
  refine List.Perm.length_eq ((List.perm_ext_iff_of_nodup (List.nodup_range.filter _) hB).mpr fun a => ?_)
  rw [List.mem_filter, List.mem_range, decide_eq_true_iff]
  exact ⟨fun h => h.2, fun h => ⟨hlt a h, h⟩⟩
theorem spine_drop {f : Nat → Int} {i : Nat} {A B : List Nat} (hs : Spine f i (A ++ B)) (hA : ∀ q ∈ A, f q ≤ f i) (hB : ∀ q ∈ B, f i < f q) : dropAt f i = B.length := by
  have hm : ∀ p, NextAt f p i ↔ p ∈ B := fun p => by
    constructor
    · rintro ⟨h1, h2, h3⟩
      rcases List.mem_append.mp ((hs.2 p).mpr ⟨h1, h3⟩) with z | z
      · have := hA p z; omega
      · exact z
    · intro z
      obtain ⟨h1, h2⟩ := (hs.2 p).mp (List.mem_append_right _ z)
      exact ⟨h1, hB p z, h2⟩
  have nd : B.Nodup := (List.pairwise_append.mp hs.1).2.1.imp fun h => Nat.ne_of_lt h
  have hlt : ∀ q ∈ B, q < i := fun q hq => ((hs.2 q).mp (List.mem_append_right _ hq)).1
  unfold dropAt
  rw [← count_mem nd hlt]
  refine List.countP_congr fun p _ => ?_
  simp [hm p]
theorem dropAt_congr {f g : Nat → Int} {k : Nat} (h : ∀ q, q ≤ k → f q = g q) : dropAt f k = dropAt g k := by
  unfold dropAt
  refine List.countP_congr fun p hp => ?_
  have hp := List.mem_range.mp hp
  simp only [decide_eq_true_eq]
  constructor
  · rintro ⟨a, b, c⟩
    exact ⟨a, by rw [← h k (Nat.le_refl _), ← h p (by omega)]; exact b, fun s s1 s2 => by rw [← h p (by omega), ← h s (by omega)]; exact c s s1 s2⟩
  · rintro ⟨a, b, c⟩
    exact ⟨a, by rw [h k (Nat.le_refl _), h p (by omega)]; exact b, fun s s1 s2 => by rw [h p (by omega), h s (by omega)]; exact c s s1 s2⟩
def HungD (n i : Nat) (S : List Nat) (es : List Int) (ds : List Nat) : Prop := ∃ f : Nat → Int, Spine f i S ∧ S.Pairwise (fun q r => f q + 2 ^ (n - i) ≤ f r) ∧ (∀ p, p < i → ElderIs f i p (es.getD p 0)) ∧ ∀ k, k < i → dropAt f k = ds.getD k 0
theorem HungD.lt {n i : Nat} {S ds : List Nat} {es : List Int} (h : HungD n i S es ds) : ∀ q ∈ S, q < i := by
  obtain ⟨f, hS, _⟩ := h
  exact fun q hq => ((hS.2 q).mp hq).1
theorem HungD.step {n i : Nat} {A B ds : List Nat} {es : List Int} (h : HungD n i (A ++ B) es ds) (hi : i < n) (hl : es.length = n) (he : es.getD i 0 = -1) (hd : ds.getD i 0 = B.length) : HungD n (i + 1) (A ++ [i]) (setE es A B i) ds := by
  have hlt := h.lt
  obtain ⟨f, hS, hg, hE, hD⟩ := h
  have eD : (2 : Int) ^ (n - i) = 2 * 2 ^ (n - (i + 1)) := by
    rw [show n - i = n - (i + 1) + 1 by omega, Int.pow_succ, Int.mul_comm]
  have pD : (0 : Int) < 2 ^ (n - (i + 1)) := Int.pow_pos (by decide)
  rw [eD] at hg
  generalize hDD : (2 : Int) ^ (n - (i + 1)) = D at hg pD
  have hgA := (List.pairwise_append.mp hg).1
  have hgB := (List.pairwise_append.mp hg).2.1
  have hgX := (List.pairwise_append.mp hg).2.2
  obtain ⟨v, vA, vB⟩ : ∃ v : Int, (∀ q ∈ A, f q + D ≤ v) ∧ ∀ q ∈ B, v < f q := by
    cases B with
    | cons b Br =>
      refine ⟨f b - D, fun q hq => ?_, fun q hq => ?_⟩
      · have := hgX q hq b (by simp); omega
      · rcases List.mem_cons.mp hq with rfl | hq
        · omega
        · have := (List.pairwise_cons.mp hgB).1 q hq; omega
    | nil =>
      rcases snoc_cases A with rfl | ⟨A', a, rfl⟩
      · exact ⟨0, (fun q hq => by cases hq), fun q hq => by cases hq⟩
      · refine ⟨f a + D, fun q hq => ?_, fun q hq => by cases hq⟩
        rcases List.mem_append.mp hq with hq | hq
        · have := (List.pairwise_append.mp hgA).2.2 q hq a (by simp); omega
        · rw [List.mem_singleton.mp hq]; omega
  have gi : (fun q => if q = i then v else f q) i = v := if_pos rfl
  have gq : ∀ q, q < i → (fun q => if q = i then v else f q) q = f q := fun q hq => if_neg (by omega)
  generalize (fun q => if q = i then v else f q) = g at gi gq
  have hag : ∀ q, q < i → f q = g q := fun q hq => (gq q hq).symm
  have lA : ∀ q ∈ A, q < i := fun q hq => hlt q (List.mem_append_left _ hq)
  have lB : ∀ q ∈ B, q < i := fun q hq => hlt q (List.mem_append_right _ hq)
  have sA : ∀ q ∈ A, g q ≤ g i := fun q hq => by rw [gi, gq q (lA q hq)]; have := vA q hq; omega
  have sB : ∀ q ∈ B, g i < g q := fun q hq => by rw [gi, gq q (lB q hq)]; exact vB q hq
  have SS := spine_step (f := g) (i := i) (A := A) (B := B) (spine_congr hag hS) sA sB
  refine ⟨g, SS.1, ?_, fun p hp => ?_, fun k hk => ?_⟩
  · rw [hDD]
    refine List.pairwise_append.mpr ⟨?_, List.pairwise_singleton _ _, fun q hq r hr => ?_⟩
    · refine hgA.imp_of_mem fun {q r} hq hr z => ?_
      rw [gq q (lA q hq), gq r (lA r hr)]; omega
    · rw [List.mem_singleton.mp hr, gi, gq q (lA q hq)]; exact vA q hq
  · have hbi : ∀ b, B.head? = some b → b ≠ i := fun b hb => by
      have := lB b (List.mem_of_head? hb); omega
    rw [setE_at _ _ _ _ _ (by omega) hbi]
    by_cases z : p = i
    · subst z
      rw [if_pos rfl, he]; exact SS.2.1
    · rw [if_neg z]
      exact SS.2.2 p _ (by omega) (elder_congr hag (by omega) (hE p (by omega)))
  · by_cases z : k = i
    · subst z
      rw [hd]; exact spine_drop (spine_congr hag hS) sA sB
    · rw [← dropAt_congr (f := f) (g := g) (k := k) (fun q hq => hag q (by omega))]
      exact hD k (by omega)

end L2


set_option Elab.async false
set_option linter.all false
set_option maxRecDepth 100000
set_option maxHeartbeats 1000000
namespace L2
open PySem PySem.Spec PyProof.Rows PySem.W

end L2
namespace L2
open PySem PySem.Spec PyProof.Rows PySem.W

section
variable {prog : Program} {w : World} {A : Around} {E : Value → Shared → Prop} {s : Shared}
end
def Itrv (lo : Int) (n : Nat) : It := ⟨fun i _ => i < n, fun i H x H' => H' = H ∧ x = .int (lo + n - 1 - i), fun i _ => n ≤ i⟩
section
variable {X : Cx} {tg : Expr}
def iRevR (ta : TA) : TI := fun σ H R => ta σ H fun vs H1 => ∃ (a : Addr) (lo hi : Int), vs = [.ref a] ∧ H1 a = some (.rng lo hi) ∧ -(2 ^ 62) ≤ lo ∧ lo < 2 ^ 62 ∧ -(2 ^ 62) ≤ hi ∧ hi < 2 ^ 62 ∧ R (Itrv lo (hi - lo).toNat) H1
end
end L2
namespace L2

end L2


set_option Elab.async false
set_option linter.all false
set_option maxRecDepth 100000
set_option maxHeartbeats 1000000
namespace L2
open PySem PySem.Spec PyProof.Rows PySem.W
section
variable {X : Cx}

def rMulS : R2 := fun x y H Q => ∃ (i : Str) (n : Int), x = .str i ∧ y = .int n ∧ -1000 ≤ n ∧ n ≤ 1000 ∧ i.length ≤ 1000 ∧ Q (.str (Txt.mul i n)) H
def rJoin (K : Frag) : V → List V → Hp → VK → Prop := fun x xs H Q => ∃ (sep : Str) (a : Addr) (ss : List Str), x = .str sep ∧ xs = [.ref a] ∧ SqL K H a (ss.map V.str) ∧ JoinOk sep ss = true ∧ Q (.str (Txt.join sep ss)) H
def Its (x : Str) : It := ⟨fun i _ => i < x.cps.size, fun i H v H' => H' = H ∧ ∃ c, x.cps[i]? = some c ∧ v = .str ⟨#[c]⟩, fun i _ => x.cps.size ≤ i⟩
def iStr (tl : TE) : TI := fun σ H R => tl σ H fun x H1 => ∃ y : Str, x = .str y ∧ y.cps.all (· < 128) = true ∧ R (Its y) H1
end

end L2
namespace L2
open PySem PySem.Spec PyProof.Rows PySem.W
end L2
namespace L2
open PySem PySem.Spec PyProof.Rows PySem.W

def rSumT (K : Frag) : List V → Hp → VK → Prop := fun xs H Q => ∃ (p : Addr) (ns : List Int), xs = [.ref p] ∧ SqT K H p (ns.map V.int) ∧ Q (.int ns.sum) H
end L2


set_option Elab.async false
set_option linter.all false
set_option maxRecDepth 100000
set_option maxHeartbeats 1000000
namespace L2
open PySem PySem.Spec PyProof.Rows PySem.W
section
variable {X : Cx}

end
end L2


set_option Elab.async false
set_option linter.all false
set_option maxRecDepth 100000
set_option maxHeartbeats 1000000
namespace L2
open PySem PySem.Spec PyProof.Rows PySem.W
section
variable {X : Cx}

def rCountS : V → List V → Hp → VK → Prop := fun x xs H Q => ∃ a b : Str, x = .str a ∧ xs = [.str b] ∧ Q (.int (Txt.count a b)) H
def rRstrip : V → List V → Hp → VK → Prop := fun x xs H Q => ∃ a b : Str, x = .str a ∧ xs = [.str b] ∧ a.length ≤ sizeLine ∧ Q (.str (Txt.rstripChars a b)) H
def rLenS : List V → Hp → VK → Prop := fun xs H Q => ∃ a : Str, xs = [.str a] ∧ a.length ≤ sizeLine ∧ Q (.int (a.length : Nat)) H
end

end L2


set_option Elab.async false
set_option linter.all false
set_option maxRecDepth 100000
set_option maxHeartbeats 1000000
namespace L2

def Ok : Nat → List Nat → Prop
  | _, [] => True
  | st, d :: ds => d ≤ st ∧ Ok (st - d + 1) ds
end L2
namespace L2

end L2
namespace L2
end L2
namespace L2
open PySem PySem.Spec PyProof.Rows PySem.W
end L2


set_option Elab.async false
set_option linter.all false
set_option maxRecDepth 100000
set_option maxHeartbeats 1000000
namespace L2
open PySem PySem.Spec PyProof.Rows PySem.W

section
variable {X : Cx}
def rRepU : R2 := fun x y H Q => ∃ (a : Addr) (n : Int) (xs : List V), x = .ref a ∧ y = .int n ∧ H a = some (.tup xs) ∧ xs ≠ [] ∧ xs.length ≤ 1000 ∧ -1000 ≤ n ∧ n < 1000 ∧ ∀ (p : Addr) H', Same H H' → H' p = some (.tup (List.replicate n.toNat xs).flatten) → Q (.ref p) H'
end
end L2


set_option Elab.async false
set_option linter.all false
set_option maxRecDepth 100000
set_option maxHeartbeats 1000000
namespace L2
end L2


set_option Elab.async false
set_option linter.all false
set_option maxRecDepth 100000
set_option maxHeartbeats 1000000

namespace L2
open PySem PySem.Spec PyProof.Rows PySem.W
end L2


set_option Elab.async false
set_option linter.all false
set_option maxRecDepth 100000
set_option maxHeartbeats 1000000

namespace L2
open PySem PySem.Spec PyProof.Rows PySem.W
section
variable {X : Cx}
def rRemP : V → List V → Hp → VK → Prop := fun x xs H Q => ∃ a b : Str, x = .str a ∧ xs = [.str b] ∧ a.length ≤ sizeLine ∧ Q (.str (Txt.removeprefix a b)) H
def rIsAsc : V → List V → Hp → VK → Prop := fun x xs H Q => ∃ a : Str, x = .str a ∧ xs = [] ∧ Q (.bl (Txt.isascii a)) H
def rIsDig : V → List V → Hp → VK → Prop := fun x xs H Q => ∃ a : Str, x = .str a ∧ xs = [] ∧ Q (.bl (Txt.isdigit a)) H
def rStarts : V → List V → Hp → VK → Prop := fun x xs H Q => ∃ a b : Str, x = .str a ∧ xs = [.str b] ∧ Q (.bl (Txt.startswith a b)) H
def rStrI : List V → Hp → VK → Prop := fun xs H Q => ∃ i : Int, xs = [.int i] ∧ i.natAbs.log2 < 1920 ∧ Q (.str (Str.ofString (toString i))) H
def rIntS : List V → Hp → VK → Prop := fun xs H Q => ∃ (a : Str) (n : Int), xs = [.str a] ∧ PySem.intText? a = some n ∧ a.length ≤ 640 ∧ Q (.int n) H
def rSplit : V → List V → Hp → VK → Prop := fun x xs H Q => ∃ a b : Str, x = .str a ∧ xs = [.str b] ∧ (b.length == 0) = false ∧ a.length ≤ 100000 ∧ ∀ p, H p = none → Q (.ref p) (upd H p (.lst ((Txt.split a b).map V.str)))
end
end L2
namespace L2
open PySem PySem.Spec PyProof.Rows PySem.W

abbrev cds (x : Str) : List Nat := x.cps.toList
def dg (m : Nat) : List Nat := (Nat.toDigits 10 m).map Char.toNat
def numS (i : Int) : Str := Str.ofString (toString i)
structure NumFacts (i : Int) : Prop where
  len : (numS i).length ≤ 61
  fig : ∃ m, cds (Txt.removeprefix (numS i) (Str.ofString "-")) = dg m ∧ (m = 0 → i = 0) ∧ m < 10 ^ 60
  val : PySem.intText? (numS i) = some i
end L2


set_option Elab.async false
set_option linter.all false
set_option maxRecDepth 100000
set_option maxHeartbeats 1000000

namespace L2
open PySem PySem.Spec PyProof.Rows PySem.W

section
variable {X : Cx} {a : Expr} {ta : TE} {pos : Pos}

def tFldC (C : Addr) (ta : TE) (f : Str) : TE := fun σ H Q => ta σ H fun x H1 => ∃ (o dx : Addr) (fs : List (Str × V)) (v : V), x = .ref o ∧ H1 o = some (.ins C dx fs) ∧ fs.lookup f = some v ∧ Q v H1
def sFldC (C : Addr) (ta tv : TE) (f : Str) : TS := fun D σ H => tv σ H fun y H1 => ta σ H1 fun x H2 => ∃ (o dx : Addr) (fs : List (Str × V)), x = .ref o ∧ H2 o = some (.ins C dx fs) ∧ fs.length < 1000 ∧ D.nx σ (upd H2 o (.ins C dx (putF f y fs)))
end
end L2


set_option Elab.async false
set_option linter.all false
set_option maxRecDepth 100000
set_option maxHeartbeats 1000000
namespace L2
open PySem PySem.Spec PyProof.Rows

section
variable {κ : Type} [DecidableEq κ]
def valV (kvs : List (κ × V)) (k : κ) : Option V := (kvs.find? fun kv => decide (kv.1 = k)).map (·.2)

def putK (kvs : List (κ × V)) (k : κ) (v : V) : List (κ × V) :=
  if (kvs.any fun kv => decide (kv.1 = k)) = true then kvs.map (fun kv => if kv.1 = k then (kv.1, v) else kv) else kvs ++ [(k, v)]
def dropK (kvs : List (κ × V)) (k : κ) : List (κ × V) := kvs.filter fun kv => decide (kv.1 ≠ k)

theorem valV_pos {p : κ × V} {r : List (κ × V)} {k : κ} (e : p.1 = k) : valV (p :: r) k = some p.2 := by simp [valV, List.find?_cons, e]
theorem valV_neg {p : κ × V} {r : List (κ × V)} {k : κ} (e : ¬ p.1 = k) : valV (p :: r) k = valV r k := by simp [valV, List.find?_cons, e]
theorem RelO.getD {o : Option V} {u : Option Value} {d : V} {d' : Value} (r : RelO o u) (rd : RelV d d') : RelV (o.getD d) (u.getD d') := by
  cases o with
  | none => cases u with
    | none => exact rd
    | some _ => exact (show False from r).elim
  | some _ => cases u with
    | none => exact (show False from r).elim
    | some _ => exact r


theorem KV.val {kvs : List (κ × V)} {vs : List (κ × Value)} (r : KV kvs vs) (k : κ) : RelO (valV kvs k) (valueAt vs k) := by
  unfold KV at r
  induction r with
  | nil => exact True.intro
  | @cons p q ps qs h t ih =>
    obtain ⟨h1, h2⟩ := h
    by_cases e : p.1 = k
    · have e' : q.1 = k := h1.symm.trans e
      have b : valueAt (q :: qs) k = some q.2 := by simp [valueAt, List.find?_cons, e']
      rw [valV_pos e, b]; exact h2
    · have e' : ¬ q.1 = k := fun z => e (h1.trans z)
      have b : valueAt (q :: qs) k = valueAt qs k := by simp [valueAt, List.find?_cons, e']
      rw [valV_neg e, b]; exact ih
theorem KV.any {kvs : List (κ × V)} {vs : List (κ × Value)} (r : KV kvs vs) (k : κ) : (kvs.any fun kv => decide (kv.1 = k)) = vs.any fun kv => decide (kv.1 = k) := by
  unfold KV at r
  induction r with
  | nil => rfl
  | cons h t ih => rw [List.any_cons, List.any_cons, ih, h.1]
theorem KV.drop {kvs : List (κ × V)} {vs : List (κ × Value)} (r : KV kvs vs) (k : κ) : KV (dropK kvs k) (without vs k) := by
  unfold KV at r ⊢
  unfold dropK without
  induction r with
  | nil => exact .nil
  | @cons p q ps qs h t ih =>
    obtain ⟨h1, h2⟩ := h
    rw [List.filter_cons, List.filter_cons]
    by_cases e : p.1 = k
    · have a : ¬ decide (p.1 ≠ k) = true := by simp [e]
      have b : ¬ decide (q.1 ≠ k) = true := by simp [h1.symm.trans e]
      rw [if_neg a, if_neg b]; exact ih
    · have e' : ¬ q.1 = k := fun z => e (h1.trans z)
      have a : decide (p.1 ≠ k) = true := by simp [e]
      have b : decide (q.1 ≠ k) = true := by simp [e']
      rw [if_pos a, if_pos b]; exact .cons ⟨h1, h2⟩ ih
theorem KV.length {kvs : List (κ × V)} {vs : List (κ × Value)} (r : KV kvs vs) : kvs.length = vs.length := Paired.length r
end



abbrev KT (H : Hp) : List (List Key × V) → List (List Key × Addr × Value) → Prop := Paired fun p q => p.1 = q.1 ∧ H q.2.1 = some (.tup (p.1.map kV)) ∧ RelV p.2 q.2.2
theorem KT.val {H : Hp} {kvs : List (List Key × V)} {xs : List (List Key × Addr × Value)} (r : KT H kvs xs) (k : List Key) : RelO (valV kvs k) ((atKey xs k).map (·.2)) := by
  induction r with
  | nil => exact True.intro
  | @cons p q ps qs h t ih =>
    obtain ⟨h1, _, h2⟩ := h
    by_cases e : p.1 = k
    · have e' : q.1 = k := h1.symm.trans e
      have b : atKey (q :: qs) k = some q.2 := by simp [atKey, List.find?_cons, e']
      rw [valV_pos e, b]; exact h2
    · have e' : ¬ q.1 = k := fun z => e (h1.trans z)
      have b : atKey (q :: qs) k = atKey qs k := by simp [atKey, List.find?_cons, e']
      rw [valV_neg e, b]; exact ih
theorem KT.keeps {H H' : Hp} {kvs : List (List Key × V)} {xs : List (List Key × Addr × Value)} (r : KT H kvs xs) (ht : ∀ b ys, H b = some (.tup ys) → H' b = some (.tup ys)) : KT H' kvs xs :=
  Paired.mapP r fun _ _ z => ⟨z.1, ht _ _ z.2.1, z.2.2⟩

section
variable {P : Program} {w : World} {H : Hp} {h : Heap} {a : Addr}
end


def DGet (H : Hp) (a : Addr) (y : V) (r : Option V) : Prop :=
  (∃ kvs k, Rd H a (.dK kvs) ∧ y = kV k ∧ r = valV kvs k) ∨ ∃ kvs k b, Rd H a (.dT kvs) ∧ y = .ref b ∧ H b = some (.tup (k.map kV)) ∧ r = valV kvs k

def DPut (H : Hp) (a : Addr) (y v : V) (H' : Hp) : Prop :=
  (∃ kvs k, H a = some (.dK kvs) ∧ y = kV k ∧ kvs.length < sizeLine ∧ H' = upd H a (.dK (putK kvs k v))) ∨
  ∃ kvs k b, H a = some (.dT kvs) ∧ y = .ref b ∧ H b = some (.tup (k.map kV)) ∧ kvs.length < sizeLine ∧ H' = upd H a (.dT (putK kvs k v))
theorem DGet.k {H : Hp} {a : Addr} {kvs : List (Key × V)} {k : Key} (e : H a = some (.dK kvs)) : DGet H a (kV k) (valV kvs k) := .inl ⟨kvs, k, .inl e, rfl, rfl⟩
theorem DGet.t {H : Hp} {a b : Addr} {kvs : List (List Key × V)} {k : List Key} (e : H a = some (.dT kvs)) (eb : H b = some (.tup (k.map kV))) : DGet H a (.ref b) (valV kvs k) := .inr ⟨kvs, k, b, .inl e, rfl, eb, rfl⟩
theorem DPut.k {H : Hp} {a : Addr} {kvs : List (Key × V)} {k : Key} {v : V} (e : H a = some (.dK kvs)) (hl : kvs.length < sizeLine) : DPut H a (kV k) v (upd H a (.dK (putK kvs k v))) := .inl ⟨kvs, k, e, rfl, hl, rfl⟩
theorem DPut.t {H : Hp} {a b : Addr} {kvs : List (List Key × V)} {k : List Key} {v : V} (e : H a = some (.dT kvs)) (eb : H b = some (.tup (k.map kV))) (hl : kvs.length < sizeLine) :
    DPut H a (.ref b) v (upd H a (.dT (putK kvs k v))) := .inr ⟨kvs, k, b, e, rfl, eb, hl, rfl⟩


section
variable {X : Cx} {pins : List (Addr × Obj)} {σ : St} {H : Hp} {s : Shared} {a : Addr} {y v : V} {u r : Value} {o : Option V} {A : Around} {E : Value → Shared → Prop}

theorem Inv.big (I : Inv X pins σ H s) : sysModules < s.heap.objs.size := by
  have h : mainGlobals < s.heap.objs.size := (I.mod.glob.keeps I.bk).lt
  exact Nat.lt_trans (by decide) h


end

section
variable {X : Cx} {pins : List (Addr × Obj)} {σ : St} {H : Hp} {s : Shared} {a : Addr} {kvs : List (Key × V)} {k : Key} {u : Value} {A : Around} {E : Value → Shared → Prop}

end




def tDGet (td ty : TE) : TE := fun σ H Q => td σ H fun x H1 => ty σ H1 fun y H2 => ∃ a v, x = .ref a ∧ DGet H2 a y (some v) ∧ Q v H2

def tDIn (ty td : TE) : TE := fun σ H Q => ty σ H fun y H1 => td σ H1 fun x H2 => ∃ a o, x = .ref a ∧ DGet H2 a y o ∧ Q (.bl o.isSome) H2
def tDNotIn (ty td : TE) : TE := fun σ H Q => ty σ H fun y H1 => td σ H1 fun x H2 => ∃ a o, x = .ref a ∧ DGet H2 a y o ∧ Q (.bl (!o.isSome)) H2

def sDPut (td ty tv : TE) : TS := fun D σ H => tv σ H fun v H1 => td σ H1 fun x H2 => ty σ H2 fun y H3 => ∃ a H4, x = .ref a ∧ DPut H3 a y v H4 ∧ D.nx σ H4

section
variable {X : Cx} {o i e value : Expr} {pos pos' tpos : Pos} {td ty tv : TE}
end



def tDNewK : TE := fun _ H Q => ∀ p, H p = none → Q (.ref p) (upd H p (.dK []))
def tDNewT : TE := fun _ H Q => ∀ p, H p = none → Q (.ref p) (upd H p (.dT []))
section
variable {X : Cx} {pos : Pos}
end


structure M1 (X : Cx) (o : Expr) (m : Str) (apos : Pos) (e : Expr) (cpos : Pos) : Prop where
  base : attributeBase o m X.env (eval o X.env) = eval o X.env
  few : ((backTo cpos (starEach [e] X.env)).all (fun x => !x.1) && (backToKw cpos (keywordEach [] X.env)).all (fun x => x.1.isSome)
    && decide (([e] : List Expr).length + ([] : List Keyword).length + (if ([] : List Keyword).isEmpty then 0 else 1) < 30)) = true
  line : (apos.endLine == cpos.line) = true
  trees : backTo cpos (starEach [e] X.env) = [(false, eval e X.env)]
structure M2 (X : Cx) (o : Expr) (m : Str) (apos : Pos) (e f : Expr) (cpos : Pos) : Prop where
  base : attributeBase o m X.env (eval o X.env) = eval o X.env
  few : ((backTo cpos (starEach [e, f] X.env)).all (fun x => !x.1) && (backToKw cpos (keywordEach [] X.env)).all (fun x => x.1.isSome)
    && decide (([e, f] : List Expr).length + ([] : List Keyword).length + (if ([] : List Keyword).isEmpty then 0 else 1) < 30)) = true
  line : (apos.endLine == cpos.line) = true
  trees : backTo cpos (starEach [e, f] X.env) = [(false, eval e X.env), (false, eval f X.env)]


def IsD (H : Hp) (a : Addr) : Prop := (∃ kvs, Rd H a (.dK kvs)) ∨ ∃ kvs, Rd H a (.dT kvs)
section
variable {X : Cx} {pins : List (Addr × Obj)} {σ : St} {H : Hp} {s : Shared} {a : Addr} {y d : V} {u r : Value} {o : Option V} {A : Around} {E : Value → Shared → Prop}

end

section
variable {X : Cx} {o e f : Expr} {apos cpos : Pos} {td ty tx : TE}
end


section
variable {κ : Type} [DecidableEq κ]
end
end L2


set_option Elab.async false
set_option linter.all false
set_option maxRecDepth 100000
set_option maxHeartbeats 1000000

namespace L2
open PySem PySem.Spec PyProof.Rows PySem.W PySem.Calls
section
variable {X : Cx}
def rSortD : List V → Hp → VK → Prop := fun xs H Q => ∃ (d : Addr) (kvs : List (Key × V)) (ns : List Int), xs = [.ref d] ∧ H d = some (.dK kvs) ∧ kvs.map (·.1) = ns.map Sum.inl ∧ ns.length < 64 ∧
  ∀ (ns' : List Int) (l : Addr), ns'.Perm ns → ns'.Pairwise (· ≤ ·) → H l = none → Q (.ref l) (upd H l (.lst (ns'.map V.int)))
end
end L2


set_option Elab.async false
set_option linter.all false
set_option maxRecDepth 100000
set_option maxHeartbeats 1000000

namespace L2
open PySem PySem.Spec PyProof.Rows PySem.W
section
variable {X : Cx}
def rCatU : R2 := fun x y H Q => ∃ (a b : Addr) (xs ys : List V), x = .ref a ∧ y = .ref b ∧ H a = some (.tup xs) ∧ H b = some (.tup ys) ∧ xs.length + ys.length ≤ sizeLine ∧ ∀ (p : Addr) H', Same H H' → H' p = some (.tup (xs ++ ys)) → Q (.ref p) H'
def rSlV : V → Option Int → Option Int → Hp → VK → Prop := fun x lo hi H Q => ∃ a xs, x = .ref a ∧ H a = some (.tup xs) ∧ ∀ p H', Same H H' → H' p = some (.tup (cutV xs lo hi)) → Q (.ref p) H'
def rCatK (K : Frag) : R2 := fun x y H Q => ∃ (a b : Addr) (xs ys : List V), x = .ref a ∧ y = .ref b ∧ SqL K H a xs ∧ SqL K H b ys ∧ xs.length + ys.length ≤ sizeLine ∧ ∀ p, H p = none → Q (.ref p) (upd H p (.lst (xs ++ ys)))
end
end L2


set_option Elab.async false
set_option linter.all false
set_option maxRecDepth 100000
set_option maxHeartbeats 1000000

namespace L2
open PySem PySem.Spec PyProof.Rows PySem.W
def sF (r : Addr) (f : Int) (t : Addr) : List (Str × V) := putF "tree" (.ref t) (putF "first" (.int f) (putF "row" (.ref r) []))
def TrisL (H : Hp) (as : List Addr) (L : List (List V)) : Prop := as.length = L.length ∧ ∀ i (h1 : i < as.length) (h2 : i < L.length), H as[i] = some (.tup L[i])
theorem TrisL.same {H H' : Hp} {as : List Addr} {L : List (List V)} (h : TrisL H as L) (s : Same H H') : TrisL H' as L := ⟨h.1, fun i i1 i2 => s _ _ (h.2 i i1 i2)⟩
theorem TrisL.nil {H : Hp} : TrisL H [] [] := ⟨rfl, fun i h => absurd h (by simp)⟩
theorem TrisL.push {H : Hp} {as : List Addr} {L : List (List V)} {u : Addr} {r : List V} (h : TrisL H as L) (hu : H u = some (.tup r)) : TrisL H (as ++ [u]) (L ++ [r]) := by
  refine ⟨by simp [h.1], fun i i1 i2 => ?_⟩
  have hl := h.1
  by_cases e : i < as.length
  · rw [List.getElem_append_left e, List.getElem_append_left (by omega)]; exact h.2 i e (by omega)
  · have : i = as.length := by simp at i1; omega
    subst this
    have e1 : (as ++ [u])[as.length]'i1 = u := by simp
    have e2 : (L ++ [r])[as.length]'i2 = r := by simp [hl]
    rw [e1, e2]; exact hu
def TrisAt (H : Hp) (c : Addr) (L : List (List V)) : Prop := ∃ as : List Addr, H c = some (.lst (as.map V.ref)) ∧ TrisL H as L
theorem TrisAt.same {H H' : Hp} {c : Addr} {L : List (List V)} (h : TrisAt H c L) (s : Same H H') : TrisAt H' c L := by
  obtain ⟨as, h1, h2⟩ := h
  exact ⟨as, s _ _ h1, h2.same s⟩
end L2


set_option Elab.async false
set_option linter.all false
set_option maxRecDepth 100000
set_option maxHeartbeats 1000000

namespace L2
open PySem PySem.Spec PyProof.Rows PySem.W

def ChB (f : Nat → Int) (N p : Nat) : Prop := NoNext f N p ∧ f N < f p ∧ ∀ q, IsPrev f p q → f q ≤ f N
theorem ChB.unique {f : Nat → Int} {N p p' : Nat} (hp : p < N) (hp' : p' < N) (h : ChB f N p) (h' : ChB f N p') : p = p' := by
  have key : ∀ {p p' : Nat}, p < p' → p' < N → ChB f N p → ChB f N p' → False := fun {p p'} hlt hN h h' => by
    rcases prev_or f p' with z | ⟨q, z⟩
    · have := z p hlt; have := h.1 p' hlt hN; omega
    · have h1 := h'.2.2 q z
      have h2 := h.2.1
      rcases Nat.lt_trichotomy q p with w | w | w
      · have := z.2.2 p w hlt; have := h.1 p' hlt hN; omega
      · rw [w] at h1; omega
      · have := h.1 q w (by have := z.1; omega); omega
  rcases Nat.lt_trichotomy p p' with w | w | w
  · exact (key w hp' h h').elim
  · exact w
  · exact (key w hp h' h).elim

def ChA (f : Nat → Int) (N p : Nat) : Prop := NoPrev (fun i => f (i + 1)) p ∧ f 0 ≤ f (p + 1) ∧ ∀ r, IsNext (fun i => f (i + 1)) N p r → f (r + 1) < f 0
def up1 (e : Int) : Int := if e < 0 then e else e + 1
theorem ChA.unique {f : Nat → Int} {N p p' : Nat} (hp : p < N) (hp' : p' < N) (h : ChA f N p) (h' : ChA f N p') : p = p' := by
  have key : ∀ {p p' : Nat}, p < p' → p' < N → ChA f N p → ChA f N p' → False := fun {p p'} hlt hN h h' => by
    rcases next_or (fun i => f (i + 1)) N p with z | ⟨r, z⟩
    · have := z p' hlt hN; have := h'.1 p hlt; dsimp only at *; omega
    · have h1 := h.2.2 r z
      have h2 := h'.2.1
      rcases Nat.lt_trichotomy r p' with w | w | w
      · have := h'.1 r w; dsimp only at *; omega
      · rw [w] at h1; omega
      · have := z.2.2.2 p' hlt w; have := h'.1 p hlt; dsimp only at *; omega
  rcases Nat.lt_trichotomy p p' with w | w | w
  · exact (key w hp' h h').elim
  · exact w
  · exact (key w hp h' h).elim
end L2


set_option Elab.async false
set_option linter.all false
set_option maxRecDepth 100000
set_option maxHeartbeats 1000000

namespace L2
open PySem PySem.Spec PyProof.Rows PySem.W
section
variable {X : Cx} {a : Expr} {ta : TE} {pos : Pos}
def tMethX (C : Addr) (m : Str) (sp : Sp) (E : St → XK) (ta : TE) (t : TA) : TE := fun σ H Q => ta σ H fun x H1 => ∃ a dx fs, x = .ref a ∧ H1 a = some (.ins C dx fs) ∧ fs.lookup m = none ∧ t σ H1 fun vs H2 => sp (x :: vs) H2 Q (E σ)
end

end L2


set_option Elab.async false
set_option linter.all false
set_option maxRecDepth 100000
set_option maxHeartbeats 1000000
namespace L2
open PySem PySem.Spec PyProof.Rows PySem.W

structure Apart3 (z TI TO i j k a b c : Addr) : Prop where
  own : z ≠ TI ∧ z ≠ TO ∧ z ≠ i ∧ z ≠ j ∧ z ≠ k ∧ TI ≠ TO ∧ TI ≠ i ∧ TI ≠ j ∧ TI ≠ k ∧ TO ≠ i ∧ TO ≠ j ∧ TO ≠ k ∧ i ≠ j ∧ i ≠ k ∧ j ≠ k
  la : a ≠ z ∧ a ≠ TO ∧ a ≠ i ∧ a ≠ j ∧ a ≠ k
  lb : b ≠ z ∧ b ≠ TO ∧ b ≠ i ∧ b ≠ j ∧ b ≠ k
  lc : c ≠ z ∧ c ≠ TO ∧ c ≠ i ∧ c ≠ j ∧ c ≠ k
section
variable {s : Shared} {prog : Program} {w : World} {A : Around} {E : Value → Shared → Prop}
end
section
variable {s : Shared} {prog : Program} {w : World} {A : Around} {E : Value → Shared → Prop}
end

def Itz3 (K : Frag) (a b c : Addr) : It :=
  ⟨fun i H => ∃ xs ys us x y u, SqL K H a xs ∧ SqL K H b ys ∧ SqL K H c us ∧ xs[i]? = some x ∧ ys[i]? = some y ∧ us[i]? = some u,
   fun i H v H' => ∃ p x y u, H p = none ∧ v = .ref p ∧ H' = upd H p (.tup [x, y, u]) ∧ (∀ xs, SqL K H a xs → xs[i]? = some x) ∧ (∀ ys, SqL K H b ys → ys[i]? = some y) ∧ ∀ us, SqL K H c us → us[i]? = some u,
   fun i H => ∃ xs ys us, SqL K H a xs ∧ SqL K H b ys ∧ SqL K H c us ∧ (xs.length ≤ i ∨ ys.length ≤ i ∨ us.length ≤ i)⟩
section
variable {X : Cx}
def iZip3 (K : Frag) (ta : TA) : TI := fun σ H R => ta σ H fun vs H1 => ∃ a b c xs ys us, vs = [.ref a, .ref b, .ref c] ∧ SqL K H1 a xs ∧ SqL K H1 b ys ∧ SqL K H1 c us ∧ R (Itz3 K a b c) H1
end
end L2


set_option Elab.async false
set_option linter.all false
set_option maxRecDepth 100000
set_option maxHeartbeats 1000000
namespace L2
open PySem PySem.Spec PyProof.Rows PySem.W
section
variable {X : Cx}

end
end L2


set_option Elab.async false
set_option linter.all false
set_option maxRecDepth 100000
set_option maxHeartbeats 1000000

namespace L2
open PySem PySem.Spec PyProof.Rows PySem.W
section
variable {prog : Program} {w : World} {A : Around} {E : Value → Shared → Prop} {s : Shared} {z TI TO i1 i2 l1 l2 : Addr} {k1 k2 : Nat} {xs ys : Array Value} {a b : Value}

def IsZipG (h : Heap) (z TI TO : Addr) : Prop := ∃ f0 f1 : Value, (f0 = .none ∨ ∃ T : Nat, f0 = rawInt T) ∧ h.get? z = some { cls := .type "zip", dict := none, data := .fields #[f0, f1, .bool false, .ref TI, .ref TO], slots := #[] }
theorem IsZipG.type (hz : IsZipG s.heap z TI TO) : s.TypeIs (.ref z) "zip" := by obtain ⟨f0, f1, _, e⟩ := hz; exact ⟨_, e, rfl⟩
end
section
variable {X : Cx} {pins : List (Addr × Obj)} {σ : St} {H : Hp} {s : Shared}

def Itez (K : Frag) (t u : Bool) (a b : Addr) : It :=
  ⟨fun i H => ∃ xs ys x y, SqB K t H a xs ∧ SqB K u H b ys ∧ xs[i]? = some x ∧ ys[i]? = some y,
   fun i H v H' => ∃ p q x y, H p = none ∧ H q = none ∧ q ≠ p ∧ v = .ref q ∧ H' = upd (upd H p (.tup [x, y])) q (.tup [.int (i : Int), .ref p]) ∧ (∀ xs, SqB K t H a xs → xs[i]? = some x) ∧ ∀ ys, SqB K u H b ys → ys[i]? = some y,
   fun i H => ∃ xs ys, SqB K t H a xs ∧ SqB K u H b ys ∧ (xs.length ≤ i ∨ ys.length ≤ i)⟩
def iEnumZ (K : Frag) (ta : TA) : TI := fun σ H R => ta σ H fun vs H1 => ∃ a b t u xs ys, vs = [.ref a, .ref b] ∧ SqB K t H1 a xs ∧ SqB K u H1 b ys ∧ R (Itez K t u a b) H1
end
end L2


set_option Elab.async false
set_option linter.all false
set_option maxRecDepth 100000
set_option maxHeartbeats 1000000

namespace L2
open PySem PySem.Spec PyProof.Rows PySem.W
section
variable {X : Cx}
end
end L2


set_option Elab.async false
set_option linter.all false
set_option maxRecDepth 100000
set_option maxHeartbeats 1000000

namespace L2
open PySem PySem.Spec PyProof.Rows PySem.W PySem.Calls

def ValsAt (h : Heap) (d : Addr) (vs : List Value) (ep : Nat) : Prop := ∃ (o : Obj) (es : Array DictEntry), h.get? d = some o ∧ o.cls = .type "dict" ∧ o.data = .dict es ep ∧ es.toList.map (·.val) = vs
theorem ValsAt.lt {h : Heap} {d : Addr} {vs : List Value} {ep : Nat} (x : ValsAt h d vs ep) : d < h.objs.size := let ⟨_, _, a, _⟩ := x; Heap.lt_size a
section
variable {prog : Program} {w : World} {A : Around} {E : Value → Shared → Prop} {s : Shared} {va dd ja : Addr} {vs : List Value} {ep i : Nat}
end
section
variable {prog : Program} {w : World} {K : Type} [DecidableEq K] {knd : HeapKind prog w K} {A : Around} {E : Value → Shared → Prop} {s : Shared} {dd ka : Addr} {k : K} {xs : List (K × Addr × Value)} {df : Value}
end
section
variable {X : Cx} {o e f : Expr} {apos cpos : Pos} {td ty tx : TE}

def tDSetD (td ty tx : TE) : TE := fun σ H Q => td σ H fun x H1 => ∃ a, x = .ref a ∧ IsD H1 a ∧ ty σ H1 fun y H2 => tx σ H2 fun z H3 => ∃ kvs k b, H3 a = some (.dT kvs) ∧ y = .ref b ∧ H3 b = some (.tup (k.map kV)) ∧ kvs.length < sizeLine ∧
  (∀ v, valV kvs k = some v → Q v H3) ∧ (valV kvs k = none → Q z (upd H3 a (.dT (kvs ++ [(k, z)]))))
end
section
variable {X : Cx} {o : Expr} {apos cpos : Pos} {td : TE}

def ViewOf (v d : Addr) : Heap → Prop := fun h => h.IsValuesView v d
def tDVals (td : TE) : TE := fun σ H Q => td σ H fun x H1 => ∃ a kvs, x = .ref a ∧ H1 a = some (.dT kvs) ∧ ∀ v, H1 v = none → Q (.ref v) (upd H1 v (.ext (ViewOf v a)))
def rLVals : List V → Hp → VK → Prop := fun xs H Q => ∃ (v a : Addr) (kvs : List (List Key × V)), xs = [.ref v] ∧ H v = some (.ext (ViewOf v a)) ∧ H a = some (.dT kvs) ∧ ∀ l, H l = none → Q (.ref l) (upd H l (.lst (kvs.map (·.2))))
end

def rNInD (K : Frag) : R2 := fun x y H Q => ∃ (q p : Addr) (as : List Addr) (e : Addr → Bool), x = .ref q ∧ y = .ref p ∧ SqL K H p (as.map V.ref) ∧ (∀ a ∈ as, EqD K H 3 (.ref a) x (e a)) ∧ Q (.bl (!as.any e)) H
end L2


set_option Elab.async false
set_option linter.all false
set_option maxRecDepth 100000
set_option maxHeartbeats 1000000
namespace L2
open PySem PySem.Spec PyProof.Rows PySem.W

def cdOf (K : Frag) (f : Addr) : Option Addr := match K.lookup f with
  | some ⟨_, _, .func fd, _⟩ => (match fd.code with | .ref c => some c | _ => none)
  | _ => none
def tabOf (K : Frag) (c : Addr) : Addr := match K.lookup c with
  | some ⟨_, _, .fields vs, _⟩ => (match (vs[11]? : Option Value) with | some (.ref P) => P | _ => 0)
  | _ => 0

def tabP (K : Frag) (mg : Str → Option Value) (x : Str) : Addr := match mg x with
  | some (.ref f) => (match cdOf K f with | some c => tabOf K c | none => 0)
  | _ => 0
def tabQ (q : Str) : HO := .tbl #[.str q 0]
def BM (mg : Str → Option Value) (base : Heap) : Prop :=
  ∃ bm o, mg "__builtins__" = some (.ref bm) ∧ bm ≠ builtinsNs ∧ bm ≠ mainGlobals ∧ base.get? bm = some o ∧ o.cls = .type "module" ∧ o.dict = some builtinsNs ∧ o.data = .plain

def LamO (env : Env) (P : Addr) (q : Str) (params : Arguments) (body : Expr) (scope : Scope) (H : Hp) (f : Addr) : Prop :=
  ∃ c oc vs t cl pm ctv, H f = some (.frz (kla_obj "<lambda>" q params body scope cl pm c ctv) (.own f)) ∧ H c = some (.frz oc (.own P)) ∧ oc.data = .fields vs ∧ vs[1]? = some (.str q t) ∧
    (∀ x c, cl.lookup x = some c → env.cells.lookup x = some c) ∧ (∀ y ∈ scope.names, y.2 = .free → ∃ c, cl.lookup y.1 = some c ∧ env.cells.lookup y.1 = some c)
theorem LamO.same {env : Env} {P : Addr} {q : Str} {params : Arguments} {body : Expr} {scope : Scope} {H H' : Hp} {f : Addr} (h : LamO env P q params body scope H f) (s : Same H H') : LamO env P q params body scope H' f := by
  obtain ⟨c, oc, vs, t, cl, pm, ctv, e1, e2, r⟩ := h
  exact ⟨c, oc, vs, t, cl, pm, ctv, s _ _ e1, s _ _ e2, r⟩
structure LamIn (X : Cx) (P : Addr) (q : Str) : Prop where
  code : ∃ c, X.env.code = .ref c ∧ codeHdIn X.K c P = true
  bm : BM X.mg X.base
  ql : X.env.qual ++ "<lambda>" = q
section
variable {X : Cx}

def tLam (env : Env) (P : Addr) (q : Str) (params : Arguments) (body : Expr) (scope : Scope) : TE := fun _ H Q => H P = some (tabQ q) ∧ ∀ f H', H f = none → Same H H' → LamO env P q params body scope H' f → Q (.ref f) H'
end
end L2


set_option Elab.async false
set_option linter.all false
set_option maxRecDepth 100000
set_option maxHeartbeats 1000000
namespace L2
open PySem PySem.Spec PyProof.Rows PySem.W


section
variable {X : Cx}
structure LamSc (X : Cx) (Nc : List Str) (js : List (Option Nat)) (params : Arguments) (body : Expr) (scope : Scope) (pn : Str) : Prop where
  ok : compOk X.env.scope scope = true
  tk : takesC X.N Nc scope js 0 = true
  p0 : Nc[0]? = some pn
  j0 : js[0]? = some none
  pl : scope.names.lookup pn = some .local
  co : scope.isCoroutine = false
  gen : scope.isGenerator = false
  bd : ∀ (q : Str) (cl : List (Str × Addr)) (pm cd ctv u : Value), bindArgs (kla_fn "<lambda>" q params body scope cl pm cd ctv) ⟨[u], []⟩ = pure [(pn, u)]
end

section
variable {prog : Program} {w : World} {A : Around} {E : Value → Shared → Prop} {s : Shared}
end
end L2


set_option Elab.async false
set_option linter.all false
set_option maxRecDepth 100000
set_option maxHeartbeats 1000000
namespace L2
open PySem PySem.Spec PyProof.Rows PySem.W
section
variable {X : Cx}

end

end L2


set_option Elab.async false
set_option linter.all false
set_option maxRecDepth 100000
set_option maxHeartbeats 1000000
namespace L2
open PySem PySem.Spec PyProof.Rows PySem.W

def nats (n : Int) : List Int := (List.range n.toNat).map fun (i : Nat) => (i : Int)
section
variable {X : Cx}
def tSortR1 (ta td : TA) (tb : TE) (js : List (Option Nat)) (env : Env) (P : Addr) (q : Str) (params : Arguments) (body : Expr) (scope : Scope) : TE := fun σ H Q => ta σ H fun vs H1 => td σ H1 fun zs H2 => ∃ (p f : Addr) (n : Int) (kz : Int → Int),
  vs = [.ref p] ∧ zs = [.ref f] ∧ H2 p = some (.rng 0 n) ∧ 0 ≤ n ∧ n < 64 ∧ LamO env P q params body scope H2 f ∧
  (∀ i H3, 0 ≤ i → i < n → Same H2 H3 → tb ((iniC js σ).set 0 (some (.int i))) H3 fun v H4 => v = .int (kz i) ∧ Same H3 H4) ∧
  ∀ (ns : List Int) (l : Addr) (H3 : Hp), ns.Perm (nats n) → (ns.Pairwise fun x y => kz x ≤ kz y) → Same H2 H3 → H2 l = none → H3 l = some (.lst (ns.map V.int)) → Q (.ref l) H3

def tSortR2 (ta td : TA) (tb : TE) (js : List (Option Nat)) (env : Env) (P : Addr) (q : Str) (params : Arguments) (body : Expr) (scope : Scope) : TE := fun σ H Q => ta σ H fun vs H1 => td σ H1 fun zs H2 => ∃ (p f : Addr) (n : Int) (kz : Int → Int),
  vs = [.ref p] ∧ zs = [.ref f, .bl true] ∧ H2 p = some (.rng 0 n) ∧ 0 ≤ n ∧ n < 64 ∧ LamO env P q params body scope H2 f ∧
  (∀ i H3, 0 ≤ i → i < n → Same H2 H3 → tb ((iniC js σ).set 0 (some (.int i))) H3 fun v H4 => v = .int (kz i) ∧ Same H3 H4) ∧
  ∀ (ns : List Int) (l : Addr) (H3 : Hp), ns.Perm (nats n) → (ns.Pairwise fun x y => kz y ≤ kz x) → Same H2 H3 → H2 l = none → H3 l = some (.lst (ns.map V.int)) → Q (.ref l) H3
end
end L2


set_option Elab.async false
set_option linter.all false
set_option maxRecDepth 100000
set_option maxHeartbeats 1000000
namespace L2
open PySem PySem.Spec PyProof.Rows PySem.W

def lamQ (x : Str) : Str := (x ++ ".<locals>.") ++ "<lambda>"

def TabH (K : Frag) (mg : Str → Option Value) (x : Str) (H : Hp) : Prop := H (tabP K mg x) = some (tabQ (lamQ x))
theorem TabH.same {K : Frag} {mg : Str → Option Value} {x : Str} {H H' : Hp} (h : TabH K mg x H) (s : Same H H') : TabH K mg x H' := s _ _ h
section
variable {P : Program} {w : World} {K : Frag} {mg : Str → Option Value} {base : Heap}
end
end L2


set_option Elab.async false
set_option linter.all false
set_option maxRecDepth 100000
set_option maxHeartbeats 1000000
namespace L2
open PySem PySem.Spec PyProof.Rows PySem.W
section
variable {X : Cx}

def rMin1 (K : Frag) : List V → Hp → VK → Prop := fun xs H Q => ∃ (p : Addr) (ns : List Int), xs = [.ref p] ∧ SqL K H p (ns.map V.int) ∧ ns ≠ [] ∧ ∀ m, m ∈ ns → (∀ a ∈ ns, m ≤ a) → Q (.int m) H
def rMax1 (K : Frag) : List V → Hp → VK → Prop := fun xs H Q => ∃ (p : Addr) (ns : List Int), xs = [.ref p] ∧ SqL K H p (ns.map V.int) ∧ ns ≠ [] ∧ ∀ m, m ∈ ns → (∀ a ∈ ns, a ≤ m) → Q (.int m) H
end
end L2


set_option Elab.async false
set_option linter.all false
set_option maxRecDepth 100000
set_option maxHeartbeats 1000000
namespace L2
open PySem PySem.Spec PyProof.Rows PySem.W

def BestK (kz : Int → Int) (ns : List Int) (m i : Nat) : Prop := ∀ j, j < m → kz (nth ns j) ≤ kz (nth ns i) ∧ (j < i → kz (nth ns j) < kz (nth ns i))
theorem BestK.one (kz : Int → Int) (ns : List Int) : BestK kz ns 1 0 := fun j hj => ⟨by rw [show j = 0 by omega]; exact Int.le_refl _, fun h => absurd h (by omega)⟩
theorem BestK.take {kz : Int → Int} {ns : List Int} {m i : Nat} (h : BestK kz ns m i) (hi : i < m) (c : kz (nth ns m) > kz (nth ns i)) : BestK kz ns (m + 1) m := fun j hj => by
  by_cases e : j = m
  · subst e; exact ⟨Int.le_refl _, fun h => absurd h (by omega)⟩
  · have := (h j (by omega)).1
    exact ⟨by omega, fun _ => by omega⟩
theorem BestK.keep {kz : Int → Int} {ns : List Int} {m i : Nat} (h : BestK kz ns m i) (hi : i < m) (c : ¬ kz (nth ns m) > kz (nth ns i)) : BestK kz ns (m + 1) i := fun j hj => by
  by_cases e : j = m
  · subst e; exact ⟨by omega, fun z => absurd z (by omega)⟩
  · exact h j (by omega)
section
variable {X : Cx}
def tMaxKD (ta td : TA) (tb : TE) (js : List (Option Nat)) (env : Env) (P : Addr) (q : Str) (params : Arguments) (body : Expr) (scope : Scope) : TE := fun σ H Q => ta σ H fun vs H1 => td σ H1 fun zs H2 => ∃ (p f : Addr) (dv : V) (ns : List Int) (kz : Int → Int),
  vs = [.ref p] ∧ zs = [.ref f, dv] ∧ H2 p = some (.lst (ns.map V.int)) ∧ LamO env P q params body scope H2 f ∧
  (∀ n H3, n ∈ ns → Same H2 H3 → tb ((iniC js σ).set 0 (some (.int n))) H3 fun v H4 => v = .int (kz n) ∧ Same H3 H4) ∧
  (ns = [] → ∀ H3, Same H2 H3 → Q dv H3) ∧ ∀ i H3, i < ns.length → BestK kz ns ns.length i → Same H2 H3 → Q (.int (nth ns i)) H3
end
def LeastK (kz : Int → Int) (ns : List Int) (m i : Nat) : Prop := ∀ j, j < m → kz (nth ns i) ≤ kz (nth ns j) ∧ (j < i → kz (nth ns i) < kz (nth ns j))
theorem LeastK.one (kz : Int → Int) (ns : List Int) : LeastK kz ns 1 0 := fun j hj => ⟨by rw [show j = 0 by omega]; exact Int.le_refl _, fun h => absurd h (by omega)⟩
theorem LeastK.take {kz : Int → Int} {ns : List Int} {m i : Nat} (h : LeastK kz ns m i) (hi : i < m) (c : kz (nth ns m) < kz (nth ns i)) : LeastK kz ns (m + 1) m := fun j hj => by
  by_cases e : j = m
  · subst e; exact ⟨Int.le_refl _, fun h => absurd h (by omega)⟩
  · have := (h j (by omega)).1
    exact ⟨by omega, fun _ => by omega⟩
theorem LeastK.keep {kz : Int → Int} {ns : List Int} {m i : Nat} (h : LeastK kz ns m i) (hi : i < m) (c : ¬ kz (nth ns m) < kz (nth ns i)) : LeastK kz ns (m + 1) i := fun j hj => by
  by_cases e : j = m
  · subst e; exact ⟨by omega, fun z => absurd z (by omega)⟩
  · exact h j (by omega)
section
variable {X : Cx}
def tMinKD (ta td : TA) (tb : TE) (js : List (Option Nat)) (env : Env) (P : Addr) (q : Str) (params : Arguments) (body : Expr) (scope : Scope) : TE := fun σ H Q => ta σ H fun vs H1 => td σ H1 fun zs H2 => ∃ (p f : Addr) (dv : V) (ns : List Int) (kz : Int → Int),
  vs = [.ref p] ∧ zs = [.ref f, dv] ∧ H2 p = some (.lst (ns.map V.int)) ∧ LamO env P q params body scope H2 f ∧
  (∀ n H3, n ∈ ns → Same H2 H3 → tb ((iniC js σ).set 0 (some (.int n))) H3 fun v H4 => v = .int (kz n) ∧ Same H3 H4) ∧
  (ns = [] → ∀ H3, Same H2 H3 → Q dv H3) ∧ ∀ i H3, i < ns.length → LeastK kz ns ns.length i → Same H2 H3 → Q (.int (nth ns i)) H3
end
end L2


set_option Elab.async false
set_option linter.all false
set_option maxRecDepth 100000
set_option maxHeartbeats 1000000
namespace L2
open PySem PySem.Spec PyProof.Rows PySem.W

section
variable {prog : Program} {w : World} {A : Around} {E : Value → Shared → Prop} {s : Shared}
end
section
variable {X : Cx}

def gLst (K : PySem.W.Frag) (n : Nat) (t : TGs) : TG := fun v σ H Q => ∃ a xs, v = .ref a ∧ SqL K H a xs ∧ xs.length = n ∧ t xs σ H Q
def tAsg2 (te : TE) (g g' : TG) : TS := fun D σ H => te σ H fun x H1 => g x σ H1 fun σ1 H2 => g' x σ1 H2 D.nx
end
end L2


set_option Elab.async false
set_option linter.all false
set_option maxRecDepth 100000
set_option maxHeartbeats 1000000
namespace L2
open PySem PySem.Spec PyProof.Rows PySem.W

inductive EqN (K : Frag) (H : Hp) : Nat → V → V → Bool → Prop
  | flat {n : Nat} {x y : V} (fx : flatV x = true) (fy : flatV y = true) : EqN K H n x y (eqV x y)
  | lst {n : Nat} {a b : Addr} {xs ys : List V} (e : Nat → Bool) (hx : SqL K H a xs) (hy : SqL K H b ys) (hl : xs.length = ys.length) (h : ∀ j x y, xs[j]? = some x → ys[j]? = some y → EqN K H n x y (e j)) : EqN K H (n + 1) (.ref a) (.ref b) ((List.range xs.length).all e)
  | len {n : Nat} {a b : Addr} {xs ys : List V} (hx : SqL K H a xs) (hy : SqL K H b ys) (hl : xs.length ≠ ys.length) : EqN K H (n + 1) (.ref a) (.ref b) false
  | tup {n : Nat} {a b : Addr} {xs ys : List V} (e : Nat → Bool) (hx : SqT K H a xs) (hy : SqT K H b ys) (h : ∀ j x y, xs[j]? = some x → ys[j]? = some y → EqN K H n x y (e j)) : EqN K H (n + 1) (.ref a) (.ref b) ((List.range (min xs.length ys.length)).all e && xs.length == ys.length)
  | nonT {n : Nat} {a : Addr} {xs : List V} (hx : SqT K H a xs) : EqN K H n .non (.ref a) false
  | tNon {n : Nat} {a : Addr} {xs : List V} (hx : SqT K H a xs) : EqN K H n (.ref a) .non false
section
variable {X : Cx} {pins : List (Addr × Obj)} {σ : St} {H : Hp} {s : Shared}
end
def rEqN (K : Frag) (neg : Bool) : R2 := fun x y H Q => ∃ a b k, x = .ref a ∧ y = .ref b ∧ EqN K H 3 x y k ∧ Q (.bl (if neg then !k else k)) H
section
variable {X : Cx}
end
end L2


set_option Elab.async false
set_option linter.all false
set_option maxRecDepth 100000
set_option maxHeartbeats 1000000
namespace L2
open PySem PySem.Spec PyProof.Rows PySem.W

section
variable {prog : Program} {w : World} {A : Around} {E : Value → Shared → Prop} {s : Shared} {κ : SortKind} {P : Keyed → Prop} {ky : Keyed → Int}
def CmpOk (prog : Program) (w : World) (A : Around) (s : Shared) (κ : SortKind) (P : Keyed → Prop) (ky : Keyed → Int) : Prop :=
  ∀ x y, P x → P y → ∀ C : Bool → Shared → Prop, C (decide (ky x < ky y)) s → wpAny (model prog w) A (keyLt' κ x.1 y.1) C (fun _ _ => False) s
theorem sS_lt (hc : CmpOk prog w A s κ P ky) {x y : Keyed} {st : SortSt} {Q : Option Bool → SortSt → Prop} (hk : PyProof.Rows.kindOf st = κ) (hx : P x) (hy : P y) (h : Q (some (decide (ky x < ky y))) st) : wpS (model prog w) A E s (lt' x y) Q st := by
  rw [lt'_eq]
  refine wpS_bind (wpS_get ?_)
  refine wpS_bind (wpS_lift ?_)
  refine wpAny_attempt ?_
  rw [hk]
  refine wpAny_mono (hc x y hx hy (fun b s' => s' = s ∧ b = decide (ky x < ky y)) ⟨rfl, rfl⟩) ?_ (fun _ _ z => z.elim)
  rintro b s' ⟨rfl, rfl⟩
  exact ⟨rfl, wpS_pure h⟩
theorem sS_elem {arr : Array Keyed} {i : Nat} {st : SortSt} {Q : Keyed → SortSt → Prop} (hi : i < arr.size) (h : Q (arr[i]'hi) st) : wpS (model prog w) A E s (elem' arr i) Q st := by
  rw [elem'_eq, getElem?_pos arr i hi]
  exact wpS_pure h
def gallopP : Bool → Keyed → Array Keyed → Nat → Nat → Nat → StateT SortSt Sem (Option Nat) := sortPriv% PySem.Builtin.gallop
theorem sS_gallop {left : Bool} {key : Keyed} {arr : Array Keyed} {base n hint : Nat} {st : SortSt} {Q : Option Nat → SortSt → Prop} {f : Nat → Bool}
    (hc : CmpOk prog w A s κ P ky) (hk : PyProof.Rows.kindOf st = κ) (hkey : P key) (hP : ∀ i, (h : i < arr.size) → P arr[i]) (hn : base + n ≤ arr.size) (hh : hint < n)
    (hf : ∀ i, (h : base + i < arr.size) → f i = if left then decide (ky arr[base + i] < ky key) else !decide (ky key < ky arr[base + i]))
    (hm : ∀ i j, i ≤ j → j < n → f j = true → f i = true)
    (hQ : ∀ r, r ≤ n → (∀ i, i < r → f i = true) → (∀ i, r ≤ i → i < n → f i = false) → Q (some r) st) :
    wpS (model prog w) A E s (gallopP left key arr base n hint) Q st := by
  have hb : ∀ i, i < n → ∀ {R : Option Bool → SortSt → Prop}, R (some (f i)) st → wpS (model prog w) A E s (do
      let x ← elem' arr (base + i)
      if left = true then lt' x key else do
        let c ← lt' key x
        pure (Option.map (fun x => !x) c)) R st := by
    intro i hi R hR
    have hlt : base + i < arr.size := by omega
    refine wpS_bind (sS_elem hlt ?_)
    rw [hf i hlt] at hR
    cases left with
    | true => exact sS_lt hc hk (hP _ hlt) hkey hR
    | false => exact wpS_bind (sS_lt hc hk hkey (hP _ hlt) (wpS_pure hR))
  have hbin : ∀ lo hi, lo ≤ hi → hi ≤ n → (∀ i, i < lo → f i = true) → (∀ i, hi ≤ i → i < n → f i = false) → ∀ (body : Nat → Option (Option Nat) × Nat × Nat → StateT SortSt Sem (ForInStep (Option (Option Nat) × Nat × Nat))) (R : Option (Option Nat) × Nat × Nat → SortSt → Prop),
      (∀ x c, body x c = if c.2.1 ≥ c.2.2 then pure (ForInStep.done (none, c.2.1, c.2.2)) else do
        let r ← (do
          let x ← elem' arr (base + (c.2.1 + (c.2.2 - c.2.1) / 2))
          if left = true then lt' x key else do
            let c ← lt' key x
            pure (Option.map (fun x => !x) c))
        match r with
        | some more => if more = true then pure (ForInStep.yield (none, c.2.1 + (c.2.2 - c.2.1) / 2 + 1, c.2.2)) else pure (ForInStep.yield (none, c.2.1, c.2.1 + (c.2.2 - c.2.1) / 2))
        | x => pure (ForInStep.done (some none, c.2.1, c.2.2))) →
      (∀ r, r ≤ n → (∀ i, i < r → f i = true) → (∀ i, r ≤ i → i < n → f i = false) → R (none, r, r) st) → wpS (model prog w) A E s (forIn [:n] (none, lo, hi) body) R st := by
    intro lo hi hlh hhn h1 h2 body R hbody hR
    refine wpS_forRange (fun t c st' => st' = st ∧ c.1 = none ∧ c.2.1 ≤ c.2.2 ∧ c.2.2 ≤ n ∧ (∀ i, i < c.2.1 → f i = true) ∧ (∀ i, c.2.2 ≤ i → i < n → f i = false) ∧ c.2.2 - c.2.1 ≤ n - t) ?_ ?_ ⟨rfl, rfl, hlh, hhn, h1, h2, by show hi - lo ≤ n - 0; omega⟩
    · rintro t ⟨r, lo, hi⟩ st' _ ht ⟨rfl, e, a1, a2, a3, a4, a5⟩
      rw [hbody]
      simp only at e a1 a2 a3 a4 a5 ⊢
      by_cases hge : lo ≥ hi
      · rw [if_pos hge]
        have : lo = hi := by omega
        subst this
        exact wpS_pure (hR lo a2 a3 a4)
      · rw [if_neg hge]
        refine wpS_bind (hb _ (by omega) ?_)
        cases hv : f (lo + (hi - lo) / 2) with
        | true =>
          refine wpS_pure ⟨rfl, rfl, ?_, a2, ?_, a4, ?_⟩
          · show lo + (hi - lo) / 2 + 1 ≤ hi; omega
          · intro i hi2; exact hm i (lo + (hi - lo) / 2) (by simp only at hi2; omega) (by omega) hv
          · show hi - (lo + (hi - lo) / 2 + 1) ≤ n - (t + 1); omega
        | false =>
          refine wpS_pure ⟨rfl, rfl, ?_, ?_, a3, ?_, ?_⟩
          · show lo ≤ lo + (hi - lo) / 2; omega
          · show lo + (hi - lo) / 2 ≤ n; omega
          · intro i hi2 hi3
            cases hz : f i with
            | false => rfl
            | true => rw [hm (lo + (hi - lo) / 2) i hi2 hi3 hz] at hv; cases hv
          · show lo + (hi - lo) / 2 - lo ≤ n - (t + 1); omega
    · rintro ⟨r, lo, hi⟩ st' ⟨rfl, e, a1, a2, a3, a4, a5⟩
      simp only at e a1 a2 a3 a4 a5
      have : lo = hi := by
        have : max 0 n = n := by omega
        rw [this] at a5; omega
      subst this; subst e
      exact hR lo a2 a3 a4
  refine wpS_bind (hb hint hh ?_)
  cases hv : f hint with
  | true =>
    refine wpS_bind (wpS_mono (Q := fun (c : Option (Option Nat) × Nat × Nat) (st' : SortSt) => st' = st ∧ c.1 = none ∧ hint + c.2.1 < n ∧ c.2.1 < c.2.2 ∧ f (hint + c.2.1) = true ∧ (n - hint ≤ c.2.2 ∨ (hint + c.2.2 < n ∧ f (hint + c.2.2) = false))) (wpS_forRange (fun (t : Nat) (c : Option (Option Nat) × Nat × Nat) (st' : SortSt) => st' = st ∧ c.1 = none ∧ c.2.1 < c.2.2 ∧ hint + c.2.1 < n ∧ f (hint + c.2.1) = true ∧ t + 1 ≤ c.2.2) ?_ ?_ ⟨rfl, rfl, Nat.zero_lt_one, by show hint + 0 < n; omega, hv, Nat.le_refl _⟩) ?_)
    · rintro t ⟨r, lo, of⟩ st' _ ht ⟨rfl, e, a1, a2, a3, a4⟩
      simp only at e a1 a2 a3 a4 ⊢
      split
      · rename_i hge
        exact wpS_pure ⟨rfl, rfl, a2, a1, a3, .inl hge⟩
      · rename_i hge
        refine wpS_bind (hb (hint + of) (by omega) ?_)
        cases hw : f (hint + of) with
        | true => exact wpS_pure ⟨rfl, rfl, by show of < 2 * of + 1; omega, by show hint + of < n; omega, hw, by show t + 1 + 1 ≤ 2 * of + 1; omega⟩
        | false => exact wpS_pure ⟨rfl, rfl, a2, a1, a3, .inr ⟨by show hint + of < n; omega, hw⟩⟩
    · rintro ⟨r, lo, of⟩ st' ⟨rfl, e, a1, a2, a3, a4⟩
      simp only at e a1 a2 a3 a4
      exact ⟨rfl, e, a2, a1, a3, .inl (by show n - hint ≤ of; omega)⟩
    · rintro ⟨r, lo, of⟩ st' ⟨rfl, e, a1, a2, a3, a4⟩
      simp only at e a1 a2 a3 a4 ⊢
      subst e
      refine wpS_bind (hbin (hint + lo + 1) (hint + min of (n - hint)) (by omega) (by omega) ?_ ?_ _ _ (fun x c => rfl) ?_)
      · intro i hi; exact hm i (hint + lo) (by omega) a1 a3
      · intro i h1 h2
        cases hz : f i with
        | false => rfl
        | true =>
          rcases a4 with a4 | ⟨a4, a5⟩
          · omega
          · rw [hm (hint + of) i (by omega) h2 hz] at a5; cases a5
      · intro r h1 h2 h3
        exact wpS_pure (hQ r h1 h2 h3)
  | false =>
    refine wpS_bind (wpS_mono (Q := fun (c : Option (Option Nat) × Nat × Nat) (st' : SortSt) => st' = st ∧ c.1 = none ∧ c.2.1 ≤ hint ∧ c.2.1 < c.2.2 ∧ f (hint - c.2.1) = false ∧ (hint + 1 ≤ c.2.2 ∨ (c.2.2 ≤ hint ∧ f (hint - c.2.2) = true))) (wpS_forRange (fun (t : Nat) (c : Option (Option Nat) × Nat × Nat) (st' : SortSt) => st' = st ∧ c.1 = none ∧ c.2.1 < c.2.2 ∧ c.2.1 ≤ hint ∧ f (hint - c.2.1) = false ∧ t + 1 ≤ c.2.2) ?_ ?_ ⟨rfl, rfl, Nat.zero_lt_one, Nat.zero_le _, hv, Nat.le_refl _⟩) ?_)
    · rintro t ⟨r, lo, of⟩ st' _ ht ⟨rfl, e, a1, a2, a3, a4⟩
      simp only at e a1 a2 a3 a4 ⊢
      split
      · rename_i hge
        exact wpS_pure ⟨rfl, rfl, a2, a1, a3, .inl hge⟩
      · rename_i hge
        refine wpS_bind (hb (hint - of) (by omega) ?_)
        cases hw : f (hint - of) with
        | false => exact wpS_pure ⟨rfl, rfl, by show of < 2 * of + 1; omega, by show of ≤ hint; omega, hw, by show t + 1 + 1 ≤ 2 * of + 1; omega⟩
        | true => exact wpS_pure ⟨rfl, rfl, a2, a1, a3, .inr ⟨by show of ≤ hint; omega, hw⟩⟩
    · rintro ⟨r, lo, of⟩ st' ⟨rfl, e, a1, a2, a3, a4⟩
      simp only at e a1 a2 a3 a4
      exact ⟨rfl, e, a2, a1, a3, .inl (by show hint + 1 ≤ of; omega)⟩
    · rintro ⟨r, lo, of⟩ st' ⟨rfl, e, a1, a2, a3, a4⟩
      simp only at e a1 a2 a3 a4 ⊢
      subst e
      refine wpS_bind (hbin (hint + 1 - min of (hint + 1)) (hint - lo) (by omega) (by omega) ?_ ?_ _ _ (fun x c => rfl) ?_)
      · intro i hi
        rcases a4 with a4 | ⟨a4, a5⟩
        · omega
        · exact hm i (hint - of) (by omega) (by omega) a5
      · intro i h1 h2
        cases hz : f i with
        | false => rfl
        | true => rw [hm (hint - lo) i (by omega) h2 hz] at a3; cases a3
      · intro r h1 h2 h3
        exact wpS_pure (hQ r h1 h2 h3)
end
section
variable {ky : Keyed → Int}
def Srt (ky : Keyed → Int) (l : List Keyed) : Prop := l.Pairwise (fun x y => ky x ≤ ky y)
structure Mg (ky : Keyed → Int) (a b : List Keyed) (out : List Keyed) (ia ib : Nat) : Prop where
  perm : out.Perm (a.take ia ++ b.take ib)
  srt : Srt ky out
  le : ∀ x, x ∈ out → ∀ y, y ∈ a.drop ia ∨ y ∈ b.drop ib → ky x ≤ ky y
variable {a b out : List Keyed} {ia ib : Nat}
theorem Mg.swap (h : Mg ky a b out ia ib) : Mg ky b a out ib ia := ⟨h.perm.trans List.perm_append_comm, h.srt, fun x hx y hy => h.le x hx y hy.symm⟩
theorem Mg.stepA (ha : Srt ky a) (h : Mg ky a b out ia ib) (hia : ia < a.length) (hle : ∀ y, y ∈ b.drop ib → ky a[ia] ≤ ky y) : Mg ky a b (out ++ [a[ia]]) (ia + 1) ib := by
  have e : a.drop ia = a[ia] :: a.drop (ia + 1) := List.drop_eq_getElem_cons hia
  have hs : ∀ y, y ∈ a.drop (ia + 1) → ky a[ia] ≤ ky y := by
    have : Srt ky (a.drop ia) := List.Pairwise.sublist (List.drop_sublist _ _) ha
    rw [e] at this
    exact (List.pairwise_cons.mp this).1
  refine ⟨?_, ?_, ?_⟩
  · have et : a.take (ia + 1) = a.take ia ++ [a[ia]] := by rw [List.take_add_one, List.getElem?_eq_getElem hia]; rfl
    rw [et, List.append_assoc]
    refine (List.Perm.append_right [a[ia]] h.perm).trans ?_
    rw [List.append_assoc]
    exact List.Perm.append_left _ List.perm_append_comm
  · refine List.pairwise_append.mpr ⟨h.srt, List.pairwise_singleton _ _, ?_⟩
    intro x hx y hy
    rw [List.mem_singleton] at hy; subst hy
    exact h.le x hx _ (.inl (by rw [e]; exact List.mem_cons_self))
  · intro x hx y hy
    rcases List.mem_append.mp hx with hx | hx
    · refine h.le x hx y ?_
      rcases hy with hy | hy
      · exact .inl (by rw [e]; exact List.mem_cons_of_mem _ hy)
      · exact .inr hy
    · rw [List.mem_singleton] at hx; subst hx
      rcases hy with hy | hy
      · exact hs y hy
      · exact hle y hy
theorem Mg.bulkA (ha : Srt ky a) (h : Mg ky a b out ia ib) : ∀ k, ia + k ≤ a.length → (∀ i, (hi : ia + i < a.length) → i < k → ∀ y, y ∈ b.drop ib → ky a[ia + i] ≤ ky y) → Mg ky a b (out ++ (a.drop ia).take k) (ia + k) ib
  | 0, _, _ => by simpa using h
  | k + 1, hk, hle => by
    have h2 := (Mg.bulkA ha h k (by omega) fun i hi hik => hle i hi (by omega)).stepA ha (by omega) (hle k (by omega) (by omega))
    have : (a.drop ia).take (k + 1) = (a.drop ia).take k ++ [a[ia + k]] := by
      rw [List.take_add_one, List.getElem?_drop, List.getElem?_eq_getElem (by omega : ia + k < a.length)]; rfl
    rw [this, ← List.append_assoc]
    exact h2
theorem Mg.stepB (hb : Srt ky b) (h : Mg ky a b out ia ib) (hib : ib < b.length) (hle : ∀ y, y ∈ a.drop ia → ky b[ib] ≤ ky y) : Mg ky a b (out ++ [b[ib]]) ia (ib + 1) := (h.swap.stepA hb hib hle).swap
theorem Mg.bulkB (hb : Srt ky b) (h : Mg ky a b out ia ib) (k : Nat) (hk : ib + k ≤ b.length) (hle : ∀ i, (hi : ib + i < b.length) → i < k → ∀ y, y ∈ a.drop ia → ky b[ib + i] ≤ ky y) : Mg ky a b (out ++ (b.drop ib).take k) ia (ib + k) := (h.swap.bulkA hb k hk hle).swap
theorem srt_drop (ha : Srt ky a) (hi : ia < a.length) {y : Keyed} (hy : y ∈ a.drop ia) : ky a[ia] ≤ ky y := by
  have : Srt ky (a.drop ia) := List.Pairwise.sublist (List.drop_sublist _ _) ha
  rw [List.drop_eq_getElem_cons hi] at this hy
  rcases List.mem_cons.mp hy with hy | hy
  · subst hy; exact Int.le_refl _
  · exact (List.pairwise_cons.mp this).1 y hy
def Gd (ky : Keyed → Int) (a b res : List Keyed) : Prop := res.Perm (a ++ b) ∧ Srt ky res
theorem Mg.doneB (ha : Srt ky a) (h : Mg ky a b out ia ib) (hib : b.length ≤ ib) : Gd ky a b (out ++ a.drop ia) := by
  refine ⟨?_, List.pairwise_append.mpr ⟨h.srt, List.Pairwise.sublist (List.drop_sublist _ _) ha, fun x hx y hy => h.le x hx y (.inl hy)⟩⟩
  refine (List.Perm.append_right _ h.perm).trans ?_
  rw [List.take_of_length_le hib, List.append_assoc]
  refine (List.Perm.append_left _ List.perm_append_comm).trans ?_
  rw [← List.append_assoc, List.take_append_drop]
theorem Mg.doneA (hb : Srt ky b) (h : Mg ky a b out ia ib) (hia : a.length ≤ ia) : Gd ky a b (out ++ b.drop ib) := by
  have := h.swap.doneB hb hia
  exact ⟨this.1.trans List.perm_append_comm, this.2⟩
theorem Mg.lastA (ha : Srt ky a) (hb : Srt ky b) (h : Mg ky a b out ia ib) (hl : ∀ y, y ∈ b.drop ib → ∀ z, z ∈ a.drop ia → ky y ≤ ky z) : Gd ky a b (out ++ b.drop ib ++ a.drop ia) := by
  refine ⟨?_, ?_⟩
  · refine (List.Perm.append_right _ (List.Perm.append_right _ h.perm)).trans ?_
    rw [List.append_assoc, List.append_assoc]
    have e1 : a ++ b = a.take ia ++ (a.drop ia ++ (b.take ib ++ b.drop ib)) := by rw [← List.append_assoc, List.take_append_drop, List.take_append_drop]
    rw [e1]
    refine List.Perm.append_left _ ?_
    rw [← List.append_assoc]
    exact List.perm_append_comm
  · refine List.pairwise_append.mpr ⟨List.pairwise_append.mpr ⟨h.srt, List.Pairwise.sublist (List.drop_sublist _ _) hb, fun x hx y hy => h.le x hx y (.inr hy)⟩, List.Pairwise.sublist (List.drop_sublist _ _) ha, ?_⟩
    intro x hx y hy
    rcases List.mem_append.mp hx with hx | hx
    · exact h.le x hx y (.inl hy)
    · exact hl x hx y hy

variable {prog : Program} {w : World} {A : Around} {E : Value → Shared → Prop} {s : Shared} {κ : SortKind} {P : Keyed → Prop}
theorem sS_ite {σ α : Type} {c : Prop} [Decidable c] {m1 m2 : StateT σ Sem α} {Q : α → σ → Prop} {st : σ} {M : Model} (h1 : c → wpS M A E s m1 Q st) (h2 : ¬c → wpS M A E s m2 Q st) : wpS M A E s (if c then m1 else m2) Q st := by
  by_cases h : c
  · rw [if_pos h]; exact h1 h
  · rw [if_neg h]; exact h2 h
def mergeLoP : Array Keyed → Array Keyed → StateT SortSt Sem (Array Keyed) := sortPriv% PySem.Builtin.mergeLo
theorem sS_mergeLo {a b : Array Keyed} {arr : Array Keyed} {pd : Array (Nat × Nat × Nat)} {g : Nat} {fl : Option Value} {Q : Array Keyed → SortSt → Prop}
    (hc : CmpOk prog w A s κ P ky) (hPa : ∀ i, (h : i < a.size) → P a[i]) (hPb : ∀ i, (h : i < b.size) → P b[i]) (ha : Srt ky a.toList) (hb : Srt ky b.toList)
    (ha0 : 0 < a.size) (hb0 : 0 < b.size) (h0 : ky b[0] ≤ ky a[0]) (hl : ∀ j, (h : j < b.size) → ky b[j] ≤ ky (a[a.size - 1]'(by omega)))
    (hQ : ∀ res g', Gd ky a.toList b.toList res.toList → Q res (SortSt.mk' κ arr pd g' fl)) :
    wpS (model prog w) A E s (mergeLoP a b) Q (SortSt.mk' κ arr pd g fl) := by
  refine wpS_bind (wpS_lift (wpAny_rule ⟨rfl, ?_⟩))
  refine wpS_bind (sS_elem hb0 ?_)
  have m0 : Mg ky a.toList b.toList [] 0 0 := ⟨by simp, List.Pairwise.nil, fun x hx => by cases hx⟩
  have hdA : ∀ i, (h : i < a.size) → ∀ y, y ∈ a.toList.drop i → ky a[i] ≤ ky y := fun i h y hy => srt_drop ha (by simpa using h) hy
  have hdB : ∀ i, (h : i < b.size) → ∀ y, y ∈ b.toList.drop i → ky b[i] ≤ ky y := fun i h y hy => srt_drop hb (by simpa using h) hy
  have m1 : Mg ky a.toList b.toList #[b[0]].toList 0 1 := by
    have := m0.stepB hb (by simpa using hb0) (fun y hy => Int.le_trans h0 (hdA 0 ha0 y hy))
    simpa using this
  have exA : ∀ i, (a.extract i).toList = a.toList.drop i := fun i => by simp [Array.toList_extract, List.extract]; exact List.take_of_length_le (by simp)
  have exB : ∀ i, (b.extract i).toList = b.toList.drop i := fun i => by simp [Array.toList_extract, List.extract]; exact List.take_of_length_le (by simp)
  have exA2 : ∀ i k, (a.extract i (i + k)).toList = (a.toList.drop i).take k := fun i k => by simp [Array.toList_extract, List.extract]
  have exB2 : ∀ i k, (b.extract i (i + k)).toList = (b.toList.drop i).take k := fun i k => by simp [Array.toList_extract, List.extract]
  have hdone : ∀ (out : Array Keyed) ia ib, Mg ky a.toList b.toList out.toList ia ib → b.size ≤ ib → Gd ky a.toList b.toList (out ++ a.extract ia ++ b.extract ib).toList := by
    intro out ia ib m h
    rw [Array.toList_append, Array.toList_append, exA, exB, List.drop_of_length_le (l := b.toList) (by simpa using h), List.append_nil]
    exact m.doneB ha (by simpa using h)
  have hdone2 : ∀ (out : Array Keyed) ia ib, Mg ky a.toList b.toList out.toList ia ib → a.size ≤ ia → Gd ky a.toList b.toList (out ++ a.extract ia ++ b.extract ib).toList := by
    intro out ia ib m h
    rw [Array.toList_append, Array.toList_append, exA, exB, List.drop_of_length_le (by simpa using h), List.append_nil]
    exact m.doneA hb (by simpa using h)
  have hlast : ∀ (out : Array Keyed) ia ib, Mg ky a.toList b.toList out.toList ia ib → ia + 1 = a.size → Gd ky a.toList b.toList (out ++ b.extract ib ++ a.extract ia).toList := by
    intro out ia ib m h
    rw [Array.toList_append, Array.toList_append, exA, exB]
    refine m.lastA ha hb ?_
    intro y hy z hz
    have hz2 : z = a[ia]'(by omega) := by
      rw [List.drop_eq_getElem_cons (by simp; omega), List.drop_of_length_le (by simp; omega)] at hz
      simpa using hz
    subst hz2
    obtain ⟨j, hj, e⟩ := List.mem_iff_getElem.mp (List.mem_of_mem_drop hy)
    rw [← e]
    have := hl j (by simpa using hj)
    have e2 : a.size - 1 = ia := by omega
    simp only [e2] at this
    simpa using this
  have sA : ∀ (out : Array Keyed) ia ib, Mg ky a.toList b.toList out.toList ia ib → (h : ia < a.size) → (∀ y, y ∈ b.toList.drop ib → ky a[ia] ≤ ky y) → Mg ky a.toList b.toList (out.push a[ia]).toList (ia + 1) ib := fun out ia ib m h hle => by
    rw [Array.toList_push]; exact m.stepA ha (by simpa using h) hle
  have sB : ∀ (out : Array Keyed) ia ib, Mg ky a.toList b.toList out.toList ia ib → (h : ib < b.size) → (∀ y, y ∈ a.toList.drop ia → ky b[ib] ≤ ky y) → Mg ky a.toList b.toList (out.push b[ib]).toList ia (ib + 1) := fun out ia ib m h hle => by
    rw [Array.toList_push]; exact m.stepB hb (by simpa using h) hle
  have bA : ∀ (out : Array Keyed) ia ib k, Mg ky a.toList b.toList out.toList ia ib → ia + k ≤ a.size → (∀ i, (h : ia + i < a.size) → i < k → ∀ y, y ∈ b.toList.drop ib → ky a[ia + i] ≤ ky y) → Mg ky a.toList b.toList (out ++ a.extract ia (ia + k)).toList (ia + k) ib := fun out ia ib k m h hle => by
    rw [Array.toList_append, exA2]; exact m.bulkA ha k (by simpa using h) (fun i hi hik => hle i (by simpa using hi) hik)
  have bB : ∀ (out : Array Keyed) ia ib k, Mg ky a.toList b.toList out.toList ia ib → ib + k ≤ b.size → (∀ i, (h : ib + i < b.size) → i < k → ∀ y, y ∈ a.toList.drop ia → ky b[ib + i] ≤ ky y) → Mg ky a.toList b.toList (out ++ b.extract ib (ib + k)).toList ia (ib + k) := fun out ia ib k m h hle => by
    rw [Array.toList_append, exB2]; exact m.bulkB hb k (by simpa using h) (fun i hi hik => hle i (by simpa using hi) hik)
  have moA : ∀ i j, (hij : i ≤ j) → (h : j < a.size) → ky (a[i]'(by omega)) ≤ ky a[j] := fun i j hij h => hdA i (by omega) _ (by rw [List.mem_drop_iff_getElem]; exact ⟨j - i, by simp; omega, by simp; congr 1; omega⟩)
  have moB : ∀ i j, (hij : i ≤ j) → (h : j < b.size) → ky (b[i]'(by omega)) ≤ ky b[j] := fun i j hij h => hdB i (by omega) _ (by rw [List.mem_drop_iff_getElem]; exact ⟨j - i, by simp; omega, by simp; congr 1; omega⟩)
  refine sS_ite (fun h1 => ?_) (fun h1 => sS_ite (fun h2 => ?_) (fun h2 => ?_))
  · exact wpS_pure (hQ _ _ (hdone _ 0 1 m1 (by simp at h1 ⊢; omega)))
  · exact wpS_pure (hQ _ _ (hlast _ 0 1 m1 (by simpa using h2)))
  · have h1' : b.size ≠ 1 := fun z => h1 (by simp [z])
    have h2' : a.size ≠ 1 := fun z => h2 (by simp [z])
    refine wpS_bind (wpS_get ?_)
    refine wpS_bind (wpS_mono (Q := fun (c : Option (Array Keyed) × Array Keyed × Nat × Nat × Nat) (st' : SortSt) => (∃ g', st' = SortSt.mk' κ arr pd g' fl) ∧ ∃ res, c.1 = some res ∧ Gd ky a.toList b.toList res.toList) (wpS_forRange (fun (t : Nat) (c : Option (Array Keyed) × Array Keyed × Nat × Nat × Nat) (st' : SortSt) => (∃ g', st' = SortSt.mk' κ arr pd g' fl) ∧ c.1 = none ∧ Mg ky a.toList b.toList c.2.1.toList c.2.2.1 c.2.2.2.1 ∧ c.2.2.1 + 1 < a.size ∧ c.2.2.2.1 < b.size ∧ t < c.2.2.1 + c.2.2.2.1) ?_ ?_ ⟨⟨g, rfl⟩, rfl, m1, by show 0 + 1 < a.size; omega, by show 1 < b.size; omega, by show 0 < 0 + 1; omega⟩) ?_)
    · rintro t ⟨r, out, ia, ib, mg⟩ st' _ ht ⟨⟨g1, rfl⟩, e, m, hia, hib, hti⟩
      simp only at e m hia hib hti
      subst e
      refine wpS_bind (wpS_mono (Q := fun (c : Option (Array Keyed) × Array Keyed × Nat × Nat × Nat × Nat) (st' : SortSt) => (∃ g', st' = SortSt.mk' κ arr pd g' fl) ∧ ((∃ res, c.1 = some res ∧ Gd ky a.toList b.toList res.toList) ∨ (c.1 = none ∧ Mg ky a.toList b.toList c.2.1.toList c.2.2.1 c.2.2.2.1 ∧ c.2.2.1 + 1 < a.size ∧ c.2.2.2.1 < b.size ∧ t < c.2.2.1 + c.2.2.2.1))) (wpS_forRange (fun (u : Nat) (c : Option (Array Keyed) × Array Keyed × Nat × Nat × Nat × Nat) (st' : SortSt) => (∃ g', st' = SortSt.mk' κ arr pd g' fl) ∧ c.1 = none ∧ Mg ky a.toList b.toList c.2.1.toList c.2.2.1 c.2.2.2.1 ∧ c.2.2.1 + 1 < a.size ∧ c.2.2.2.1 < b.size ∧ t < c.2.2.1 + c.2.2.2.1) ?_ ?_ ⟨⟨g1, rfl⟩, rfl, m, hia, hib, hti⟩) ?_)
      · rintro u ⟨r, out, ia, ib, ac, bc⟩ st' _ hu ⟨⟨g1, rfl⟩, e, m, hia, hib, hti⟩
        simp only at e m hia hib hti
        subst e
        refine wpS_bind (sS_elem hib ?_)
        refine wpS_bind (sS_elem (by omega : ia < a.size) ?_)
        refine wpS_bind (sS_lt hc rfl (hPb _ _) (hPa _ _) ?_)
        refine sS_ite (fun hv => ?_) (fun hv => ?_)
        · have hv := of_decide_eq_true hv
          refine wpS_bind (sS_elem hib ?_)
          have m2 := sB _ _ _ m hib (fun y hy => Int.le_trans (Int.le_of_lt hv) (hdA ia (by omega) y hy))
          refine sS_ite (fun h3 => ?_) (fun h3 => ?_)
          · exact wpS_pure ⟨⟨_, rfl⟩, .inl ⟨_, rfl, hdone _ _ _ m2 (by simp at h3 ⊢; omega)⟩⟩
          · have h3' : ib + 1 ≠ b.size := fun z => h3 (by simp [z])
            refine sS_ite (fun h4 => ?_) (fun h4 => ?_)
            · exact wpS_pure ⟨⟨_, rfl⟩, .inr ⟨rfl, m2, hia, by simp only; omega, by simp only; omega⟩⟩
            · exact wpS_pure ⟨⟨_, rfl⟩, rfl, m2, hia, by simp only; omega, by simp only; omega⟩
        · have hv : ¬ ky b[ib] < ky a[ia] := fun z => hv (decide_eq_true z)
          refine wpS_bind (sS_elem (by omega : ia < a.size) ?_)
          have m2 := sA _ _ _ m (by omega) (fun y hy => Int.le_trans (Int.not_lt.mp hv) (hdB ib hib y hy))
          refine sS_ite (fun h3 => ?_) (fun h3 => ?_)
          · exact wpS_pure ⟨⟨_, rfl⟩, .inl ⟨_, rfl, hlast _ _ _ m2 (by simpa using h3)⟩⟩
          · have h3' : ia + 1 + 1 ≠ a.size := fun z => h3 (by simp [z])
            refine sS_ite (fun h4 => ?_) (fun h4 => ?_)
            · exact wpS_pure ⟨⟨_, rfl⟩, .inr ⟨rfl, m2, by simp only; omega, hib, by simp only; omega⟩⟩
            · exact wpS_pure ⟨⟨_, rfl⟩, rfl, m2, by simp only; omega, hib, by simp only; omega⟩
      · rintro ⟨r, out, ia, ib, ac, bc⟩ st' ⟨hg, e, m, hia, hib, hti⟩
        exact ⟨hg, .inr ⟨e, m, hia, hib, hti⟩⟩
      · rintro ⟨r, out, ia, ib, ac, bc⟩ st' ⟨⟨g2, rfl⟩, hor⟩
        rcases hor with ⟨res, e, hgd⟩ | ⟨e, m, hia, hib, hti⟩
        · simp only at e
          subst e
          exact wpS_pure ⟨⟨_, rfl⟩, res, rfl, hgd⟩
        · simp only at e m hia hib hti
          subst e
          refine wpS_bind (wpS_lift (wpAny_rule ⟨rfl, ?_⟩))
          refine wpS_bind (wpS_mono (Q := fun (c : Option (Array Keyed) × Array Keyed × Nat × Nat × Nat × Nat × Nat) (st' : SortSt) => (∃ g', st' = SortSt.mk' κ arr pd g' fl) ∧ ((∃ res, c.1 = some res ∧ Gd ky a.toList b.toList res.toList) ∨ (c.1 = none ∧ Mg ky a.toList b.toList c.2.1.toList c.2.2.1 c.2.2.2.1 ∧ c.2.2.1 + 1 < a.size ∧ c.2.2.2.1 < b.size ∧ t + 1 < c.2.2.1 + c.2.2.2.1))) (wpS_forRange (fun (u : Nat) (c : Option (Array Keyed) × Array Keyed × Nat × Nat × Nat × Nat × Nat) (st' : SortSt) => (∃ g', st' = SortSt.mk' κ arr pd g' fl) ∧ c.1 = none ∧ Mg ky a.toList b.toList c.2.1.toList c.2.2.1 c.2.2.2.1 ∧ c.2.2.1 + 1 < a.size ∧ c.2.2.2.1 < b.size ∧ t + u < c.2.2.1 + c.2.2.2.1) ?_ ?_ ⟨⟨g2, rfl⟩, rfl, m, hia, hib, hti⟩) ?_)
          · rintro u c st' _ hu ⟨⟨g1, rfl⟩, e, m, hia, hib, hti⟩
            refine sS_ite (fun _ => ?_) (fun _ => ?_)
            all_goals
              refine wpS_bind (wpS_modify ?_)
              refine wpS_bind (sS_elem hib ?_)
              refine wpS_bind (sS_gallop (f := fun i => !decide (ky b[c.2.2.2.1] < ky (a.getD (c.2.2.1 + i) (Value.none, Value.none)))) hc rfl (hPb _ _) hPa (by omega) (by omega) (fun i h => by simp [Array.getD, h]) ?_ ?_)
              · intro i j hij hj hfj
                simp only [Bool.not_eq_true', decide_eq_false_iff_not, Int.not_lt] at hfj ⊢
                have := moA (c.2.2.1 + i) (c.2.2.1 + j) (by omega) (by omega)
                simp only [Array.getD, (by omega : c.2.2.1 + i < a.size), (by omega : c.2.2.1 + j < a.size), dif_pos] at hfj ⊢
                exact Int.le_trans this hfj
              · intro k hk1 hk2 hk3
                have hA1 : ∀ i, (h : c.2.2.1 + i < a.size) → i < k → ky a[c.2.2.1 + i] ≤ ky b[c.2.2.2.1] := by
                  intro i h hi
                  have := hk2 i hi
                  simp only [Bool.not_eq_true', decide_eq_false_iff_not, Int.not_lt, Array.getD, h, dif_pos] at this
                  exact this
                have hA2 : (h : c.2.2.1 + k < a.size) → ky b[c.2.2.2.1] < ky a[c.2.2.1 + k] := by
                  intro h
                  have := hk3 k (Nat.le_refl _) (by omega)
                  simp only [Bool.not_eq_false', decide_eq_true_eq, Array.getD, h, dif_pos] at this
                  exact this
                have m2 := bA _ _ _ k m (by omega) (fun i h hi y hy => Int.le_trans (hA1 i h hi) (hdB _ hib y hy))
                refine sS_ite (fun hk0 => sS_ite (fun h3 => wpS_pure ⟨⟨_, rfl⟩, .inl ⟨_, rfl, hlast _ _ _ m2 (by simpa using h3)⟩⟩) (fun h3 => sS_ite (fun h4 => wpS_pure ⟨⟨_, rfl⟩, .inl ⟨_, rfl, hdone2 _ _ _ m2 (by simp at h4 ⊢; omega)⟩⟩) (fun h4 => ?_))) (fun hk0 => ?_)
                focus
                  have h3' : c.2.2.1 + k + 1 ≠ a.size := fun z => h3 (by simp [z])
                  have h4' : c.2.2.1 + k ≠ a.size := fun z => h4 (by simp [z])
                  have m' := m2
                  have hlt : c.2.2.1 + k < a.size := by omega
                  have hlt2 : c.2.2.1 + k + 1 < a.size := by omega
                  have hx' := hA2 hlt
                  have ht' : t + u < c.2.2.1 + k + c.2.2.2.1 := by omega
                  have hd' := hdA _ hlt
                  obtain ⟨y, hy⟩ : ∃ y, y = ky a[c.2.2.1 + k] := ⟨_, rfl⟩
                rotate_left
                focus
                  have hk0' : k = 0 := by omega
                  subst hk0'
                  have m' := m
                  have hlt : c.2.2.1 < a.size := by omega
                  have hlt2 : c.2.2.1 + 1 < a.size := by omega
                  have hx' := hA2 hlt
                  have ht' : t + u < c.2.2.1 + c.2.2.2.1 := by omega
                  have hd' := hdA _ hlt
                  obtain ⟨y, hy⟩ : ∃ y, y = ky a[c.2.2.1] := ⟨_, rfl⟩
                all_goals
                  refine wpS_bind (sS_elem hib ?_)
                  have m3 := sB _ _ _ m' hib (fun z hz => Int.le_trans (Int.le_of_lt hx') (hd' z hz))
                  refine sS_ite (fun h5 => wpS_pure ⟨⟨_, rfl⟩, .inl ⟨_, rfl, hdone _ _ _ m3 (by simp at h5 ⊢; omega)⟩⟩) (fun h5 => ?_)
                  have h5' : c.2.2.2.1 + 1 ≠ b.size := fun z => h5 (by simp [z])
                  refine wpS_bind (sS_elem hlt ?_)
                  refine wpS_bind (sS_gallop (f := fun i => decide (ky (b.getD (c.2.2.2.1 + 1 + i) (Value.none, Value.none)) < y)) hc rfl (hPa _ _) hPb (by omega) (by omega) (fun i h => by simp [Array.getD, h, hy]) ?_ ?_)
                  · intro i j hij hj hfj
                    simp only [decide_eq_true_eq] at hfj ⊢
                    have := moB (c.2.2.2.1 + 1 + i) (c.2.2.2.1 + 1 + j) (by omega) (by omega)
                    simp only [Array.getD, (by omega : c.2.2.2.1 + 1 + i < b.size), (by omega : c.2.2.2.1 + 1 + j < b.size), dif_pos] at hfj ⊢
                    exact Int.lt_of_le_of_lt this hfj
                  · intro k2 q1 q2 q3
                    have hB1 : ∀ i, (h : c.2.2.2.1 + 1 + i < b.size) → i < k2 → ky b[c.2.2.2.1 + 1 + i] < y := by
                      intro i h hi
                      have := q2 i hi
                      simp only [decide_eq_true_eq, Array.getD, h, dif_pos] at this
                      exact this
                    have hB2 : (h : c.2.2.2.1 + 1 + k2 < b.size) → y ≤ ky b[c.2.2.2.1 + 1 + k2] := by
                      intro h
                      have := q3 k2 (Nat.le_refl _) (by omega)
                      simp only [decide_eq_false_iff_not, Int.not_lt, Array.getD, h, dif_pos] at this
                      exact this
                    have m4 := bB _ _ _ k2 m3 (by omega) (fun i h hi z hz => Int.le_trans (Int.le_of_lt (hB1 i h hi)) (hy ▸ hd' z hz))
                    refine sS_ite (fun q0 => sS_ite (fun h6 => wpS_pure ⟨⟨_, rfl⟩, .inl ⟨_, rfl, hdone _ _ _ m4 (by simp at h6 ⊢; omega)⟩⟩) (fun h6 => ?_)) (fun q0 => ?_)
                    focus
                      have h6' : c.2.2.2.1 + 1 + k2 ≠ b.size := fun z => h6 (by simp [z])
                      have hl2 : c.2.2.2.1 + 1 + k2 < b.size := by omega
                      have m5 := sA _ _ _ m4 hlt (fun z hz => Int.le_trans (hy ▸ hB2 hl2) (hdB _ hl2 z hz))
                    rotate_left
                    focus
                      have q0' : k2 = 0 := by omega
                      subst q0'
                      have hl2 : c.2.2.2.1 + 1 < b.size := by omega
                      have m5 := sA _ _ _ m3 hlt (fun z hz => Int.le_trans (hy ▸ hB2 hl2) (hdB _ hl2 z hz))
                    all_goals
                      refine wpS_bind (sS_elem hlt ?_)
                      refine sS_ite (fun h7 => wpS_pure ⟨⟨_, rfl⟩, .inl ⟨_, rfl, hlast _ _ _ m5 (by simpa using h7)⟩⟩) (fun h7 => ?_)
                      simp only [beq_iff_eq] at h7
                      refine sS_ite (fun h8 => wpS_pure ⟨⟨_, rfl⟩, .inr ⟨rfl, m5, by simp only; omega, hl2, by simp only; omega⟩⟩) (fun h8 => wpS_pure ⟨⟨_, rfl⟩, rfl, m5, by simp only; omega, hl2, by simp only; omega⟩)
          · rintro ⟨r, out, ia, ib, mg, ac, bc⟩ st' ⟨hg, e, m, hia, hib, hti⟩
            exact ⟨hg, .inr ⟨e, m, hia, hib, by simp only at hti ⊢; omega⟩⟩
          · rintro ⟨r, out, ia, ib, mg, ac, bc⟩ st' ⟨⟨g3, rfl⟩, hor⟩
            rcases hor with ⟨res, e, hgd⟩ | ⟨e, m, hia, hib, hti⟩
            · simp only at e
              subst e
              exact wpS_pure ⟨⟨_, rfl⟩, res, rfl, hgd⟩
            · simp only at e m hia hib hti
              subst e
              exact wpS_bind (wpS_modify (wpS_pure ⟨⟨_, rfl⟩, rfl, m, hia, hib, hti⟩))
    · rintro ⟨r, out, ia, ib, mg⟩ st' ⟨_, e, m, hia, hib, hti⟩
      simp only at hia hib hti
      omega
    · rintro ⟨r, out, ia, ib, mg⟩ st' ⟨⟨g2, rfl⟩, res, e, hgd⟩
      simp only at e
      subst e
      exact wpS_pure (hQ res g2 hgd)
end
section
variable {ky : Keyed → Int}
theorem srt_rev {l : List Keyed} : Srt (fun x => - ky x) l.reverse ↔ Srt ky l := by
  unfold Srt
  rw [List.pairwise_reverse]
  constructor
  · exact fun h => h.imp fun z => by simp only at z; omega
  · exact fun h => h.imp fun z => by simp only; omega
theorem gd_rev {a b l : List Keyed} (h : Gd (fun x => - ky x) a.reverse b.reverse l) : Gd ky a b l.reverse := by
  refine ⟨(List.reverse_perm l).trans (h.1.trans (List.Perm.append (List.reverse_perm a) (List.reverse_perm b))), ?_⟩
  rw [← srt_rev, List.reverse_reverse]
  exact h.2
theorem rdrop {a : Array Keyed} {na : Nat} (h : na ≤ a.size) : a.toList.reverse.drop (a.size - na) = (a.toList.take na).reverse := by
  rw [List.drop_reverse]
  congr 2
  simp; omega
theorem rmem {a : Array Keyed} {na : Nat} (h : na ≤ a.size) {y : Keyed} (hy : y ∈ a.toList.reverse.drop (a.size - na)) : ∃ i, ∃ hi : i < a.size, i < na ∧ y = a[i] := by
  rw [rdrop h, List.mem_reverse, List.mem_take_iff_getElem] at hy
  obtain ⟨i, hi, e⟩ := hy
  exact ⟨i, by simp at hi; omega, by simp at hi; omega, by simpa using e.symm⟩
def MM (ky : Keyed → Int) (a b out : Array Keyed) (na nb : Nat) : Prop := Mg (fun x => - ky x) a.toList.reverse b.toList.reverse out.toList (a.size - na) (b.size - nb)
variable {a b out : Array Keyed} {na nb : Nat}
theorem MM.swap (h : MM ky a b out na nb) : MM ky b a out nb na := Mg.swap h
theorem MM.sA (ha : Srt ky a.toList) (m : MM ky a b out na nb) (h1 : 1 ≤ na) (h2 : na ≤ a.size) (hb : nb ≤ b.size) (hle : ∀ i, (h : i < b.size) → i < nb → ky b[i] ≤ ky (a[na - 1]'(by omega))) : MM ky a b (out.push (a[na - 1]'(by omega))) (na - 1) nb := by
  have hl : a.size - na < a.toList.reverse.length := by simp; omega
  have e : a.toList.reverse[a.size - na] = a[na - 1]'(by omega) := by
    rw [List.getElem_reverse]
    simp only [Array.length_toList, Array.getElem_toList]
    congr 1; omega
  have := Mg.stepA (srt_rev.mpr ha) m hl (by
    intro y hy
    obtain ⟨i, hi, hin, rfl⟩ := rmem hb hy
    rw [e]
    have := hle i hi hin
    show - ky _ ≤ - ky _; omega)
  rw [e] at this
  unfold MM
  rw [Array.toList_push, (by omega : a.size - (na - 1) = a.size - na + 1)]
  exact this
theorem MM.bA (ha : Srt ky a.toList) (m : MM ky a b out na nb) {at_ : Nat} (h1 : at_ ≤ na) (h2 : na ≤ a.size) (hb : nb ≤ b.size) (hle : ∀ j, (hj : j < a.size) → at_ ≤ j → j < na → ∀ i, (h : i < b.size) → i < nb → ky b[i] ≤ ky a[j]) : MM ky a b (out ++ (a.extract at_ na).reverse) at_ nb := by
  have := Mg.bulkA (srt_rev.mpr ha) m (na - at_) (by simp; omega) (by
    intro i hi hik y hy
    obtain ⟨j, hj, hjn, rfl⟩ := rmem hb hy
    have e : a.toList.reverse[a.size - na + i] = a[na - 1 - i]'(by omega) := by
      rw [List.getElem_reverse]
      simp only [Array.length_toList, Array.getElem_toList]
      congr 1; omega
    rw [e]
    have := hle (na - 1 - i) (by omega) (by omega) (by omega) j hj hjn
    show - ky _ ≤ - ky _; omega)
  unfold MM
  rw [Array.toList_append, (by omega : a.size - at_ = a.size - na + (na - at_))]
  have e2 : (a.extract at_ na).reverse.toList = (a.toList.reverse.drop (a.size - na)).take (na - at_) := by
    rw [rdrop h2, List.take_reverse]
    simp only [Array.toList_reverse, Array.toList_extract, List.extract_eq_drop_take, List.length_take, Array.length_toList]
    rw [List.drop_take]
    congr 2
    · omega
    · congr 1; omega
  rw [e2]
  exact this
theorem MM.doneA (hb : Srt ky b.toList) (m : MM ky a b out 0 nb) (hn : nb ≤ b.size) : Gd ky a.toList b.toList (a.extract 0 0 ++ b.extract 0 nb ++ out.reverse).toList := by
  have := gd_rev (Mg.doneA (srt_rev.mpr hb) m (by simp))
  rw [rdrop hn, List.reverse_append, List.reverse_reverse] at this
  simpa using this
theorem MM.doneB (ha : Srt ky a.toList) (m : MM ky a b out na 0) (hn : na ≤ a.size) : Gd ky a.toList b.toList (a.extract 0 na ++ b.extract 0 0 ++ out.reverse).toList := by
  have := gd_rev (Mg.doneB (srt_rev.mpr ha) m (by simp))
  rw [rdrop hn, List.reverse_append, List.reverse_reverse] at this
  simpa using this
theorem MM.firstB (ha : Srt ky a.toList) (hb : Srt ky b.toList) (m : MM ky a b out na 1) (hn : na ≤ a.size) (hb1 : 1 ≤ b.size) (h0 : ∀ i, (h : i < a.size) → ky b[0] ≤ ky a[i]) : Gd ky a.toList b.toList (b.extract 0 1 ++ a.extract 0 na ++ out.reverse).toList := by
  have := Mg.lastA (srt_rev.mpr hb) (srt_rev.mpr ha) (Mg.swap m) (by
    intro y hy z hz
    obtain ⟨i, hi, _, rfl⟩ := rmem hn hy
    obtain ⟨j, hj, hj1, rfl⟩ := rmem hb1 hz
    have hj0 : j = 0 := by omega
    subst hj0
    have := h0 i hi
    show - ky _ ≤ - ky _; omega)
  have := gd_rev ⟨this.1.trans List.perm_append_comm, this.2⟩
  rw [rdrop hn, rdrop hb1, List.reverse_append, List.reverse_append, List.reverse_reverse, List.reverse_reverse, ← List.append_assoc] at this
  simpa using this
variable {prog : Program} {w : World} {A : Around} {E : Value → Shared → Prop} {s : Shared} {κ : SortKind} {P : Keyed → Prop}
def mergeHiP : Array Keyed → Array Keyed → StateT SortSt Sem (Array Keyed) := sortPriv% PySem.Builtin.mergeHi
theorem srt_at {a : Array Keyed} (ha : Srt ky a.toList) {i j : Nat} (hij : i ≤ j) (h : j < a.size) : ky (a[i]'(by omega)) ≤ ky a[j] := by
  have := srt_drop (ia := i) ha (by simp; omega) (y := a[j]) (by rw [List.mem_drop_iff_getElem]; exact ⟨j - i, by simp; omega, by simp; congr 1; omega⟩)
  simpa using this
theorem sS_mergeHi {arr : Array Keyed} {pd : Array (Nat × Nat × Nat)} {g : Nat} {fl : Option Value} {Q : Array Keyed → SortSt → Prop}
    (hc : CmpOk prog w A s κ P ky) (hPa : ∀ i, (h : i < a.size) → P a[i]) (hPb : ∀ i, (h : i < b.size) → P b[i]) (ha : Srt ky a.toList) (hb : Srt ky b.toList)
    (ha0 : 0 < a.size) (hb0 : 0 < b.size) (h0 : ky b[0] ≤ ky a[0]) (hl : ∀ j, (h : j < b.size) → ky b[j] ≤ ky (a[a.size - 1]'(by omega)))
    (hQ : ∀ res g', Gd ky a.toList b.toList res.toList → Q res (SortSt.mk' κ arr pd g' fl)) :
    wpS (model prog w) A E s (mergeHiP a b) Q (SortSt.mk' κ arr pd g fl) := by
  refine wpS_bind (wpS_lift (wpAny_rule ⟨rfl, ?_⟩))
  refine wpS_bind (sS_elem (by omega : a.size - 1 < a.size) ?_)
  have moA : ∀ i j, (hij : i ≤ j) → (h : j < a.size) → ky (a[i]'(by omega)) ≤ ky a[j] := fun i j hij h => srt_at ha hij h
  have moB : ∀ i j, (hij : i ≤ j) → (h : j < b.size) → ky (b[i]'(by omega)) ≤ ky b[j] := fun i j hij h => srt_at hb hij h
  have h0' : ∀ i, (h : i < a.size) → ky b[0] ≤ ky a[i] := fun i h => Int.le_trans h0 (moA 0 i (by omega) h)
  have m0 : MM ky a b #[] a.size b.size := by
    refine ⟨by simp, List.Pairwise.nil, fun x hx => by cases hx⟩
  have m1 : MM ky a b #[a[a.size - 1]] (a.size - 1) b.size := m0.sA ha ha0 (Nat.le_refl _) (Nat.le_refl _) (fun i h _ => hl i h)
  have dA : ∀ (out : Array Keyed) na nb, MM ky a b out na nb → nb ≤ b.size → na = 0 → Gd ky a.toList b.toList (a.extract 0 na ++ b.extract 0 nb ++ out.reverse).toList := by
    rintro out na nb m h rfl; exact m.doneA hb h
  have dB : ∀ (out : Array Keyed) na nb, MM ky a b out na nb → na ≤ a.size → nb = 0 → Gd ky a.toList b.toList (a.extract 0 na ++ b.extract 0 nb ++ out.reverse).toList := by
    rintro out na nb m h rfl; exact m.doneB ha h
  have fB : ∀ (out : Array Keyed) na nb, MM ky a b out na nb → na ≤ a.size → nb = 1 → Gd ky a.toList b.toList (b.extract 0 nb ++ a.extract 0 na ++ out.reverse).toList := by
    rintro out na nb m h rfl; exact m.firstB ha hb h hb0 h0'
  refine sS_ite (fun h1 => ?_) (fun h1 => sS_ite (fun h2 => ?_) (fun h2 => ?_))
  · exact wpS_pure (hQ _ _ (dA _ _ _ m1 (Nat.le_refl _) (by simpa using h1)))
  · exact wpS_pure (hQ _ _ (fB _ _ _ m1 (by omega) (by simpa using h2)))
  · simp only [beq_iff_eq] at h1 h2
    refine wpS_bind (wpS_get ?_)
    refine wpS_bind (wpS_mono (Q := fun (c : Option (Array Keyed) × Nat × Nat × Array Keyed × Nat) (st' : SortSt) => (∃ g', st' = SortSt.mk' κ arr pd g' fl) ∧ ∃ res, c.1 = some res ∧ Gd ky a.toList b.toList res.toList) (wpS_forRange (fun (t : Nat) (c : Option (Array Keyed) × Nat × Nat × Array Keyed × Nat) (st' : SortSt) => (∃ g', st' = SortSt.mk' κ arr pd g' fl) ∧ c.1 = none ∧ MM ky a b c.2.2.2.1 c.2.1 c.2.2.1 ∧ (1 ≤ c.2.1 ∧ c.2.1 ≤ a.size) ∧ (2 ≤ c.2.2.1 ∧ c.2.2.1 ≤ b.size) ∧ t + c.2.1 + c.2.2.1 < a.size + b.size) ?_ ?_ ⟨⟨g, rfl⟩, rfl, m1, by simp only; omega, by simp only; omega, by simp only; omega⟩) ?_)
    · rintro t c0 st' _ ht ⟨⟨g1, rfl⟩, e, m, hia, hib, hti⟩
      refine wpS_bind (wpS_mono (Q := fun (c : Option (Array Keyed) × Nat × Nat × Array Keyed × Nat × Nat) (st' : SortSt) => (∃ g', st' = SortSt.mk' κ arr pd g' fl) ∧ ((∃ res, c.1 = some res ∧ Gd ky a.toList b.toList res.toList) ∨ (c.1 = none ∧ MM ky a b c.2.2.2.1 c.2.1 c.2.2.1 ∧ (1 ≤ c.2.1 ∧ c.2.1 ≤ a.size) ∧ (2 ≤ c.2.2.1 ∧ c.2.2.1 ≤ b.size) ∧ t + c.2.1 + c.2.2.1 < a.size + b.size))) (wpS_forRange (fun (u : Nat) (c : Option (Array Keyed) × Nat × Nat × Array Keyed × Nat × Nat) (st' : SortSt) => (∃ g', st' = SortSt.mk' κ arr pd g' fl) ∧ c.1 = none ∧ MM ky a b c.2.2.2.1 c.2.1 c.2.2.1 ∧ (1 ≤ c.2.1 ∧ c.2.1 ≤ a.size) ∧ (2 ≤ c.2.2.1 ∧ c.2.2.1 ≤ b.size) ∧ t + c.2.1 + c.2.2.1 < a.size + b.size) ?_ ?_ ⟨⟨g1, rfl⟩, rfl, m, hia, hib, hti⟩) ?_)
      · rintro u c st' _ hu ⟨⟨g1, rfl⟩, e, m, hia, hib, hti⟩
        have l1 : c.2.1 - 1 < a.size := by omega
        have l2 : c.2.2.1 - 1 < b.size := by omega
        refine wpS_bind (sS_elem l2 ?_)
        refine wpS_bind (sS_elem l1 ?_)
        refine wpS_bind (sS_lt hc rfl (hPb _ _) (hPa _ _) ?_)
        refine sS_ite (fun hv => ?_) (fun hv => ?_)
        · have hv := of_decide_eq_true hv
          refine wpS_bind (sS_elem l1 ?_)
          have m2 := m.sA ha hia.1 hia.2 hib.2 (fun i h hi => Int.le_trans (moB i (c.2.2.1 - 1) (by omega) l2) (Int.le_of_lt hv))
          refine sS_ite (fun h3 => ?_) (fun h3 => ?_)
          · exact wpS_pure ⟨⟨_, rfl⟩, .inl ⟨_, rfl, dA _ _ _ m2 hib.2 (by simpa using h3)⟩⟩
          · simp only [beq_iff_eq] at h3
            refine sS_ite (fun h4 => ?_) (fun h4 => ?_)
            · exact wpS_pure ⟨⟨_, rfl⟩, .inr ⟨rfl, m2, by simp only; omega, hib, by simp only; omega⟩⟩
            · exact wpS_pure ⟨⟨_, rfl⟩, rfl, m2, by simp only; omega, hib, by simp only; omega⟩
        · have hv : ¬ ky b[c.2.2.1 - 1] < ky a[c.2.1 - 1] := fun z => hv (decide_eq_true z)
          refine wpS_bind (sS_elem l2 ?_)
          have m2 := (m.swap.sA hb (by omega) hib.2 hia.2 (fun i h hi => Int.le_trans (moA i (c.2.1 - 1) (by omega) l1) (Int.not_lt.mp hv))).swap
          refine sS_ite (fun h3 => ?_) (fun h3 => ?_)
          · exact wpS_pure ⟨⟨_, rfl⟩, .inl ⟨_, rfl, fB _ _ _ m2 hia.2 (by simpa using h3)⟩⟩
          · simp only [beq_iff_eq] at h3
            refine sS_ite (fun h4 => ?_) (fun h4 => ?_)
            · exact wpS_pure ⟨⟨_, rfl⟩, .inr ⟨rfl, m2, hia, by simp only; omega, by simp only; omega⟩⟩
            · exact wpS_pure ⟨⟨_, rfl⟩, rfl, m2, hia, by simp only; omega, by simp only; omega⟩
      · rintro c st' ⟨hg, e, m, hia, hib, hti⟩
        exact ⟨hg, .inr ⟨e, m, hia, hib, hti⟩⟩
      · rintro ⟨r, na, nb, out, ac, bc⟩ st' ⟨⟨g2, rfl⟩, hor⟩
        rcases hor with ⟨res, e, hgd⟩ | ⟨e, m, hia, hib, hti⟩
        · simp only at e
          subst e
          exact wpS_pure ⟨⟨_, rfl⟩, res, rfl, hgd⟩
        · simp only at e m hia hib hti
          subst e
          refine wpS_bind (wpS_lift (wpAny_rule ⟨rfl, ?_⟩))
          refine wpS_bind (wpS_mono (Q := fun (c : Option (Array Keyed) × Nat × Nat × Array Keyed × Nat × Nat × Nat) (st' : SortSt) => (∃ g', st' = SortSt.mk' κ arr pd g' fl) ∧ ((∃ res, c.1 = some res ∧ Gd ky a.toList b.toList res.toList) ∨ (c.1 = none ∧ MM ky a b c.2.2.2.1 c.2.1 c.2.2.1 ∧ (1 ≤ c.2.1 ∧ c.2.1 ≤ a.size) ∧ (2 ≤ c.2.2.1 ∧ c.2.2.1 ≤ b.size) ∧ t + 1 + c.2.1 + c.2.2.1 < a.size + b.size))) (wpS_forRange (fun (u : Nat) (c : Option (Array Keyed) × Nat × Nat × Array Keyed × Nat × Nat × Nat) (st' : SortSt) => (∃ g', st' = SortSt.mk' κ arr pd g' fl) ∧ c.1 = none ∧ MM ky a b c.2.2.2.1 c.2.1 c.2.2.1 ∧ (1 ≤ c.2.1 ∧ c.2.1 ≤ a.size) ∧ (2 ≤ c.2.2.1 ∧ c.2.2.1 ≤ b.size) ∧ t + u + c.2.1 + c.2.2.1 < a.size + b.size) ?_ ?_ ⟨⟨g2, rfl⟩, rfl, m, hia, hib, hti⟩) ?_)
          · rintro u c st' _ hu ⟨⟨g1, rfl⟩, e, m, hia, hib, hti⟩
            have l2 : c.2.2.1 - 1 < b.size := by omega
            refine sS_ite (fun _ => ?_) (fun _ => ?_)
            all_goals
              refine wpS_bind (wpS_modify ?_)
              refine wpS_bind (sS_elem l2 ?_)
              refine wpS_bind (sS_gallop (f := fun i => !decide (ky b[c.2.2.1 - 1] < ky (a.getD (0 + i) (Value.none, Value.none)))) hc rfl (hPb _ _) hPa (by omega) (by omega) (fun i h => by simp only [Array.getD, h, dif_pos]; simp) ?_ ?_)
              · intro i j hij hj hfj
                simp only [Bool.not_eq_true', decide_eq_false_iff_not, Int.not_lt] at hfj ⊢
                have := moA (0 + i) (0 + j) (by omega) (by omega)
                simp only [Array.getD, (by omega : 0 + i < a.size), (by omega : 0 + j < a.size), dif_pos] at hfj ⊢
                exact Int.le_trans this hfj
              · intro k hk1 hk2 hk3
                have hA1 : ∀ i, (h : i < a.size) → i < k → ky a[i] ≤ ky b[c.2.2.1 - 1] := by
                  intro i h hi
                  have := hk2 i hi
                  simp only [Bool.not_eq_true', decide_eq_false_iff_not, Int.not_lt, Array.getD, Nat.zero_add, h, dif_pos] at this
                  exact this
                have hA2 : ∀ i, (h : i < a.size) → k ≤ i → i < c.2.1 → ky b[c.2.2.1 - 1] < ky a[i] := by
                  intro i h hi1 hi2
                  have := hk3 i hi1 hi2
                  simp only [Bool.not_eq_false', decide_eq_true_eq, Array.getD, Nat.zero_add, h, dif_pos] at this
                  exact this
                have m2 := m.bA ha hk1 hia.2 hib.2 (fun j hj h1 h2 i h hi => Int.le_trans (moB i (c.2.2.1 - 1) (by omega) l2) (Int.le_of_lt (hA2 j hj h1 h2)))
                refine sS_ite (fun hk0 => sS_ite (fun h3 => wpS_pure ⟨⟨_, rfl⟩, .inl ⟨_, rfl, dA _ _ _ m2 hib.2 (by simpa using h3)⟩⟩) (fun h3 => ?_)) (fun hk0 => ?_)
                focus
                  simp only [beq_iff_eq] at h3
                  have m' := m2
                  have n1 : 1 ≤ k := by omega
                  have n2 : k ≤ a.size := by omega
                  have l1 : k - 1 < a.size := by omega
                  have hx' : ∀ i, (h : i < a.size) → i < k → ky a[i] ≤ ky b[c.2.2.1 - 1] := hA1
                  have ht' : t + u + k + c.2.2.1 < a.size + b.size := by omega
                  obtain ⟨y, hy⟩ : ∃ y, y = ky a[k - 1] := ⟨_, rfl⟩
                  have hy2 : ∀ i, (h : i < a.size) → i < k → ky a[i] ≤ y := fun i h hi => hy ▸ moA i (k - 1) (by omega) l1
                rotate_left
                focus
                  have hk0' : k = c.2.1 := by omega
                  subst hk0'
                  have m' := m
                  have n1 : 1 ≤ c.2.1 := by omega
                  have n2 : c.2.1 ≤ a.size := by omega
                  have l1 : c.2.1 - 1 < a.size := by omega
                  have hx' : ∀ i, (h : i < a.size) → i < c.2.1 → ky a[i] ≤ ky b[c.2.2.1 - 1] := hA1
                  have ht' : t + u + c.2.1 + c.2.2.1 < a.size + b.size := by omega
                  obtain ⟨y, hy⟩ : ∃ y, y = ky a[c.2.1 - 1] := ⟨_, rfl⟩
                  have hy2 : ∀ i, (h : i < a.size) → i < c.2.1 → ky a[i] ≤ y := fun i h hi => hy ▸ moA i (c.2.1 - 1) (by omega) l1
                all_goals
                  refine wpS_bind (sS_elem l2 ?_)
                  have m3 := (m'.swap.sA hb (by omega) hib.2 n2 hx').swap
                  refine sS_ite (fun h5 => wpS_pure ⟨⟨_, rfl⟩, .inl ⟨_, rfl, fB _ _ _ m3 n2 (by simpa using h5)⟩⟩) (fun h5 => ?_)
                  simp only [beq_iff_eq] at h5
                  refine wpS_bind (sS_elem l1 ?_)
                  refine wpS_bind (sS_gallop (f := fun i => decide (ky (b.getD (0 + i) (Value.none, Value.none)) < y)) hc rfl (hPa _ _) hPb (by omega) (by omega) (fun i h => by simp only [Array.getD, h, dif_pos, hy]; simp) ?_ ?_)
                  · intro i j hij hj hfj
                    simp only [decide_eq_true_eq] at hfj ⊢
                    have := moB (0 + i) (0 + j) (by omega) (by omega)
                    simp only [Array.getD, (by omega : 0 + i < b.size), (by omega : 0 + j < b.size), dif_pos] at hfj ⊢
                    exact Int.lt_of_le_of_lt this hfj
                  · intro k2 q1 q2 q3
                    have hB1 : ∀ i, (h : i < b.size) → i < k2 → ky b[i] < y := by
                      intro i h hi
                      have := q2 i hi
                      simp only [decide_eq_true_eq, Array.getD, Nat.zero_add, h, dif_pos] at this
                      exact this
                    have hB2 : ∀ i, (h : i < b.size) → k2 ≤ i → i < c.2.2.1 - 1 → y ≤ ky b[i] := by
                      intro i h hi1 hi2
                      have := q3 i hi1 hi2
                      simp only [decide_eq_false_iff_not, Int.not_lt, Array.getD, Nat.zero_add, h, dif_pos] at this
                      exact this
                    have m4 := (m3.swap.bA hb q1 (by omega) n2 (fun j hj h1 h2 i h hi => Int.le_trans (hy2 i h hi) (hB2 j hj h1 h2))).swap
                    refine sS_ite (fun q0 => sS_ite (fun h6 => wpS_pure ⟨⟨_, rfl⟩, .inl ⟨_, rfl, fB _ _ _ m4 n2 (by simpa using h6)⟩⟩) (fun h6 => sS_ite (fun h7 => wpS_pure ⟨⟨_, rfl⟩, .inl ⟨_, rfl, dB _ _ _ m4 n2 (by simpa using h7)⟩⟩) (fun h7 => ?_))) (fun q0 => ?_)
                    focus
                      simp only [beq_iff_eq] at h6 h7
                      have hl2 : 2 ≤ k2 ∧ k2 ≤ b.size := by omega
                      have m5 := m4.sA ha n1 n2 hl2.2 (fun i h hi => Int.le_of_lt (hy ▸ hB1 i h hi))
                      have hlt : k2 + 1 ≤ c.2.2.1 := by omega
                    rotate_left
                    focus
                      have q0' : k2 = c.2.2.1 - 1 := by omega
                      subst q0'
                      have hl2 : 2 ≤ c.2.2.1 - 1 ∧ c.2.2.1 - 1 ≤ b.size := by omega
                      have m5 := m3.sA ha n1 n2 hl2.2 (fun i h hi => Int.le_of_lt (hy ▸ hB1 i h hi))
                      have hlt : c.2.2.1 - 1 + 1 ≤ c.2.2.1 := by omega
                    all_goals
                      refine wpS_bind (sS_elem l1 ?_)
                      refine sS_ite (fun h8 => wpS_pure ⟨⟨_, rfl⟩, .inl ⟨_, rfl, dA _ _ _ m5 hl2.2 (by simpa using h8)⟩⟩) (fun h8 => ?_)
                      simp only [beq_iff_eq] at h8
                      refine sS_ite (fun h9 => wpS_pure ⟨⟨_, rfl⟩, .inr ⟨rfl, m5, by simp only; omega, hl2, by simp only; omega⟩⟩) (fun h9 => wpS_pure ⟨⟨_, rfl⟩, rfl, m5, by simp only; omega, hl2, by simp only; omega⟩)
          · rintro c st' ⟨hg, e, m, hia, hib, hti⟩
            exact ⟨hg, .inr ⟨e, m, hia, hib, by omega⟩⟩
          · rintro ⟨r, na, nb, out, mg, ac, bc⟩ st' ⟨⟨g3, rfl⟩, hor⟩
            rcases hor with ⟨res, e, hgd⟩ | ⟨e, m, hia, hib, hti⟩
            · simp only at e
              subst e
              exact wpS_pure ⟨⟨_, rfl⟩, res, rfl, hgd⟩
            · simp only at e m hia hib hti
              subst e
              exact wpS_bind (wpS_modify (wpS_pure ⟨⟨_, rfl⟩, rfl, m, hia, hib, by simp only; omega⟩))
    · rintro c st' ⟨_, e, m, hia, hib, hti⟩
      omega
    · rintro ⟨r, na, nb, out, mg⟩ st' ⟨⟨g2, rfl⟩, res, e, hgd⟩
      simp only at e
      subst e
      exact wpS_pure (hQ res g2 hgd)
end
section
variable {ky : Keyed → Int}
def kp (ky : Keyed → Int) (a : Array Keyed) (i : Nat) : Int := ky (a.getD i (Value.none, Value.none))
theorem kp_at {a : Array Keyed} {i : Nat} (h : i < a.size) : kp ky a i = ky a[i] := by unfold kp; simp [Array.getD, h]
theorem kp_congr {a b : Array Keyed} {i j : Nat} (h : a[i]? = b[j]?) : kp ky a i = kp ky b j := by
  unfold kp; rw [Array.getD_eq_getD_getElem?, Array.getD_eq_getD_getElem?, h]
def SoR (ky : Keyed → Int) (a : Array Keyed) (l r : Nat) : Prop := ∀ i j, l ≤ i → i ≤ j → j < r → kp ky a i ≤ kp ky a j
def DeR (ky : Keyed → Int) (a : Array Keyed) (l r : Nat) : Prop := ∀ i j, l ≤ i → i ≤ j → j < r → kp ky a j ≤ kp ky a i
theorem SoR.next {a : Array Keyed} {l r : Nat} (h : SoR ky a l r) (hr : l < r) (h2 : kp ky a (r - 1) ≤ kp ky a r) : SoR ky a l (r + 1) := by
  intro i j hi hij hj
  by_cases e : j = r
  · subst e
    by_cases e2 : i = j
    · rw [e2]; exact Int.le_refl _
    · exact Int.le_trans (h i (j - 1) hi (by omega) (by omega)) h2
  · exact h i j hi hij (by omega)
theorem DeR.next {a : Array Keyed} {l r : Nat} (h : DeR ky a l r) (hr : l < r) (h2 : kp ky a r ≤ kp ky a (r - 1)) : DeR ky a l (r + 1) := by
  intro i j hi hij hj
  by_cases e : j = r
  · subst e
    by_cases e2 : i = j
    · rw [e2]; exact Int.le_refl _
    · exact Int.le_trans h2 (h i (j - 1) hi (by omega) (by omega))
  · exact h i j hi hij (by omega)
theorem SoR.congr {a a' : Array Keyed} {l r : Nat} (h : SoR ky a l r) (e : ∀ i, l ≤ i → i < r → kp ky a' i = kp ky a i) : SoR ky a' l r := by
  intro i j hi hij hj
  rw [e i hi (by omega), e j (by omega) hj]
  exact h i j hi hij hj
theorem DeR.congr {a a' : Array Keyed} {l r : Nat} (h : DeR ky a l r) (e : ∀ i, l ≤ i → i < r → kp ky a' i = kp ky a i) : DeR ky a' l r := by
  intro i j hi hij hj
  rw [e i hi (by omega), e j (by omega) hj]
  exact h i j hi hij hj
theorem kp_mirror {a : Array Keyed} {i j : Nat} (hj : j ≤ a.size) (x : Nat) : kp ky (mirror a i j ((j - i) / 2)) x = if i ≤ x ∧ x < j then kp ky a (i + j - 1 - x) else kp ky a x := by
  have e := getElem?_mirror_all (xs := a) (i := i) hj x
  by_cases h : i ≤ x ∧ x < j
  · rw [if_pos h] at e ⊢; exact kp_congr e
  · rw [if_neg h] at e ⊢; exact kp_congr e
theorem kp_mirror_eq {a : Array Keyed} {i j : Nat} (hj : j ≤ a.size) (heq : ∀ x, i ≤ x → x < j → kp ky a x = kp ky a (j - 1)) (x : Nat) : kp ky (mirror a i j ((j - i) / 2)) x = kp ky a x := by
  rw [kp_mirror hj]
  split
  · rw [heq _ (by omega) (by omega), heq x (by omega) (by omega)]
  · rfl
theorem kp_bub {a : Array Keyed} {src d : Nat} (hs : src < a.size) (hd : d ≤ src) (x : Nat) : kp ky (bubble a src d) x = if x = src - d then kp ky a src else if src - d < x ∧ x ≤ src then kp ky a (x - 1) else kp ky a x := by
  have e := getElem?_bubble hs d hd x
  by_cases h1 : x = src - d
  · rw [if_pos h1] at e ⊢; exact kp_congr e
  · rw [if_neg h1] at e ⊢
    by_cases h2 : src - d < x ∧ x ≤ src
    · rw [if_pos h2] at e ⊢; exact kp_congr e
    · rw [if_neg h2] at e ⊢; exact kp_congr e
structure Chg (a a' : Array Keyed) (l r : Nat) : Prop where
  perm : a'.Perm a
  same : ∀ i, i < l ∨ r ≤ i → a'[i]? = a[i]?
theorem Chg.refl (a : Array Keyed) (l r : Nat) : Chg a a l r := ⟨Array.Perm.refl _, fun _ _ => rfl⟩
theorem Chg.trans {a b c : Array Keyed} {l r : Nat} (h1 : Chg a b l r) (h2 : Chg b c l r) : Chg a c l r := ⟨h2.perm.trans h1.perm, fun i h => (h2.same i h).trans (h1.same i h)⟩
theorem Chg.wide {a b : Array Keyed} {l r l' r' : Nat} (h : Chg a b l r) (h1 : l' ≤ l) (h2 : r ≤ r') : Chg a b l' r' := ⟨h.perm, fun i hi => h.same i (by omega)⟩
theorem Chg.size {a b : Array Keyed} {l r : Nat} (h : Chg a b l r) : b.size = a.size := by
  have := (Array.perm_iff_toList_perm.mp h.perm).length_eq; simpa using this
theorem Chg.kp {a b : Array Keyed} {l r : Nat} (h : Chg a b l r) {i : Nat} (hi : i < l ∨ r ≤ i) : kp ky b i = kp ky a i := kp_congr (h.same i hi)
theorem chg_mirror (a : Array Keyed) {i j : Nat} (hj : j ≤ a.size) : Chg a (mirror a i j ((j - i) / 2)) i j := by
  refine ⟨mirror_perm a i j _, fun k hk => ?_⟩
  rw [getElem?_mirror_all hj, if_neg (by omega)]
theorem chg_bub (a : Array Keyed) {src d : Nat} (hs : src < a.size) (hd : d ≤ src) : Chg a (bubble a src d) (src - d) (src + 1) := by
  refine ⟨bubble_perm a src d, fun k hk => ?_⟩
  rw [getElem?_bubble hs d hd, if_neg (by omega), if_neg (by omega)]
variable {prog : Program} {w : World} {A : Around} {E : Value → Shared → Prop} {s : Shared} {κ : SortKind} {P : Keyed → Prop}
def AllP (P : Keyed → Prop) (a : Array Keyed) : Prop := ∀ x, x ∈ a → P x
theorem AllP.at {a : Array Keyed} (h : AllP P a) (i : Nat) (hi : i < a.size) : P a[i] := h _ (Array.getElem_mem hi)
theorem AllP.perm {a b : Array Keyed} (h : AllP P a) (e : b.Perm a) : AllP P b := fun x hx => h x ((Array.Perm.mem_iff e).mp hx)
theorem sS_ltAt (hc : CmpOk prog w A s κ P ky) {a : Array Keyed} {pd : Array (Nat × Nat × Nat)} {g : Nat} {fl : Option Value} (hP : AllP P a) {i j : Nat} {Q : Option Bool → SortSt → Prop} (hi : i < a.size) (hj : j < a.size) (h : Q (some (decide (kp ky a i < kp ky a j))) (SortSt.mk' κ a pd g fl)) : wpS (model prog w) A E s (ltAt' i j) Q (SortSt.mk' κ a pd g fl) := by
  rw [ltAt'_eq]
  refine wpS_bind (wpS_get ?_)
  refine wpS_bind (sS_elem hi ?_)
  refine wpS_bind (sS_elem hj ?_)
  rw [kp_at hi, kp_at hj] at h
  exact sS_lt hc rfl (hP.at _ hi) (hP.at _ hj) h
theorem sS_rev {a : Array Keyed} {pd : Array (Nat × Nat × Nat)} {g : Nat} {fl : Option Value} {i j : Nat} {Q : Unit → SortSt → Prop} (h : Q () (SortSt.mk' κ (mirror a i j ((j - i) / 2)) pd g fl)) : wpS (model prog w) A E s (reverseSlice' i j) Q (SortSt.mk' κ a pd g fl) := wpS_reverse h
theorem sS_countRun (hc : CmpOk prog w A s κ P ky) {a : Array Keyed} {pd : Array (Nat × Nat × Nat)} {g : Nat} {fl : Option Value} (hP : AllP P a) {lo nrem : Nat} {Q : Option Nat → SortSt → Prop} (hn : 1 ≤ nrem) (hs : lo + nrem ≤ a.size)
    (hQ : ∀ m a', 1 ≤ m → m ≤ nrem → Chg a a' lo (lo + nrem) → SoR ky a' lo (lo + m) → Q (some m) (SortSt.mk' κ a' pd g fl)) : wpS (model prog w) A E s (countRun' lo nrem) Q (SortSt.mk' κ a pd g fl) := by
  have asc : ∀ (a : Array Keyed), AllP P a → lo + nrem ≤ a.size → ∀ n, 1 ≤ n → n ≤ nrem → SoR ky a lo (lo + n) → ∀ (body : Nat → Option (Option Nat) × Nat → StateT SortSt Sem (ForInStep (Option (Option Nat) × Nat))) (R : Option (Option Nat) × Nat → SortSt → Prop),
      (∀ x c, body x c = do
        let r ← ltAt' (lo + c.2) (lo + c.2 - 1)
        match r with
        | some smaller => if smaller = true then pure (ForInStep.done (none, c.2)) else pure (ForInStep.yield (none, c.2 + 1))
        | x => pure (ForInStep.done (some none, c.2))) →
      (∀ m, n ≤ m → m ≤ nrem → SoR ky a lo (lo + m) → (m < nrem → kp ky a (lo + m) < kp ky a (lo + m - 1)) → R (none, m) (SortSt.mk' κ a pd g fl)) → wpS (model prog w) A E s (forIn [n:nrem] (none, n) body) R (SortSt.mk' κ a pd g fl) := by
    intro a hP hs n h1 h2 hS body R hbody hR
    refine wpS_forRange (fun (t : Nat) (c : Option (Option Nat) × Nat) (st' : SortSt) => st' = SortSt.mk' κ a pd g fl ∧ c = (none, t) ∧ SoR ky a lo (lo + t)) ?_ ?_ ⟨rfl, rfl, hS⟩
    · rintro t c st' ht1 ht2 ⟨rfl, rfl, hSo⟩
      rw [hbody]
      refine wpS_bind (sS_ltAt hc hP (by simp only; omega) (by simp only; omega) ?_)
      refine sS_ite (fun hv => ?_) (fun hv => ?_)
      · exact wpS_pure (hR t ht1 (by omega) hSo (fun _ => of_decide_eq_true hv))
      · have hv := fun z => hv (decide_eq_true z)
        exact wpS_pure ⟨rfl, rfl, SoR.next (r := lo + t) hSo (by omega) (Int.not_lt.mp hv)⟩
    · rintro c st' ⟨rfl, rfl, hSo⟩
      have : max n nrem = nrem := by omega
      rw [this] at hSo ⊢
      exact hR nrem h2 (Nat.le_refl _) hSo (fun z => by omega)
  have one : SoR ky a lo (lo + 1) := fun i j hi hij hj => by
    have : i = j := by omega
    rw [this]; exact Int.le_refl _
  rw [countRun'_eq]
  refine wpS_bind (asc a hP hs 1 (Nat.le_refl _) hn one _ _ (fun x c => rfl) ?_)
  intro n hn1 hn2 hSo hlast
  refine sS_ite (fun h1 => ?_) (fun h1 => ?_)
  · exact wpS_pure (hQ n a hn1 hn2 (Chg.refl _ _ _) hSo)
  · simp only [beq_iff_eq] at h1
    have hl := hlast (by omega)
    refine sS_ite (fun h2 => wpS_bind (sS_ltAt hc hP (by omega) (by omega) (sS_ite (fun h3 => wpS_pure (hQ n a hn1 hn2 (Chg.refl _ _ _) hSo)) (fun h3 => wpS_bind (sS_rev ?_))))) (fun h2 => ?_)
    focus
      have h3 : ¬ kp ky a lo < kp ky a (lo + n - 1) := fun z => h3 (decide_eq_true z)
      have heq : ∀ x, lo ≤ x → x < lo + n → kp ky a x = kp ky a (lo + n - 1) := fun x x1 x2 => by
        have := hSo lo x (by omega) (by omega) x2
        have := hSo x (lo + n - 1) x1 (by omega) (by omega)
        omega
      have ek := kp_mirror_eq (ky := ky) (i := lo) (j := lo + n) (by omega) heq
      have hC := (chg_mirror a (i := lo) (j := lo + n) (by omega)).wide (l' := lo) (r' := lo + nrem) (Nat.le_refl _) (by omega)
      have hD : DeR ky (mirror a lo (lo + n) ((lo + n - lo) / 2)) lo (lo + n + 1) := by
        refine DeR.congr (a := a) ?_ (fun i _ _ => ek i)
        refine DeR.next (fun i j hi hij hj => ?_) (by omega) (Int.le_of_lt hl)
        rw [heq i hi (by omega), heq j (by omega) hj]; exact Int.le_refl _
    rotate_left
    focus
      have hn0 : n = 1 := by omega
      subst hn0
      have hC := Chg.refl a lo (lo + nrem)
      have hD : DeR ky a lo (lo + 1 + 1) := by
        refine DeR.next (fun i j hi hij hj => ?_) (by omega) (Int.le_of_lt hl)
        have : i = j := by omega
        rw [this]; exact Int.le_refl _
    all_goals
      have hP1 := hP.perm hC.perm
      have hs1 := hC.size
      refine wpS_bind (wpS_lift (wpAny_rule ⟨rfl, ?_⟩))
      refine wpS_bind (wpS_mono (Q := fun (c : Option (Option Nat) × Nat × Nat) (st' : SortSt) => ∃ a', st' = SortSt.mk' κ a' pd g fl ∧ Chg a a' lo (lo + nrem) ∧ c.1 = none ∧ 1 ≤ c.2.1 ∧ c.2.1 ≤ nrem ∧ DeR ky a' lo (lo + c.2.1) ∧ c.2.2 + 1 ≤ c.2.1 ∧ ∀ x, lo + c.2.1 - (c.2.2 + 1) ≤ x → x < lo + c.2.1 → kp ky a' x = kp ky a' (lo + c.2.1 - 1)) (wpS_forRange (fun (t : Nat) (c : Option (Option Nat) × Nat × Nat) (st' : SortSt) => ∃ a', st' = SortSt.mk' κ a' pd g fl ∧ Chg a a' lo (lo + nrem) ∧ c.1 = none ∧ c.2.1 = t ∧ DeR ky a' lo (lo + c.2.1) ∧ c.2.2 + 1 ≤ c.2.1 ∧ ∀ x, lo + c.2.1 - (c.2.2 + 1) ≤ x → x < lo + c.2.1 → kp ky a' x = kp ky a' (lo + c.2.1 - 1)) ?_ ?_ ⟨_, rfl, hC, rfl, rfl, hD, by simp only; omega, fun x x1 x2 => by simp only at x1 x2 ⊢; congr 1; omega⟩) ?_)
      · rintro t c st' ht1 ht2 ⟨a1, rfl, hC1, e1, e2, hD1, hq, heq⟩
        have hP2 := hP.perm hC1.perm
        have hs2 := hC1.size
        refine wpS_bind (sS_ltAt hc hP2 (by omega) (by omega) (sS_ite (fun h3 => ?_) (fun h3 => wpS_bind (sS_ltAt hc hP2 (by omega) (by omega) (sS_ite (fun h4 => ?_) (fun h4 => ?_))))))
        · have h3 := of_decide_eq_true h3
          have hr := kp_mirror_eq (ky := ky) (i := lo + c.2.1 - (c.2.2 + 1)) (j := lo + c.2.1) (by omega) heq
          refine sS_ite (fun h5 => wpS_bind (sS_rev (wpS_pure ⟨_, rfl, hC1.trans ((chg_mirror a1 (by omega)).wide (by omega) (by omega)), rfl, by simp only; omega, ?_, by simp only; omega, fun x x1 x2 => by simp only at x1 x2 ⊢; congr 1; omega⟩))) (fun h5 => wpS_pure ⟨_, rfl, hC1, rfl, by simp only; omega, ?_, by simp only; omega, fun x x1 x2 => by simp only at x1 x2 ⊢; congr 1; omega⟩)
          · exact DeR.congr (a := a1) (DeR.next (r := lo + c.2.1) hD1 (by omega) (Int.le_of_lt h3)) (fun i _ _ => hr i)
          · exact DeR.next (r := lo + c.2.1) hD1 (by omega) (Int.le_of_lt h3)
        · exact wpS_pure ⟨_, rfl, hC1, rfl, by simp only; omega, by simp only; omega, hD1, hq, heq⟩
        · have h3 := Int.not_lt.mp fun z => h3 (decide_eq_true z)
          have h4 := Int.not_lt.mp fun z => h4 (decide_eq_true z)
          have e5 : kp ky a1 (lo + c.2.1) = kp ky a1 (lo + c.2.1 - 1) := Int.le_antisymm h4 h3
          refine wpS_pure ⟨_, rfl, hC1, rfl, by simp only; omega, DeR.next (r := lo + c.2.1) hD1 (by omega) h4, by simp only; omega, ?_⟩
          intro x x1 x2
          simp only at x1 x2 ⊢
          have e6 : lo + (c.2.1 + 1) - 1 = lo + c.2.1 := by omega
          rw [e6, e5]
          by_cases ex : x = lo + c.2.1
          · rw [ex, e5]
          · exact heq x (by omega) (by omega)
      · rintro c st' ⟨a1, rfl, hC1, e1, e2, hD1, hq, heq⟩
        exact ⟨a1, rfl, hC1, e1, by omega, by omega, hD1, hq, heq⟩
      · rintro ⟨r, n2, neq⟩ st' ⟨a1, rfl, hC1, e1, m1, m2, hD1, hq, heq⟩
        simp only at e1 m1 m2 hD1 hq heq
        subst e1
        have hs2 := hC1.size
        have fin : ∀ a2, Chg a a2 lo (lo + nrem) → DeR ky a2 lo (lo + n2) → Chg a (mirror a2 lo (lo + n2) ((lo + n2 - lo) / 2)) lo (lo + nrem) ∧ SoR ky (mirror a2 lo (lo + n2) ((lo + n2 - lo) / 2)) lo (lo + n2) := by
          intro a2 hC2 hD2
          have := hC2.size
          refine ⟨hC2.trans ((chg_mirror a2 (by omega)).wide (by omega) (by omega)), ?_⟩
          intro i j hi hij hj
          rw [kp_mirror (by omega), kp_mirror (by omega), if_pos ⟨hi, by omega⟩, if_pos ⟨by omega, hj⟩]
          exact hD2 _ _ (by omega) (by omega) (by omega)
        have hr := kp_mirror_eq (ky := ky) (i := lo + n2 - (neq + 1)) (j := lo + n2) (by omega) heq
        have C3 := hC1.trans ((chg_mirror a1 (i := lo + n2 - (neq + 1)) (j := lo + n2) (by omega)).wide (l' := lo) (r' := lo + nrem) (by omega) (by omega))
        have F1 := fin _ C3 (DeR.congr (a := a1) hD1 (fun i _ _ => hr i))
        have F2 := fin _ hC1 hD1
        refine sS_ite (fun h5 => wpS_bind (sS_rev (wpS_bind (sS_rev (wpS_bind (asc _ (hP.perm F1.1.perm) (by have := F1.1.size; omega) n2 m1 m2 F1.2 _ _ (fun x c => rfl) (fun m z1 z2 z3 _ => ?_))))))) (fun h5 => wpS_bind (sS_rev (wpS_bind (asc _ (hP.perm F2.1.perm) (by have := F2.1.size; omega) n2 m1 m2 F2.2 _ _ (fun x c => rfl) (fun m z1 z2 z3 _ => ?_)))))
        · exact wpS_pure (hQ m _ (by omega) z2 F1.1 z3)
        · exact wpS_pure (hQ m _ (by omega) z2 F2.1 z3)
theorem sS_binarySort (hc : CmpOk prog w A s κ P ky) {a : Array Keyed} {pd : Array (Nat × Nat × Nat)} {g : Nat} {fl : Option Value} (hP : AllP P a) {lo n ok : Nat} {Q : Bool → SortSt → Prop} (hs : lo + n ≤ a.size) (hok : ok ≤ n) (hS : SoR ky a lo (lo + ok))
    (hQ : ∀ a', Chg a a' lo (lo + n) → SoR ky a' lo (lo + n) → Q true (SortSt.mk' κ a' pd g fl)) : wpS (model prog w) A E s (binarySort' lo n ok) Q (SortSt.mk' κ a pd g fl) := by
  rw [binarySort'_eq]
  have h1 : SoR ky a lo (lo + max ok 1) := by
    by_cases h : 1 ≤ ok
    · rw [Nat.max_eq_left h]; exact hS
    · intro i j hi hij hj
      have : i = j := by omega
      rw [this]; exact Int.le_refl _
  refine wpS_bind (wpS_mono (Q := fun (c : Option Bool × Unit) (st' : SortSt) => ∃ a', st' = SortSt.mk' κ a' pd g fl ∧ c.1 = none ∧ Chg a a' lo (lo + n) ∧ SoR ky a' lo (lo + n)) (wpS_forRange (fun (k : Nat) (c : Option Bool × Unit) (st' : SortSt) => ∃ a', st' = SortSt.mk' κ a' pd g fl ∧ c.1 = none ∧ Chg a a' lo (lo + n) ∧ SoR ky a' lo (lo + k)) ?_ ?_ ⟨a, rfl, rfl, Chg.refl _ _ _, h1⟩) ?_)
  · rintro k c st' k1 k2 ⟨a1, rfl, e1, hC, hSo⟩
    have hP1 := hP.perm hC.perm
    have hs1 := hC.size
    refine wpS_bind (wpS_mono (Q := fun (c : Option Bool × Nat × Nat) (st' : SortSt) => st' = SortSt.mk' κ a1 pd g fl ∧ c.1 = none ∧ c.2.1 ≤ k ∧ (∀ i, i < c.2.1 → kp ky a1 (lo + i) ≤ kp ky a1 (lo + k)) ∧ (∀ i, c.2.1 ≤ i → i < k → kp ky a1 (lo + k) < kp ky a1 (lo + i))) (wpS_forRange (fun (t : Nat) (c : Option Bool × Nat × Nat) (st' : SortSt) => st' = SortSt.mk' κ a1 pd g fl ∧ c.1 = none ∧ c.2.1 ≤ c.2.2 ∧ c.2.2 ≤ k ∧ c.2.2 - c.2.1 ≤ k - t ∧ (∀ i, i < c.2.1 → kp ky a1 (lo + i) ≤ kp ky a1 (lo + k)) ∧ (∀ i, c.2.2 ≤ i → i < k → kp ky a1 (lo + k) < kp ky a1 (lo + i))) ?_ ?_ ⟨rfl, rfl, Nat.zero_le _, Nat.le_refl _, Nat.le_refl _, fun i hi => absurd hi (Nat.not_lt_zero _), fun i x1 x2 => by simp only at x1; omega⟩) ?_)
    · rintro t c st' t1 t2 ⟨rfl, e1, b1, b2, b3, b4, b5⟩
      refine sS_ite (fun h => wpS_pure ⟨rfl, rfl, by simp only; omega, b4, fun i x1 x2 => b5 i (by simp only at x1; omega) x2⟩) (fun h => wpS_bind (sS_ltAt hc hP1 (by omega) (by omega) (sS_ite (fun h3 => ?_) (fun h3 => ?_))))
      · have h3 := of_decide_eq_true h3
        refine wpS_pure ⟨rfl, rfl, by simp only; omega, by simp only; omega, by simp only; omega, b4, ?_⟩
        intro i x1 x2
        simp only at x1
        exact Int.lt_of_lt_of_le h3 (hSo _ _ (by omega) (by omega) (by omega))
      · have h3 := Int.not_lt.mp fun z => h3 (decide_eq_true z)
        refine wpS_pure ⟨rfl, rfl, by simp only; omega, by simp only; omega, by simp only; omega, ?_, b5⟩
        intro i x1
        simp only at x1
        exact Int.le_trans (hSo _ _ (by omega) (by omega) (by omega)) h3
    · rintro c st' ⟨rfl, e1, b1, b2, b3, b4, b5⟩
      exact ⟨rfl, e1, by omega, b4, fun i x1 x2 => b5 i (by omega) x2⟩
    · rintro ⟨r, l, r2⟩ st' ⟨rfl, e2, b1, b4, b5⟩
      simp only at e2 b1 b4 b5
      subst e2
      simp only [moveDown'_eq]
      refine wpS_bind (wpS_modify (wpS_pure ⟨_, rfl, rfl, hC.trans ((chg_bub a1 (src := lo + k) (d := lo + k - (lo + l)) (by omega) (by omega)).wide (by omega) (by omega)), ?_⟩))
      intro i j hi hij hj
      have ed : lo + k - (lo + k - (lo + l)) = lo + l := by omega
      show kp ky (bubble a1 (lo + k) (lo + k - (lo + l))) i ≤ kp ky (bubble a1 (lo + k) (lo + k - (lo + l))) j
      rw [kp_bub (by omega) (by omega), kp_bub (by omega) (by omega), ed]
      have big : ∀ x, lo ≤ x → x < lo + k → ∃ y, x = lo + y ∧ y < k := fun x x1 x2 => ⟨x - lo, by omega, by omega⟩
      by_cases c1 : i = lo + l
      · rw [if_pos c1]
        by_cases c2 : j = lo + l
        · rw [if_pos c2]; exact Int.le_refl _
        · rw [if_neg c2, if_pos ⟨by omega, by omega⟩]
          obtain ⟨y, hy, hyk⟩ := big (j - 1) (by omega) (by omega)
          rw [hy]; exact Int.le_of_lt (b5 y (by omega) hyk)
      · rw [if_neg c1]
        by_cases c2 : j = lo + l
        · rw [if_pos c2, if_neg (by omega)]
          obtain ⟨y, hy, hyk⟩ := big i (by omega) (by omega)
          rw [hy]; exact b4 y (by omega)
        · rw [if_neg c2]
          split <;> split
          · exact hSo _ _ (by omega) (by omega) (by omega)
          · omega
          · exact hSo _ _ (by omega) (by omega) (by omega)
          · exact hSo _ _ (by omega) (by omega) (by omega)
  · rintro c st' ⟨a1, rfl, e1, hC, hSo⟩
    exact ⟨a1, rfl, e1, hC, fun i j hi hij hj => hSo i j hi hij (by omega)⟩
  · rintro ⟨r, u⟩ st' ⟨a1, rfl, e1, hC, hSo⟩
    simp only at e1
    subst e1
    exact wpS_pure (hQ a1 hC hSo)
end
section
variable {ky : Keyed → Int}
def RunsL (ky : Keyed → Int) (a : Array Keyed) : List (Nat × Nat × Nat) → Nat → Nat → Prop
  | [], x, y => x = y
  | r :: l, x, y => r.1 = x ∧ 1 ≤ r.2.1 ∧ SoR ky a x (x + r.2.1) ∧ RunsL ky a l (x + r.2.1) y
variable {a a' : Array Keyed}
theorem RunsL.app : ∀ {l m : List (Nat × Nat × Nat)} {x z : Nat}, RunsL ky a (l ++ m) x z ↔ ∃ y, RunsL ky a l x y ∧ RunsL ky a m y z
  | [], m, x, z => ⟨fun h => ⟨x, rfl, h⟩, fun ⟨y, e, h⟩ => by cases e; exact h⟩
  | r :: l, m, x, z => by
    constructor
    · rintro ⟨h1, h2, h3, h4⟩
      obtain ⟨y, q1, q2⟩ := RunsL.app.mp h4
      exact ⟨y, ⟨h1, h2, h3, q1⟩, q2⟩
    · rintro ⟨y, ⟨h1, h2, h3, h4⟩, q⟩
      exact ⟨h1, h2, h3, RunsL.app.mpr ⟨y, h4, q⟩⟩
theorem RunsL.le : ∀ {l : List (Nat × Nat × Nat)} {x y : Nat}, RunsL ky a l x y → x + l.length ≤ y
  | [], x, y, h => by cases h; exact Nat.le_refl _
  | r :: l, x, y, ⟨_, h2, _, h4⟩ => by have := h4.le; simp only [List.length_cons]; omega
theorem RunsL.congr : ∀ {l : List (Nat × Nat × Nat)} {x y : Nat}, RunsL ky a l x y → (∀ i, x ≤ i → i < y → kp ky a' i = kp ky a i) → RunsL ky a' l x y
  | [], x, y, h, _ => h
  | r :: l, x, y, ⟨h1, h2, h3, h4⟩, e => by
    have := h4.le
    exact ⟨h1, h2, h3.congr (fun i x1 x2 => e i x1 (by omega)), h4.congr (fun i x1 x2 => e i (by omega) x2)⟩
theorem RunsL.powers : ∀ {l m : List (Nat × Nat × Nat)} {x y : Nat}, RunsL ky a l x y → l.map (fun r => (r.1, r.2.1)) = m.map (fun r => (r.1, r.2.1)) → RunsL ky a m x y
  | [], [], x, y, h, _ => h
  | r :: l, q :: m, x, y, ⟨h1, h2, h3, h4⟩, e => by
    simp only [List.map_cons, List.cons.injEq, Prod.mk.injEq] at e
    obtain ⟨⟨e1, e2⟩, e3⟩ := e
    refine ⟨e1 ▸ h1, e2 ▸ h2, e2 ▸ h3, ?_⟩
    rw [← e2]; exact h4.powers e3
  | [], _ :: _, _, _, _, e => by cases e
  | _ :: _, [], _, _, _, e => by cases e
theorem foldSet (base : Nat) : ∀ (m : List Keyed) (n : Nat) (a : Array Keyed), base + n + m.length ≤ a.size →
    (List.foldl (fun (a : Array Keyed) (x : Keyed × Nat) => a.setIfInBounds (base + x.2) x.1) a (m.zipIdx n)).toList = a.toList.take (base + n) ++ m ++ a.toList.drop (base + n + m.length)
  | [], n, a, h => by simp
  | x :: m, n, a, h => by
    simp only [List.length_cons] at h
    rw [List.zipIdx_cons, List.foldl_cons, foldSet base m (n + 1) _ (by simp; omega)]
    simp only [Array.toList_setIfInBounds, List.length_cons]
    have e1 : (a.toList.set (base + n) x).take (base + (n + 1)) = a.toList.take (base + n) ++ [x] := by
      rw [← Nat.add_assoc, List.take_add_one, List.take_set, List.getElem?_set]
      rw [List.set_eq_of_length_le (by simp; omega)]
      simp [show base + n < a.size by omega]
    have e2 : (a.toList.set (base + n) x).drop (base + (n + 1) + m.length) = a.toList.drop (base + n + (m.length + 1)) := by
      rw [List.drop_set_of_lt (by omega)]
      congr 1; omega
    rw [e1, e2]
    simp
variable {prog : Program} {w : World} {A : Around} {E : Value → Shared → Prop} {s : Shared} {κ : SortKind} {P : Keyed → Prop}
theorem srt_extract {l r : Nat} (h : SoR ky a l r) (hr : r ≤ a.size) : Srt ky (a.extract l r).toList := by
  unfold Srt
  rw [List.pairwise_iff_getElem]
  intro i j hi hj hij
  simp only [Array.length_toList, Array.size_extract] at hi hj
  simp only [Array.getElem_toList, Array.getElem_extract]
  rw [← kp_at (ky := ky) (a := a) (by omega), ← kp_at (ky := ky) (a := a) (by omega)]
  exact h _ _ (by omega) (by omega) (by omega)

theorem laid {base mid r : Nat} {res : Array Keyed} (h1 : base ≤ mid) (h2 : mid ≤ r) (h3 : r ≤ a.size) (hg : Gd ky (a.extract base mid).toList (a.extract mid r).toList res.toList) :
    ∃ a' : Array Keyed, List.foldl (fun (a : Array Keyed) (x : Keyed × Nat) => a.setIfInBounds (base + x.2) x.1) a res.toList.zipIdx = a' ∧ Chg a a' base r ∧ SoR ky a' base r ∧ ∀ j, base ≤ j → j < r → ∃ t, base ≤ t ∧ t < r ∧ kp ky a' j = kp ky a t := by
  have hlen : res.toList.length = r - base := by
    have := hg.1.length_eq
    simp only [List.length_append, Array.length_toList, Array.size_extract] at this ⊢; omega
  have key := foldSet base res.toList 0 a (by omega)
  have hb : base + 0 + res.toList.length = r := by omega
  rw [hb, Nat.add_zero] at key
  refine ⟨_, rfl, ⟨?_, ?_⟩, ?_, ?_⟩
  · rw [Array.perm_iff_toList_perm, key]
    have e : a.toList = a.toList.take base ++ ((a.extract base mid).toList ++ (a.extract mid r).toList) ++ a.toList.drop r := by
      simp only [Array.toList_extract, List.extract_eq_drop_take]
      have : (a.toList.drop base).take (mid - base) ++ (a.toList.drop mid).take (r - mid) = (a.toList.drop base).take (r - base) := by
        have e2 : r - base = (mid - base) + (r - mid) := by omega
        rw [e2, List.take_add, List.drop_drop]
        congr 3; omega
      rw [this]
      have e3 : a.toList.drop r = (a.toList.drop base).drop (r - base) := by rw [List.drop_drop]; congr 1; omega
      rw [e3, List.append_assoc, List.take_append_drop, List.take_append_drop]
    conv => rhs; rw [e]
    exact List.Perm.append_right _ (List.Perm.append_left _ hg.1)
  · intro i hi
    rw [← Array.getElem?_toList, ← Array.getElem?_toList, key]
    have hl0 : (a.toList.take base).length = base := by simp; omega
    rcases hi with hi | hi
    · rw [List.append_assoc, List.getElem?_append_left (by omega), List.getElem?_take_of_lt hi]
    · rw [List.getElem?_append_right (by simp; simp at hlen; omega), List.getElem?_drop]
      congr 1
      simp only [List.length_append, hl0, hlen]; omega
  all_goals
    have atm : ∀ j, (hj0 : base ≤ j) → (hj : j < r) → kp ky (List.foldl (fun (a : Array Keyed) (x : Keyed × Nat) => a.setIfInBounds (base + x.2) x.1) a res.toList.zipIdx) j = ky (res.toList[j - base]'(by omega)) := by
      intro j j1 j2
      have hl0 : (a.toList.take base).length = base := by simp; omega
      have : (List.foldl (fun (a : Array Keyed) (x : Keyed × Nat) => a.setIfInBounds (base + x.2) x.1) a res.toList.zipIdx)[j]? = some (res.toList[j - base]'(by omega)) := by
        rw [← Array.getElem?_toList, key, List.append_assoc, List.getElem?_append_right (by omega), List.getElem?_append_left (by omega), hl0, List.getElem?_eq_getElem (by omega)]
      unfold kp
      rw [Array.getD_eq_getD_getElem?, this]; rfl
  · intro i j hi hij hj
    rw [atm i hi (by omega), atm j (by omega) hj]
    by_cases e : i = j
    · subst e; exact Int.le_refl _
    · exact List.pairwise_iff_getElem.mp hg.2 _ _ _ _ (by omega)
  · intro j j1 j2
    rw [atm j j1 j2]
    have hm : (res.toList[j - base]'(by omega)) ∈ (a.extract base mid).toList ++ (a.extract mid r).toList := (List.Perm.mem_iff hg.1).mp (List.getElem_mem _)
    rcases List.mem_append.mp hm with hm | hm
    · obtain ⟨t, ht, e⟩ := List.mem_iff_getElem.mp hm
      simp only [Array.length_toList, Array.size_extract] at ht
      simp only [Array.getElem_toList, Array.getElem_extract] at e
      exact ⟨base + t, by omega, by omega, by rw [kp_at (by omega), e, Array.getElem_toList]⟩
    · obtain ⟨t, ht, e⟩ := List.mem_iff_getElem.mp hm
      simp only [Array.length_toList, Array.size_extract] at ht
      simp only [Array.getElem_toList, Array.getElem_extract] at e
      exact ⟨mid + t, by omega, by omega, by rw [kp_at (by omega), e, Array.getElem_toList]⟩
theorem sS_mergeAt (hc : CmpOk prog w A s κ P ky) {pd : Array (Nat × Nat × Nat)} {g : Nat} (hP : AllP P a) {i sa na p sb nb p' : Nat} {Q : Bool → SortSt → Prop} (h1 : pd[i]? = some (sa, na, p)) (h2 : pd[i + 1]? = some (sb, nb, p')) (hsb : sb = sa + na) (hna : 1 ≤ na) (hnb : 1 ≤ nb) (hs : sb + nb ≤ a.size) (hSa : SoR ky a sa sb) (hSb : SoR ky a sb (sb + nb))
    (hQ : ∀ a' g', Chg a a' sa (sb + nb) → SoR ky a' sa (sb + nb) → Q true (SortSt.mk' κ a' ((pd.setIfInBounds i (sa, na + nb, p)).eraseIdxIfInBounds (i + 1)) g' none)) :
    wpS (model prog w) A E s (mergeAt' i) Q (SortSt.mk' κ a pd g none) := by
  refine wpS_bind (wpS_get ?_)
  simp only [h1, h2]
  refine wpS_bind (wpS_modify ?_)
  have kat : ∀ j, (h : j < a.size) → kp ky a j = ky a[j] := fun j h => kp_at h
  refine wpS_bind (sS_elem (by omega : sb < a.size) ?_)
  refine wpS_bind (sS_gallop (f := fun j => !decide (kp ky a sb < kp ky a (sa + j))) hc rfl (hP.at _ _) hP.at (by omega) (by omega) (fun j h => by rw [kat _ h, kat sb (by omega)]; simp) ?_ ?_)
  · intro x y hxy hy hfy
    simp only [Bool.not_eq_true', decide_eq_false_iff_not, Int.not_lt] at hfy ⊢
    exact Int.le_trans (hSa _ _ (by omega) (by omega) (by omega)) hfy
  intro k hk1 hk2 hk3
  simp only [Bool.not_eq_true', decide_eq_false_iff_not, Int.not_lt, Bool.not_eq_false', decide_eq_true_eq] at hk2 hk3
  have pre : ∀ x, sa ≤ x → x < sa + k → kp ky a x ≤ kp ky a sb := fun x x1 x2 => by
    have := hk2 (x - sa) (by omega)
    rwa [(by omega : sa + (x - sa) = x)] at this
  refine sS_ite (fun h3 => wpS_pure (hQ a g (Chg.refl _ _ _) ?_)) (fun h3 => ?_)
  · simp only [beq_iff_eq] at h3
    intro x y hx hxy hy
    by_cases c1 : y < sb
    · exact hSa x y hx hxy c1
    · by_cases c2 : x < sb
      · exact Int.le_trans (pre x hx (by omega)) (hSb sb y (Nat.le_refl _) (by omega) hy)
      · exact hSb x y (by omega) hxy hy
  · simp only [beq_iff_eq] at h3
    have post1 : kp ky a sb < kp ky a (sa + k) := hk3 k (Nat.le_refl _) (by omega)
    refine wpS_bind (sS_elem (by omega : sa + k + (na - k) - 1 < a.size) ?_)
    refine wpS_bind (sS_gallop (f := fun j => decide (kp ky a (sb + j) < kp ky a (sb - 1))) hc rfl (hP.at _ _) hP.at (by omega) (by omega) (fun j h => by
      have e : sb - 1 = sa + k + (na - k) - 1 := by omega
      rw [kat _ h, e, kat _ (by omega)]; simp) ?_ ?_)
    · intro x y hxy hy hfy
      simp only [decide_eq_true_eq] at hfy ⊢
      exact Int.lt_of_le_of_lt (hSb _ _ (by omega) (by omega) (by omega)) hfy
    intro n2 q1 q2 q3
    simp only [decide_eq_true_eq, decide_eq_false_iff_not, Int.not_lt] at q2 q3
    refine sS_ite (fun h4 => wpS_pure (hQ a g (Chg.refl _ _ _) ?_)) (fun h4 => ?_)
    · simp only [beq_iff_eq] at h4
      have := q3 0 (by omega) (by omega)
      have := hSa (sa + k) (sb - 1) (by omega) (by omega) (by omega)
      rw [Nat.add_zero] at *
      omega
    · simp only [beq_iff_eq] at h4
      have fin : ∀ res : Array Keyed, Gd ky (a.extract (sa + k) sb).toList (a.extract sb (sb + n2)).toList res.toList → ∃ a' : Array Keyed, List.foldl (fun (a : Array Keyed) (x : Keyed × Nat) => a.setIfInBounds (sa + k + x.2) x.1) a res.toList.zipIdx = a' ∧ Chg a a' sa (sb + nb) ∧ SoR ky a' sa (sb + nb) := by
        intro res hg
        obtain ⟨a', e, c, so, mem⟩ := laid (by omega) (by omega) (by omega) hg
        refine ⟨a', e, c.wide (by omega) (by omega), ?_⟩
        have low : ∀ x t, sa ≤ x → x < sa + k → sa + k ≤ t → t < sb + n2 → kp ky a x ≤ kp ky a t := by
          intro x t x1 x2 t1 t2
          by_cases c1 : t < sb
          · exact hSa x t x1 (by omega) c1
          · exact Int.le_trans (pre x x1 x2) (hSb sb t (Nat.le_refl _) (by omega) (by omega))
        have high : ∀ x t, sb + n2 ≤ x → x < sb + nb → sa + k ≤ t → t < sb + n2 → kp ky a t ≤ kp ky a x := by
          intro x t x1 x2 t1 t2
          have h5 : kp ky a (sb - 1) ≤ kp ky a x := by
            have := q3 (x - sb) (by omega) (by omega)
            rwa [(by omega : sb + (x - sb) = x)] at this
          by_cases c1 : t < sb
          · exact Int.le_trans (hSa t (sb - 1) (by omega) (by omega) (by omega)) h5
          · exact hSb t x (by omega) (by omega) (by omega)
        intro x y hx hxy hy
        by_cases x1 : x < sa + k
        · rw [c.kp (.inl x1)]
          by_cases y1 : y < sa + k
          · rw [c.kp (.inl y1)]; exact hSa x y hx hxy (by omega)
          · by_cases y2 : y < sb + n2
            · obtain ⟨t, t1, t2, e2⟩ := mem y (by omega) y2
              rw [e2]; exact low x t hx x1 t1 t2
            · rw [c.kp (.inr (by omega))]
              exact Int.le_trans (low x (sa + k) hx x1 (Nat.le_refl _) (by omega)) (high y (sa + k) (by omega) hy (Nat.le_refl _) (by omega))
        · by_cases x2 : x < sb + n2
          · by_cases y2 : y < sb + n2
            · exact so x y (by omega) hxy y2
            · obtain ⟨t, t1, t2, e2⟩ := mem x (by omega) x2
              rw [e2, c.kp (.inr (by omega))]; exact high y t (by omega) hy t1 t2
          · rw [c.kp (.inr (by omega)), c.kp (.inr (by omega))]
            exact hSb x y (by omega) hxy hy
      have Sx := srt_extract (ky := ky) (a := a) (l := sa + k) (r := sb) (fun x y x1 x2 x3 => hSa x y (by omega) x2 x3) (by omega)
      have Sy := srt_extract (ky := ky) (a := a) (l := sb) (r := sb + n2) (fun x y x1 x2 x3 => hSb x y (by omega) x2 (by omega)) (by omega)
      have px : ∀ j, (h : j < (a.extract (sa + k) sb).size) → P (a.extract (sa + k) sb)[j] := fun j h => by rw [Array.getElem_extract]; exact hP.at _ _
      have py : ∀ j, (h : j < (a.extract sb (sb + n2)).size) → P (a.extract sb (sb + n2))[j] := fun j h => by rw [Array.getElem_extract]; exact hP.at _ _
      have zx : 0 < (a.extract (sa + k) sb).size := by rw [Array.size_extract]; omega
      have zy : 0 < (a.extract sb (sb + n2)).size := by rw [Array.size_extract]; omega
      have c0 : ky (a.extract sb (sb + n2))[0] ≤ ky (a.extract (sa + k) sb)[0] := by
        rw [Array.getElem_extract, Array.getElem_extract, ← kat _ (by omega), ← kat _ (by omega)]
        exact Int.le_of_lt post1
      have cl : ∀ j, (h : j < (a.extract sb (sb + n2)).size) → ky (a.extract sb (sb + n2))[j] ≤ ky ((a.extract (sa + k) sb)[(a.extract (sa + k) sb).size - 1]'(by omega)) := by
        intro j h
        rw [Array.size_extract] at h
        rw [Array.getElem_extract, Array.getElem_extract, ← kat _ (by omega), ← kat _ (by rw [Array.size_extract]; omega)]
        have e : sa + k + ((a.extract (sa + k) sb).size - 1) = sb - 1 := by rw [Array.size_extract]; omega
        rw [e]
        exact Int.le_of_lt (q2 j (by omega))
      refine sS_ite (fun h5 => wpS_bind (sS_mergeLo hc px py Sx Sy zx zy c0 cl ?_)) (fun h5 => wpS_bind (sS_mergeHi hc px py Sx Sy zx zy c0 cl ?_))
      all_goals
        intro res g' hg
        obtain ⟨a', e, c, so⟩ := fin res hg
        refine wpS_bind (wpS_modify (wpS_bind (wpS_get (wpS_pure ?_))))
        have := hQ a' g' c so
        rw [← e] at this
        exact this
theorem split2 {l : List (Nat × Nat × Nat)} {i : Nat} (h : i + 1 < l.length) : l = l.take i ++ l[i] :: l[i + 1] :: l.drop (i + 2) := by
  rw [← List.drop_eq_getElem_cons (by omega), ← List.drop_eq_getElem_cons (by omega), List.take_append_drop]
theorem joined2 {pd : Array (Nat × Nat × Nat)} {i : Nat} (h : i + 1 < pd.size) (v : Nat × Nat × Nat) : ((pd.setIfInBounds i v).eraseIdxIfInBounds (i + 1)).toList = pd.toList.take i ++ v :: pd.toList.drop (i + 2) := by
  rw [Array.toList_eraseIdxIfInBounds, Array.toList_setIfInBounds, List.eraseIdx_eq_take_drop_succ, List.set_eq_take_append_cons_drop, if_pos (by simp; omega)]
  have hl : (pd.toList.take i).length = i := by simp; omega
  rw [List.take_append, List.drop_append, hl, (by omega : i + 1 - i = 1), (by omega : i + 1 + 1 - i = 2), List.take_of_length_le (l := pd.toList.take i) (by omega), List.drop_of_length_le (l := pd.toList.take i) (by omega)]
  simp

theorem sS_mergeRuns (hc : CmpOk prog w A s κ P ky) {pd : Array (Nat × Nat × Nat)} {g i lo : Nat} (hP : AllP P a) {Q : Bool → SortSt → Prop} (hi : i + 1 < pd.size) (hR : RunsL ky a pd.toList 0 lo) (hlo : lo ≤ a.size)
    (hQ : ∀ a' pd' g', Chg a a' 0 lo → RunsL ky a' pd'.toList 0 lo → pd'.size + 1 = pd.size → Q true (SortSt.mk' κ a' pd' g' none)) :
    wpS (model prog w) A E s (mergeAt' i) Q (SortSt.mk' κ a pd g none) := by
  have hl : i + 1 < pd.toList.length := by simpa using hi
  have hR0 := hR
  rw [split2 hl] at hR
  obtain ⟨y, r1, r2⟩ := RunsL.app.mp hR
  obtain ⟨e1, n1, s1, e2, n2, s2, r3⟩ := r2
  have le3 := r3.le
  have le1 := r1.le
  refine sS_mergeAt hc hP (p := pd.toList[i].2.2) (p' := pd.toList[i + 1].2.2) (sa := y) (na := pd.toList[i].2.1) (sb := y + pd.toList[i].2.1) (nb := pd.toList[i + 1].2.1) ?_ ?_ rfl n1 n2 (by omega) s1 s2 ?_
  · rw [← Array.getElem?_toList, List.getElem?_eq_getElem (by omega), ← e1]
  · rw [← Array.getElem?_toList, List.getElem?_eq_getElem (by omega), ← e2]
  · intro a' g' c so
    refine hQ _ _ _ (c.wide (by omega) (by omega)) ?_ ?_
    · rw [joined2 hi]
      refine RunsL.app.mpr ⟨y, r1.congr (fun j _ j2 => c.kp (.inl j2)), rfl, by simp only; omega, ?_, ?_⟩
      · simp only; rw [← Nat.add_assoc]; exact so
      · simp only; rw [← Nat.add_assoc]; exact r3.congr (fun j j1 _ => c.kp (.inr j1))
    · rw [← Array.length_toList, joined2 hi]
      simp; omega
end
section
variable {ky : Keyed → Int} {prog : Program} {w : World} {A : Around} {E : Value → Shared → Prop} {s : Shared} {κ : SortKind} {P : Keyed → Prop}
theorem RunsL.push {a : Array Keyed} {pd : Array (Nat × Nat × Nat)} {lo n p : Nat} (h : RunsL ky a pd.toList 0 lo) (hn : 1 ≤ n) (hs : SoR ky a lo (lo + n)) : RunsL ky a (pd.push (lo, n, p)).toList 0 (lo + n) := by
  rw [Array.toList_push]
  exact RunsL.app.mpr ⟨lo, h, rfl, hn, hs, rfl⟩
theorem sS_sortRuns (hc : CmpOk prog w A s κ P ky) {a : Array Keyed} {g : Nat} {Q : Unit → SortSt → Prop} (hP : AllP P a) (h2 : 1 ≤ a.size)
    (hQ : ∀ st', (arrOf st').Perm a → failedOf st' = none → SoR ky (arrOf st') 0 a.size → Q () st') :
    wpS (model prog w) A E s sortRuns' Q (SortSt.mk' κ a #[] g none) := by
  rw [sortRuns'_eq]
  refine wpS_bind (wpS_get ?_)
  refine wpS_bind (wpS_mono (Q := fun (c : Option Unit × Nat) (st' : SortSt) => ∃ a' pd' g', st' = SortSt.mk' κ a' pd' g' none ∧ c.1 = none ∧ a'.Perm a ∧ RunsL ky a' pd'.toList 0 a.size) (wpS_forRange (fun (t : Nat) (c : Option Unit × Nat) (st' : SortSt) => ∃ a' pd' g', st' = SortSt.mk' κ a' pd' g' none ∧ c.1 = none ∧ a'.Perm a ∧ t ≤ c.2 ∧ c.2 ≤ a.size ∧ RunsL ky a' pd'.toList 0 c.2) ?_ ?_ ⟨a, #[], g, rfl, rfl, Array.Perm.refl _, Nat.le_refl _, Nat.zero_le _, rfl⟩) ?_)
  · rintro t c st' _ ht ⟨a1, pd1, g1, rfl, e1, hp1, ht1, hlo, hR⟩
    have hsz : ∀ {b : Array Keyed}, b.Perm a → b.size = a.size := fun h => by
      have := (Array.perm_iff_toList_perm.mp h).length_eq; simpa using this
    have hs1 := hsz hp1
    refine sS_ite (fun h => wpS_pure ⟨a1, pd1, g1, rfl, rfl, hp1, ?_⟩) (fun h => ?_)
    · have e : c.2 = a.size := Nat.le_antisymm hlo h
      rw [← e]; exact hR
    have h : c.2 < a.size := Nat.lt_of_not_le h
    refine wpS_bind (sS_countRun hc (hP.perm hp1) (by show 1 ≤ a.size - c.2; omega) (by show c.2 + (a.size - c.2) ≤ a1.size; omega) ?_)
    intro m a2 m1 m2 c2 so2
    have m2 : m ≤ a.size - c.2 := m2
    have hs2 := c2.size
    have hp2 := c2.perm.trans hp1
    refine sS_ite (fun h3 => wpS_bind (wpS_lift (wpAny_rule ⟨rfl, wpS_bind (sS_binarySort hc (hP.perm hp2) (by show c.2 + min (a.size - c.2) (minRun' a.size a.size 0) ≤ a2.size; omega) (by show m ≤ min (a.size - c.2) (minRun' a.size a.size 0); have : m < minRun' a.size a.size 0 := h3; omega) so2 ?_)⟩))) (fun h3 => ?_)
    focus
      intro a3 c3 so3
      refine sS_ite (fun z => by cases z) (fun _ => ?_)
      have hp3 := c3.perm.trans hp2
      have R3 : RunsL ky a3 pd1.toList 0 c.2 := hR.congr (fun i _ i2 => by rw [c3.kp (.inl i2), c2.kp (.inl i2)])
      have h3 : m < minRun' a.size a.size 0 := h3
      have n3 : 1 ≤ min (a.size - c.2) (minRun' a.size a.size 0) := by omega
      have n4 : c.2 + min (a.size - c.2) (minRun' a.size a.size 0) ≤ a.size := by omega
    rotate_left
    focus
      have hp3 := hp2
      have so3 := so2
      have R3 : RunsL ky a2 pd1.toList 0 c.2 := hR.congr (fun i _ i2 => by rw [c2.kp (.inl i2)])
      have n3 := m1
      have n4 : c.2 + m ≤ a.size := by omega
    all_goals
      have hs3 := hsz hp3
      refine wpS_bind (wpS_get ?_)
      cases hb : pd1.back? with
      | none =>
        simp only [hb]
        exact wpS_bind (wpS_modify (wpS_pure ⟨_, _, _, rfl, rfl, hp3, by simp only; omega, n4, R3.push n3 so3⟩))
      | some b =>
        obtain ⟨s1, n1, p1⟩ := b
        simp only [hb]
        refine wpS_bind (wpS_mono (Q := fun (c' : Option Unit × Unit) (st' : SortSt) => ∃ a4 pd4 g4, st' = SortSt.mk' κ a4 pd4 g4 none ∧ c'.1 = none ∧ Chg _ a4 0 c.2 ∧ RunsL ky a4 pd4.toList 0 c.2) (wpS_forRange (fun (t' : Nat) (c' : Option Unit × Unit) (st' : SortSt) => ∃ a4 pd4 g4, st' = SortSt.mk' κ a4 pd4 g4 none ∧ c'.1 = none ∧ Chg _ a4 0 c.2 ∧ RunsL ky a4 pd4.toList 0 c.2) ?_ (fun c' st' z => z) ⟨_, pd1, g1, rfl, rfl, Chg.refl _ _ _, R3⟩) ?_)
        · rintro t' c' st' _ _ ⟨a4, pd4, g4, rfl, e4, c4, R4⟩
          have hp4 := c4.perm.trans hp3
          have hs4 := hsz hp4
          refine wpS_bind (wpS_get ?_)
          by_cases hz : pd4.size > 1
          · have hg : pd4[pd4.size - 2]? = some (pd4[pd4.size - 2]'(by omega)) := getElem?_pos _ _ _
            simp only [hz, if_true, hg]
            refine sS_ite (fun _ => wpS_pure ⟨a4, pd4, g4, rfl, rfl, c4, R4⟩) (fun _ => wpS_bind (sS_mergeRuns hc (hP.perm hp4) (by show pd4.size - 2 + 1 < pd4.size; omega) R4 (by omega) ?_))
            intro a5 pd5 g5 c5 R5 _
            exact sS_ite (fun z => by cases z) (fun _ => wpS_pure ⟨a5, pd5, g5, rfl, rfl, c4.trans c5, R5⟩)
          · simp only [hz, if_false]
            exact wpS_pure ⟨a4, pd4, g4, rfl, rfl, c4, R4⟩
        · rintro ⟨r, u⟩ st' ⟨a4, pd4, g4, rfl, e4, c4, R4⟩
          simp only at e4
          subst e4
          refine wpS_bind (wpS_modify (wpS_bind (wpS_modify (wpS_pure ⟨_, _, _, rfl, rfl, c4.perm.trans hp3, by simp only; omega, n4, ?_⟩))))
          refine RunsL.push (R4.powers ?_) n3 (so3.congr (fun i i1 _ => c4.kp (.inr i1)))
          rw [Array.toList_modify]
          apply List.ext_getElem?
          intro i
          simp only [List.getElem?_map, List.getElem?_modify]
          cases pd4.toList[i]? with
          | none => rfl
          | some v => simp only [Option.map_some]; split <;> rfl
  · rintro c st' ⟨a1, pd1, g1, rfl, e1, hp1, ht1, hlo, hR⟩
    have e : c.2 = a.size := by
      have : max 0 a.size = a.size := by omega
      simp only [this] at ht1; omega
    exact ⟨a1, pd1, g1, rfl, e1, hp1, e ▸ hR⟩
  · rintro ⟨r, lo⟩ st' ⟨a1, pd1, g1, rfl, e1, hp1, hR⟩
    have hsz : ∀ {b : Array Keyed}, b.Perm a → b.size = a.size := fun h => by
      have := (Array.perm_iff_toList_perm.mp h).length_eq; simpa using this
    simp only at e1
    subst e1
    have hle := hR.le
    simp only [Array.length_toList, Nat.zero_add] at hle
    refine wpS_bind (wpS_mono (Q := fun (c' : Option Unit × Unit) (st' : SortSt) => ∃ a4 pd4 g4, st' = SortSt.mk' κ a4 pd4 g4 none ∧ c'.1 = none ∧ a4.Perm a ∧ RunsL ky a4 pd4.toList 0 a.size ∧ pd4.size ≤ 1) (wpS_forRange (fun (t' : Nat) (c' : Option Unit × Unit) (st' : SortSt) => ∃ a4 pd4 g4, st' = SortSt.mk' κ a4 pd4 g4 none ∧ c'.1 = none ∧ a4.Perm a ∧ RunsL ky a4 pd4.toList 0 a.size ∧ pd4.size ≤ max 1 (a.size - t')) ?_ ?_ ⟨_, pd1, g1, rfl, rfl, hp1, hR, by omega⟩) ?_)
    · rintro t' c' st' _ _ ⟨a4, pd4, g4, rfl, e4, hp4, R4, z4⟩
      have hs4 := hsz hp4
      refine wpS_bind (wpS_get (sS_ite (fun hz => wpS_pure ⟨a4, pd4, g4, rfl, rfl, hp4, R4, hz⟩) (fun hz => ?_)))
      have hz : ¬ pd4.size ≤ 1 := hz
      refine wpS_bind (sS_mergeRuns hc (hP.perm hp4) ?_ R4 (by omega) ?_)
      · show (if _ then pd4.size - 2 - 1 else pd4.size - 2) + 1 < pd4.size
        have two : ∀ (c : Prop) [Decidable c], (if c then pd4.size - 2 - 1 else pd4.size - 2) + 1 < pd4.size := fun c _ => by split <;> omega
        exact two _
      · intro a5 pd5 g5 c5 R5 z5
        exact sS_ite (fun z => by cases z) (fun _ => wpS_pure ⟨a5, pd5, g5, rfl, rfl, c5.perm.trans hp4, R5, by omega⟩)
    · rintro c' st' ⟨a4, pd4, g4, rfl, e4, hp4, R4, z4⟩
      have z4 : pd4.size ≤ max 1 (a.size - max 0 a.size) := z4
      exact ⟨a4, pd4, g4, rfl, e4, hp4, R4, by omega⟩
    · rintro ⟨r, u⟩ st' ⟨a4, pd4, g4, rfl, e4, hp4, R4, z4⟩
      simp only at e4
      subst e4
      refine wpS_pure (hQ _ hp4 rfl ?_)
      show SoR ky a4 0 a.size
      have zl : pd4.toList.length ≤ 1 := by simpa using z4
      match hl : pd4.toList, zl with
      | [], _ => rw [hl] at R4; have : 0 = a.size := R4; omega
      | [r], _ => rw [hl] at R4; obtain ⟨_, _, so, e⟩ := R4; have e : 0 + r.2.1 = a.size := e; rw [e] at so; exact so
      | _ :: _ :: _, z => simp at z
end
end L2


set_option Elab.async false
set_option linter.all false
set_option maxRecDepth 100000
set_option maxHeartbeats 1000000
namespace L2
open PySem PySem.Spec PyProof.Rows PySem.W

section
variable {prog : Program} {w : World} {E : Value → Shared → Prop} {s : Shared}
theorem perm_map {α β : Type} {f : α → β} : ∀ {l l' : List β}, l'.Perm l → ∀ q0 : List α, l = q0.map f → ∃ q : List α, q.Perm q0 ∧ l' = q.map f := by
  intro l l' h
  induction h with
  | nil => intro q0 e; exact ⟨q0, .refl _, e⟩
  | cons x h ih =>
    intro q0 e
    cases q0 with
    | nil => cases e
    | cons a q0 =>
      rw [List.map_cons] at e
      obtain ⟨e1, e2⟩ := List.cons.inj e
      obtain ⟨q, hq, e3⟩ := ih q0 e2
      exact ⟨a :: q, hq.cons a, by rw [List.map_cons, ← e3, e1]⟩
  | swap x y l =>
    intro q0 e
    cases q0 with
    | nil => cases e
    | cons a q0 =>
      cases q0 with
      | nil => simp at e
      | cons b q0 =>
        simp only [List.map_cons, List.cons.injEq] at e
        exact ⟨b :: a :: q0, List.Perm.swap a b q0, by simp only [List.map_cons]; rw [e.1, e.2.1, e.2.2]⟩
  | trans h1 h2 ih1 ih2 =>
    intro q0 e
    obtain ⟨q, hq, e2⟩ := ih2 q0 e
    obtain ⟨q', hq', e3⟩ := ih1 q e2
    exact ⟨q', hq'.trans hq, e3⟩
theorem kat_runB {A : Around} {κ : SortKind} {key : Nat → Int} {vs : List Value} (h2 : 2 ≤ vs.length) (ha : AskOk vs.length key (kas_ask prog w A κ vs) s) (hk : ∀ i j, i < vs.length → j < vs.length → vs.getD i .none = vs.getD j .none → key i = key j) :
    wpAny (model prog w) A (sortRuns'.run (SortSt.mk' κ (vs.toArray.zip vs.toArray) #[] 7 none)) (fun r s' => ∃ p : Array Nat, Bd vs.length p ∧ SoT key p vs.length ∧ arrOf r.2 = p.map (kas_item (vs.toArray.zip vs.toArray)) ∧ failedOf r.2 = none ∧ s' = s) E s := by
  have hsz : (vs.toArray.zip vs.toArray).size = vs.length := by simp
  have hitem : ∀ i, i < vs.length → kas_item (vs.toArray.zip vs.toArray) i = (vs.getD i .none, vs.getD i .none) := by
    intro i hi
    unfold kas_item
    rw [Array.getD_eq_getD_getElem?, getElem?_pos _ i (by omega)]
    simp [hi]
  let P : Keyed → Prop := fun x => ∃ i, i < vs.length ∧ x = (vs.getD i .none, vs.getD i .none)
  let ky : Keyed → Int := fun x => @dite _ (P x) (Classical.propDecidable _) (fun h => key (Classical.choose h)) (fun _ => 0)
  have hky : ∀ i, i < vs.length → ky (vs.getD i .none, vs.getD i .none) = key i := by
    intro i hi
    have hp : P (vs.getD i .none, vs.getD i .none) := ⟨i, hi, rfl⟩
    show @dite _ (P _) (Classical.propDecidable _) _ _ = _
    rw [dif_pos hp]
    have := Classical.choose_spec hp
    exact hk _ _ this.1 hi (Prod.mk.inj this.2).1.symm
  have hc : CmpOk prog w A s κ P ky := by
    rintro x y ⟨i, hi, rfl⟩ ⟨j, hj, rfl⟩ C hC
    rw [hky i hi, hky j hj] at hC
    exact ha i j C hi hj hC
  have hP : AllP P (vs.toArray.zip vs.toArray) := by
    intro x hx
    obtain ⟨i, hi, e⟩ := Array.mem_iff_getElem.mp hx
    rw [hsz] at hi
    refine ⟨i, hi, ?_⟩
    rw [← e]; simp [hi]
  refine wpAny_mono (sS_sortRuns (E := E) hc hP (by omega) (Q := fun _ st' => (arrOf st').Perm (vs.toArray.zip vs.toArray) ∧ failedOf st' = none ∧ SoR ky (arrOf st') 0 vs.length) (fun st' h1 h2 h3 => ⟨h1, h2, hsz ▸ h3⟩)) ?_ (fun _ _ z => z)
  rintro ⟨u, st'⟩ s' ⟨rfl, hp, hf, hS⟩
  have e0 : (vs.toArray.zip vs.toArray).toList = (List.range vs.length).map (kas_item (vs.toArray.zip vs.toArray)) := by
    refine List.ext_getElem (by simp) fun i i1 i2 => ?_
    have hi : i < vs.length := by simpa using i2
    rw [List.getElem_map, List.getElem_range, hitem i hi]
    simp [hi]
  obtain ⟨q, hq, e⟩ := perm_map (Array.perm_iff_toList_perm.mp hp) _ e0
  have hB : Bd vs.length q.toArray := Array.perm_iff_toList_perm.mpr (by simpa using hq)
  have harr : arrOf st' = q.toArray.map (kas_item (vs.toArray.zip vs.toArray)) := by
    apply Array.toList_inj.mp
    rw [e]; simp
  refine ⟨q.toArray, hB, ?_, harr, hf, rfl⟩
  intro i j hij hj
  have hql : q.toArray.size = vs.length := hB.size
  have hat : ∀ t, t < vs.length → kp ky (arrOf st') t = kk key q.toArray t := by
    intro t ht
    have hb : q.toArray.getD t 0 < vs.length := hB.lt (by omega) t
    unfold kk
    rw [← hky _ hb, ← hitem _ hb]
    unfold kp
    rw [harr]
    have ht2 : t < (q.toArray.map (kas_item (vs.toArray.zip vs.toArray))).size := by rw [Array.size_map]; omega
    rw [Array.getD_eq_getD_getElem?, getElem?_pos _ t ht2, Array.getElem_map, Array.getD_eq_getD_getElem?, getElem?_pos q.toArray t (by omega)]
    rfl
  rw [← hat i (by omega), ← hat j hj]
  exact hS i j (Nat.zero_le _) hij hj
theorem list_sortY {A : Around} {κ : SortKind} {key : Nat → Int} {a : Addr} {vs : List Value} {n : Nat} {P : PySem.Fin → Shared → Prop} (ho : s.heap.get? a = some (seqObj "list" vs.toArray n)) (h64 : vs.length ≤ 100000) (hcs : ∀ i j, i < vs.length → j < vs.length → vs.getD i .none = vs.getD j .none → key i = key j)
    (hk : ∀ s' : Shared, (∀ b o, b ≠ a → s.heap.get? b = some o → s'.heap.get? b = some o) → 2 ≤ vs.length → (∀ Q : SortKind → Shared → Prop, Q κ s' → wpAny (model prog w) A (keyKind' vs.toArray) Q E s') ∧ AskOk vs.length key (kas_ask prog w A κ vs) s')
    (fin : ∀ p : Array Nat, Bd vs.length p → SoT key p vs.length → P (.done (.ret .none)) { s with heap := sortedHeap s.heap a vs (outBy vs p) }) : wpAny (model prog w) A (Builtin.«list.sort» ⟨[.ref a], []⟩) P E s := by
  have lt := Heap.lt_size ho
  obtain ⟨c1, oc1⟩ : ∃ c1, (s.heap.update a (Obj.mapSeq fun _ => #[])).get? a = some (seqObj "list" #[] c1) := ⟨_, get?_update_seq ho fun _ => #[]⟩
  have oc6 : (((s.heap.update a (Obj.mapSeq fun _ => #[])).push (seqObj "tuple" vs.toArray 0)).push (seqObj "list" #[] 0)).get? a = some (seqObj "list" #[] c1) := Heap.get?_push_of_some _ (Heap.get?_push_of_some _ oc1)
  have kp : ∀ b o, b ≠ a → s.heap.get? b = some o → (((s.heap.update a (Obj.mapSeq fun _ => #[])).push (seqObj "tuple" vs.toArray 0)).push (seqObj "list" #[] 0)).get? b = some o := fun b o nb e =>
    Heap.get?_push_of_some _ (Heap.get?_push_of_some _ (by rw [Heap.get?_update_ne _ _ _ _ nb]; exact e))
  have z1 : vs.toArray.size = vs.length := List.size_toArray ..
  have za : ∀ p : Array Nat, Bd vs.length p → (outBy vs p).size ≤ sizeLine := fun p hp => by
    have := hp.size
    unfold outBy
    rw [List.size_toArray, List.length_map, Array.length_toList, this, sizeLine_eq]; omega
  rw [list_sort_plain]
  have hob := ho
  refine wpAny_bind (listItems_at hob rfl (wpAny_bind ?_))
  refine listUpdate_at hob rfl (wpAny_bind (seqEpoch_at oc1 rfl (wpAny_bind ?_))) (by rw [z1, sizeLine_eq]; omega) (Nat.zero_le _)
  refine wpAny_newTuple (wpAny_bind ?_) (Nat.le_trans h64 (by decide))
  refine wpAny_newList (wpAny_holding ?_) (Nat.zero_le _)
  show wpAny (model prog w) A _ P E { s with heap := (((s.heap.update a (Obj.mapSeq fun _ => #[])).push (seqObj "tuple" vs.toArray 0)).push (seqObj "list" #[] 0)) }
  dsimp only
  by_cases h2 : vs.toArray.size < 2
  · rw [if_pos h2, if_pos h2]
    refine wpAny_bind (wpAny_pure ?_)
    rw [StateT.run_pure]
    refine wpAny_bind (wpAny_pure ?_)
    have hB : Bd vs.length (List.range vs.length).toArray := Array.Perm.refl _
    have e := kas_range (vs.toArray.zip vs.toArray)
    rw [show (vs.toArray.zip vs.toArray).size = vs.length by simp] at e
    have eo : (arrOf (SortSt.mk' general' (vs.toArray.zip vs.toArray) #[] 7 none)).map (·.2) = outBy vs (List.range vs.length).toArray := kat_snds (ks := vs) (vs := vs) rfl e.symm
    dsimp only
    rw [eo]
    refine wpAny_bind (seqEpoch_at oc6 rfl (wpAny_bind (listUpdate_at oc6 rfl ?_ (Nat.zero_le _) (Nat.le_succ_of_le (za _ hB)))))
    simp only [bne_self_eq_false, Bool.false_eq_true, if_false]
    exact wpAny_pure (fin _ hB fun i j h1 hj => by rw [show i = j by omega]; exact Int.le_refl _)
  · rw [if_neg h2, if_neg h2]
    have h2' : 2 ≤ vs.length := by omega
    obtain ⟨hk1, hk2⟩ := hk { s with heap := (((s.heap.update a (Obj.mapSeq fun _ => #[])).push (seqObj "tuple" vs.toArray 0)).push (seqObj "list" #[] 0)) } kp h2'
    refine wpAny_bind (hk1 _ (wpAny_bind (wpAny_mono (kat_runB h2' hk2 hcs) ?_ fun _ _ z => z)))
    rintro ⟨⟨⟩, st⟩ s' ⟨p, b1, b2, har, hf, rfl⟩
    have eo : (arrOf st).map (·.2) = outBy vs p := kat_snds (ks := vs) (vs := vs) rfl har
    dsimp only
    rw [eo]
    refine wpAny_bind (seqEpoch_at oc6 rfl (wpAny_bind (listUpdate_at oc6 rfl ?_ (Nat.zero_le _) (Nat.le_succ_of_le (za _ b1)))))
    rw [hf]
    simp only [bne_self_eq_false, Bool.false_eq_true, if_false]
    exact wpAny_pure (fin p b1 b2)
theorem sortedY {A : Around} {κ : SortKind} {key : Nat → Int} {l : Addr} {vs : List Value} {Q : Value → Shared → Prop} (hl : s.heap.IsList l vs.toArray) (h64 : vs.length ≤ 100000) (hcs : ∀ i j, i < vs.length → j < vs.length → vs.getD i .none = vs.getD j .none → key i = key j)
    (hk : ∀ (A' : Around) (E' : Value → Shared → Prop) (s' : Shared), (∀ b o, s.heap.get? b = some o → s'.heap.get? b = some o) → 2 ≤ vs.length → (∀ Q : SortKind → Shared → Prop, Q κ s' → wpAny (model prog w) A' (keyKind' vs.toArray) Q E' s') ∧ AskOk vs.length key (kas_ask prog w A' κ vs) s')
    (fin : ∀ p : Array Nat, Bd vs.length p → SoT key p vs.length → Q (.ref (s.heap.objs.size + 1)) { s with heap := sortedAll s.heap vs (outBy vs p) }) : wpAny (model prog w) A (call (.builtin "sorted") [.ref l]) Q E s := by
  refine Calls.call_function_entry kind_sorted plain_sorted entry_sorted (args_sorted1 _) ?_
  unfold Builtin.«sorted»
  refine wpAny_bind (m := checkCount "sorted" 1 1 _) (wpAny_pure (wpAny_bind (collect_list hl (wpAny_bind (wpAny_newList ?_ (by rw [sizeLine_eq]; omega))) (by rw [sizeLine_eq]; omega))))
  have z5 : ((s.heap.push (seqObj "list" #[] 0)).update s.heap.objs.size (Obj.mapSeq (· ++ vs.toArray))).objs.size = s.heap.objs.size + 1 := (Heap.size_update ..).trans (size_push' ..)
  have o5 : (((s.heap.push (seqObj "list" #[] 0)).update s.heap.objs.size (Obj.mapSeq (· ++ vs.toArray))).push (seqObj "list" vs.toArray 0)).get? (s.heap.objs.size + 1) = some (seqObj "list" vs.toArray 0) := z5 ▸ Heap.get?_push_size _ rfl
  have kp : ∀ b o, s.heap.get? b = some o → (((s.heap.push (seqObj "list" #[] 0)).update s.heap.objs.size (Obj.mapSeq (· ++ vs.toArray))).push (seqObj "list" vs.toArray 0)).get? b = some o := fun b o e => by
    have hlt := Heap.lt_size e
    refine Heap.get?_push_of_some _ ?_
    rw [Heap.get?_update_ne _ _ _ _ (Nat.ne_of_lt hlt)]
    exact Heap.get?_push_of_some _ e
  show wpAny _ _ _ _ _ { s with heap := (((s.heap.push (seqObj "list" #[] 0)).update s.heap.objs.size (Obj.mapSeq (· ++ vs.toArray))).push (seqObj "list" vs.toArray 0)) }
  rw [z5]
  refine wpAny_bind (wpAny_holding (wpAny_call_entry slot_list_sort ⟨_, o5, rfl⟩ entry_list_sort (list_sortY (κ := κ) (key := key) o5 h64 hcs (fun s' k6 h2 => hk _ _ s' (fun b o e => k6 b o (Nat.ne_of_lt (Nat.lt_succ_of_lt (Heap.lt_size e))) (kp b o e)) h2) fun p b1 b2 => ⟨_, rfl, ?_⟩) (args_list_sort _)))
  exact wpAny_pure ⟨_, rfl, fin p b1 b2⟩
end
section
variable {X : Cx}
def rSortTB (K : Frag) : List V → Hp → VK → Prop := fun xs H Q => ∃ (p : Addr) (rs : List (List Int)), xs = [.ref p] ∧ TupsAt H p rs ∧ (∀ r ∈ rs, ∃ x y, r = [x, y] ∧ 0 ≤ y ∧ y < 100000) ∧ rs.length ≤ 100000 ∧ ∀ (rs' : List (List Int)) (l : Addr) (H' : Hp), rs'.Perm rs → rs'.Pairwise (fun r r' => pairK r ≤ pairK r') → H l = none → Same H H' → TupsAt H' l rs' → Q (.ref l) H'
theorem call_sortedTB {K : Frag} (hK : X.K = K) : CallR X (.builtin "sorted") (rSortTB K) := by
  subst hK
  intro pins s σ H xs us Q I r h
  obtain ⟨p, rs, rfl, ⟨as, hp, hla, hT⟩, hR, hn, q⟩ := h
  obtain ⟨u, rfl, ru⟩ := r.one
  cases (show u = Value.ref p from ru)
  obtain ⟨its, rv, pl, hz⟩ := I.list (SqL.of hp)
  have hl : its.length = rs.length := by have := rv.length; rw [List.length_map] at this; omega
  have hits : ∀ i (h1 : i < its.length) (h2 : i < as.length), its[i] = Value.ref as[i] := fun i h1 h2 => by
    obtain ⟨v, e1, e2⟩ := rv.get (i := i) (x := V.ref as[i]) (by rw [List.getElem?_map, List.getElem?_eq_getElem h2]; rfl)
    rw [List.getElem?_eq_getElem h1] at e1
    cases e1
    exact e2
  have hPr : ∀ i (h1 : i < its.length) (h2 : i < rs.length), ∃ x y, rs[i] = [x, y] ∧ 0 ≤ y ∧ y < 100000 ∧ Pr s.heap its[i] x y := fun i h1 h2 => by
    obtain ⟨x, y, e, y0, y1⟩ := hR _ (List.getElem_mem h2)
    obtain ⟨_, tv, hv, o, g, c, n, d⟩ := I.hok _ _ (hT i (by omega) h2)
    rw [e] at hv
    obtain ⟨v1, v2, rfl, ⟨t1, rfl⟩, ⟨t2, rfl⟩⟩ := hv.two
    exact ⟨x, y, e, y0, y1, as[i]'(by omega), o, n, t1, t2, hits i h1 (by omega), g, c, d⟩
  have hPm : ∀ v ∈ its, ∃ x y, Pr s.heap v x y := fun v hv => by
    obtain ⟨i, h1, rfl⟩ := List.getElem_of_mem hv
    obtain ⟨x, y, _, _, _, hp⟩ := hPr i h1 (by omega)
    exact ⟨x, y, hp⟩
  refine sortedY (κ := tuples' true) (key := fun i => pairK (rs.getD i [])) pl.isList (by omega) ?_ (fun A' E' s' kp h2 => ⟨fun Q' hq => pairs_kind h2 (fun v hv => ?_) hq, fun i j C hi hj hC => ?_⟩) fun p' hB hS => ?_
  · intro i j hi hj e
    obtain ⟨x, y, e1, _, _, a1, o1, n1, t1, u1, q1, q2, _, q3⟩ := hPr i hi (by omega)
    obtain ⟨x', y', e1', _, _, a1', o1', n1', t1', u1', q1', q2', _, q3'⟩ := hPr j hj (by omega)
    have e2 : its[i] = its[j] := by simpa [hi, hj] using e
    rw [q1, q1'] at e2
    cases e2
    rw [q2] at q2'
    cases q2'
    rw [q3] at q3'
    have ei : rs.getD i [] = [x, y] := by simp [List.getD_eq_getElem?_getD, show i < rs.length by omega, e1]
    have ej : rs.getD j [] = [x', y'] := by simp [List.getD_eq_getElem?_getD, show j < rs.length by omega, e1']
    cases q3'
    simp only [ei, ej]
  · obtain ⟨x, y, hp⟩ := hPm v hv
    exact ⟨x, y, hp.keep kp⟩
  · obtain ⟨x, y, e, y0, y1, hp1⟩ := hPr i hi (by omega)
    obtain ⟨x', y', e', y0', y1', hp2⟩ := hPr j hj (by omega)
    unfold kas_ask
    rw [show its.getD i Value.none = its[i] by simp [hi], show its.getD j Value.none = its[j] by simp [hj]]
    refine pairs_lt (hp1.keep kp) (hp2.keep kp) ?_
    have ei : pairK (rs.getD i []) = x * 100000 + y := by simp [pairK, List.getD_eq_getElem?_getD, show i < rs.length by omega, e]
    have ej : pairK (rs.getD j []) = x' * 100000 + y' := by simp [pairK, List.getD_eq_getElem?_getD, show j < rs.length by omega, e']
    have : decide (pairK (rs.getD i []) < pairK (rs.getD j [])) = decide (x < x' ∨ (x = x' ∧ y < y')) := by rw [ei, ej]; exact decide_eq_decide.mpr (by omega)
    rw [← this]; exact hC
  · have hsz : p'.size = rs.length := hB.size.trans hl
    have hlt : ∀ i ∈ p'.toList, i < rs.length := fun i hi => by
      have := (Array.perm_iff_toList_perm.mp hB).mem_iff.mp hi
      simpa [hl] using this
    have sm : Same H (upd H (s.heap.objs.size + 1) (.lst ((p'.toList.map fun i => as.getD i 0).map V.ref))) := (Same.refl H).upd (I.hok.fresh (Nat.le_succ _))
    refine ⟨.ref (s.heap.objs.size + 1), _, I.laid (t' := s.toks) (a := s.heap.objs.size + 1) (o := .lst ((p'.toList.map fun i => as.getD i 0).map V.ref)) (fun b o e => sortedAll_old e) (Nat.le_succ _) ?_, rfl, q (p'.toList.map fun i => rs.getD i []) _ _ ?_ ?_ (I.hok.fresh (Nat.le_succ _)) sm ⟨_, upd_same, by simp, fun i i1 i2 => sm _ _ ?_⟩⟩
    · obtain ⟨n, e⟩ := sortedAll_at s.heap its (outBy its p')
      refine ⟨Nat.le_trans (show _ ≤ 100000 by simp; omega) (by decide), (outBy its p').toList, n, ?_, by rw [e]⟩
      have key : ∀ (l : List Nat), (∀ i ∈ l, i < rs.length) → Vals ((l.map fun i => as.getD i 0).map V.ref) (l.map fun i => its.getD i Value.none) := by
        intro l
        induction l with
        | nil => intro _; exact .nil
        | cons a l ih =>
          intro hl'
          refine .cons ?_ (ih fun i hi => hl' i (List.mem_cons_of_mem _ hi))
          have ha := hl' a List.mem_cons_self
          have h1 : a < its.length := by omega
          have h2 : a < as.length := by omega
          show its.getD a Value.none = Value.ref (as.getD a 0)
          rw [show its.getD a Value.none = its[a] by simp [h1], show as.getD a 0 = as[a] by simp [h2]]
          exact hits a h1 h2
      exact key _ hlt
    · have := (Array.perm_iff_toList_perm.mp hB).map fun i => rs.getD i []
      refine this.trans ?_
      have e : ((List.range its.length).toArray.toList.map fun i => rs.getD i []) = rs := by
        rw [hl]
        refine List.ext_getElem (by simp) fun i i1 i2 => ?_
        have : i < rs.length := i2
        simp [List.getD_eq_getElem?_getD, this]
      rw [e]
    · rw [List.pairwise_iff_getElem]
      intro i j i1 j1 hij
      have i2 : i < p'.size := by simpa using i1
      have j2 : j < p'.size := by simpa using j1
      have := hS i j (by omega) (by omega)
      unfold kk at this
      rw [Array.getD_eq_getD_getElem?, Array.getD_eq_getD_getElem?, getElem?_pos p' i i2, getElem?_pos p' j j2] at this
      simpa using this
    · have i3 : i < p'.toList.length := by simpa using i1
      have hi := hlt _ (List.getElem_mem i3)
      have h2 : p'.toList[i] < as.length := by omega
      have := hT _ h2 hi
      have e1 : (p'.toList.map fun i => as.getD i 0)[i]'(by simpa using i1) = as[p'.toList[i]] := by rw [List.getElem_map, List.getD_eq_getElem?_getD, List.getElem?_eq_getElem h2]; rfl
      have e2 : (p'.toList.map fun i => rs.getD i [])[i]'(by simpa using i2) = rs[p'.toList[i]] := by rw [List.getElem_map, List.getD_eq_getElem?_getD, List.getElem?_eq_getElem hi]; rfl
      rw [e1, e2]; exact this
end
end L2


set_option Elab.async false
set_option linter.all false
set_option maxRecDepth 100000
set_option maxHeartbeats 1000000
namespace L2
open PySem PySem.Spec PyProof.Rows

section
variable {prog : Program} {w : World} {A : Around} {R : Result → Shared → Prop} {s : Shared} {elt tg iter tg1 iter1 : Expr} {ifs ifs1 : List Expr} {scope : Scope} {pos : Pos} {it acc : Value} {env : Env}
theorem codeAny_two0 (hs1 : ∀ env x, foldedSetIterable iter1 env x = pure x) (I : Nat → Shared → Prop)
    (turn : ∀ n s, I n s → wpAny (model prog w) A (pyNext it) (fun r s₁ => match r with
      | none => R (.ok .next) s₁
      | some v => wpAny (model prog w) A (letOwnedTupleGo tg it v) (fun _ s₁ => wpAny (model prog w) A (assign tg env v) (fun _ s₂ =>
          wpAny (model prog w) A (forIn ifs true fun c r => if r = true then do let ok ← isTrue c env (eval c env); pure (ForInStep.yield ok) else pure (ForInStep.yield r)) (fun ok s₃ =>
            if ok = true then wpAny (model prog w) A (eval iter1 env) (fun x s₄ => wpAny (model prog w) A (pyIter x) (fun it2 s₅ =>
              wpAny (model prog w) A (runOwn (.compStart (.ListComp elt [⟨tg, iter, ifs, 0⟩, ⟨tg1, iter1, ifs1, 0⟩] scope pos) 1 it2 acc env) env) (fun _ s₆ => ∃ m, m < n ∧ I m s₆) (fun _ _ => False) s₅) (fun _ _ => False) s₄) (fun _ _ => False) s₃
            else ∃ m, m < n ∧ I m s₃) (fun _ _ => False) s₂) (fun _ _ => False) s₁) (fun _ _ => False) s₁) (fun _ _ => False) s)
    (n : Nat) (h : I n s) :
    codeAny (model prog w) A (.compLoop (.ListComp elt [⟨tg, iter, ifs, 0⟩, ⟨tg1, iter1, ifs1, 0⟩] scope pos) 0 it acc env) R s := by
  refine codeAny_loop rfl I (fun n s hI => ?_) n h
  show wpAny _ A ((compTurn (.ListComp elt [⟨tg, iter, ifs, 0⟩, ⟨tg1, iter1, ifs1, 0⟩] scope pos) 0 it acc env).onRaise (fun x => do noteFrame x env; theTreesLotGoes x)) _ _ s
  refine wpAny_noted ?_
  refine wpAny_bind (m := standAt iter.pos) (wpAny_standAt (wpAny_bind (m := pyNext it) (wpAny_mono (turn n s hI) (fun r s₁ h₁ => ?_) fun _ _ h' => h'.elim)))
  cases r with
  | none => exact wpAny_pure h₁
  | some v =>
    refine wpAny_bind (m := letOwnedTupleGo tg it v) (wpAny_mono h₁ (fun _ s₁' h₁ => ?_) fun _ _ h' => h'.elim)
    refine wpAny_bind (m := assign tg env v) (wpAny_mono h₁ (fun _ s₂ h₂ => wpAny_bind (wpAny_mono h₂ (fun ok s₃ h₃ => ?_) fun _ _ h' => h'.elim)) fun _ _ h' => h'.elim)
    cases ok with
    | false => exact wpAny_pure ⟨rfl, h₃⟩
    | true =>
      refine wpAny_bind (m := eval iter1 env) (wpAny_mono h₃ (fun x s₄ h₄ => ?_) fun _ _ h' => h'.elim)
      refine wpAny_bind (m := standAt iter1.pos) (wpAny_standAt ?_)
      refine wpAny_bind (m := foldedSetIterable iter1 env x) ?_
      rw [hs1]
      refine wpAny_pure ?_
      refine wpAny_bind (m := holding [x] (pyIter x)) (wpAny_holding (wpAny_mono h₄ (fun it2 s₅ h₅ => ?_) fun _ _ h' => h'.elim))
      exact wpAny_bind (m := runOwn _ env) (wpAny_mono h₅ (fun _ s₆ h₆ => wpAny_pure ⟨rfl, h₆⟩) fun _ _ h' => h'.elim)
theorem codeAny_two1 (I : Nat → Shared → Prop)
    (turn : ∀ n s, I n s → wpAny (model prog w) A (pyNext it) (fun r s₁ => match r with
      | none => R (.ok .next) s₁
      | some v => wpAny (model prog w) A (letOwnedTupleGo tg1 it v) (fun _ s₁ => wpAny (model prog w) A (assign tg1 env v) (fun _ s₂ =>
          wpAny (model prog w) A (forIn ifs1 true fun c r => if r = true then do let ok ← isTrue c env (eval c env); pure (ForInStep.yield ok) else pure (ForInStep.yield r)) (fun ok s₃ =>
            if ok = true then wpAny (model prog w) A (eval elt env) (fun x s₄ =>
              wpAny (model prog w) A (call (.builtin "list.append") [acc, x]) (fun _ s₅ => ∃ m, m < n ∧ I m s₅) (fun _ _ => False) s₄) (fun _ _ => False) s₃
            else ∃ m, m < n ∧ I m s₃) (fun _ _ => False) s₂) (fun _ _ => False) s₁) (fun _ _ => False) s₁) (fun _ _ => False) s)
    (n : Nat) (h : I n s) :
    codeAny (model prog w) A (.compLoop (.ListComp elt [⟨tg, iter, ifs, 0⟩, ⟨tg1, iter1, ifs1, 0⟩] scope pos) 1 it acc env) R s := by
  refine codeAny_loop rfl I (fun n s hI => ?_) n h
  show wpAny _ A ((compTurn (.ListComp elt [⟨tg, iter, ifs, 0⟩, ⟨tg1, iter1, ifs1, 0⟩] scope pos) 1 it acc env).onRaise (fun x => do noteFrame x env; theTreesLotGoes x)) _ _ s
  refine wpAny_noted ?_
  refine wpAny_bind (m := standAt iter1.pos) (wpAny_standAt (wpAny_bind (m := pyNext it) (wpAny_mono (turn n s hI) (fun r s₁ h₁ => ?_) fun _ _ h' => h'.elim)))
  cases r with
  | none => exact wpAny_pure h₁
  | some v =>
    refine wpAny_bind (m := letOwnedTupleGo tg1 it v) (wpAny_mono h₁ (fun _ s₁' h₁ => ?_) fun _ _ h' => h'.elim)
    refine wpAny_bind (m := assign tg1 env v) (wpAny_mono h₁ (fun _ s₂ h₂ => wpAny_bind (wpAny_mono h₂ (fun ok s₃ h₃ => ?_) fun _ _ h' => h'.elim)) fun _ _ h' => h'.elim)
    cases ok with
    | false => exact wpAny_pure ⟨rfl, h₃⟩
    | true =>
      exact wpAny_bind (m := (do let x ← eval elt env; let _ ← call (.builtin "list.append") [acc, x]; pure ())) (wpAny_bind (wpAny_mono h₃ (fun x s₄ h₄ => wpAny_bind (wpAny_mono h₄ (fun _ s₅ h₅ => wpAny_pure (wpAny_pure ⟨rfl, h₅⟩)) fun _ _ h' => h'.elim)) fun _ _ h' => h'.elim))
theorem codeAny_start1
    (h0 : codeAny (model prog w) A (.compLoop (.ListComp elt [⟨tg, iter, ifs, 0⟩, ⟨tg1, iter1, ifs1, 0⟩] scope pos) 1 it acc env) R s)
    (h : wpAny (model prog w) A (pyIter it) (fun it' s' => codeAny (model prog w) A (.compLoop (.ListComp elt [⟨tg, iter, ifs, 0⟩, ⟨tg1, iter1, ifs1, 0⟩] scope pos) 1 it' acc env) R s') (fun _ _ => False) s) :
    codeAny (model prog w) A (.compStart (.ListComp elt [⟨tg, iter, ifs, 0⟩, ⟨tg1, iter1, ifs1, 0⟩] scope pos) 1 it acc env) R s := by
  refine codeAny_of_tree ?_
  show wpAny _ _ ((compStart (.ListComp elt [⟨tg, iter, ifs, 0⟩, ⟨tg1, iter1, ifs1, 0⟩] scope pos) 1 it acc env).onRaise (fun x => do noteFrame x env; standAt theWindowsPlace)) _ _ s
  refine wpAny_onRaise (wpAny_mono (E := fun _ _ => False) ?_ (fun _ _ q => q) fun _ _ z => z.elim)
  unfold compStart
  show wpAny _ _ (ask >>= _) _ _ s
  refine wpAny_bind (wpAny_askSetting (wpAny_ite ?_))
  split
  · first
      | exact wpAny_bind (wpAny_pure (wpAny_pure (And.intro rfl h0)))
      | exact wpAny_pure (And.intro rfl h0)
  · first
      | exact wpAny_bind (wpAny_rule (wpAny_bind (wpAny_standAt (wpAny_bind (wpAny_mono h (fun it' s' h' => wpAny_pure (And.intro rfl h')) fun _ _ x => x)))))
      | (refine wpAny_bind (wpAny_rule ?_); show wpAny _ _ (standAt iter1.pos >>= _) _ _ s; exact wpAny_bind (wpAny_standAt (wpAny_bind (wpAny_mono h (fun it' s' h' => wpAny_pure (And.intro rfl h')) fun _ _ x => x))))
end

def Comp2In (J2 : It) (g1 : TG) (tt1 : TT) (te : TE) (σ2 : St) (acc : List V) (F : List V → Hp → Prop) (H4 : Hp) : Prop := ∃ W2 : Nat → Nat → List V → Hp → Prop, (∃ m2, W2 0 m2 acc H4) ∧ ∀ j m2 acc2 H5, W2 j m2 acc2 H5 →
  (J2.stop j H5 ∧ F acc2 H5) ∨
  (J2.go j H5 ∧ acc2.length < sizeLine ∧ ∀ x2 H6, J2.yld j H5 x2 H6 → g1 x2 σ2 H6 fun σ3 H7 => tt1 σ3 H7 fun b2 H8 => if b2 = true then te σ3 H8 fun v H9 => ∃ m', m' < m2 ∧ W2 (j + 1) m' (acc2 ++ [v]) H9 else ∃ m', m' < m2 ∧ W2 (j + 1) m' acc2 H8)
def CompR2 (J : It) (g : TG) (tt : TT) (wi1 : TI) (g1 : TG) (tt1 : TT) (te : TE) (σ0 : St) (Q : VK) (H1 : Hp) : Prop := ∃ W : Nat → Nat → List V → Hp → Prop, (∃ m, W 0 m [] H1) ∧ ∀ i m acc H, W i m acc H →
  (J.stop i H ∧ acc.length ≤ sizeLine ∧ ∀ p, H p = none → Q (.ref p) (upd H p (.lst acc))) ∨
  (J.go i H ∧ acc.length ≤ sizeLine ∧ ∀ x H', J.yld i H x H' → g x σ0 H' fun σ2 H2 => tt σ2 H2 fun b H3 => if b = true then wi1 σ2 H3 fun J2 H4 => Comp2In J2 g1 tt1 te σ2 acc (fun acc2 H5 => ∃ m', m' < m ∧ W (i + 1) m' acc2 H5) H4 else ∃ m', m' < m ∧ W (i + 1) m' acc H3)

def tComp2 (wi : TI) (g : TG) (tt : TT) (wi1 : TI) (g1 : TG) (tt1 : TT) (te : TE) (js : List (Option Nat)) : TE := fun σ H Q => wi σ H fun J H1 => CompR2 J g tt wi1 g1 tt1 te (iniC js σ) Q H1
theorem tComp2_eq {wi wi1 : TI} {g g1 : TG} {tt tt1 : TT} {te : TE} {js : List (Option Nat)} {σ : St} {H : Hp} {Q : VK} : tComp2 wi g tt wi1 g1 tt1 te js σ H Q = wi σ H fun J H1 => CompR2 J g tt wi1 g1 tt1 te (iniC js σ) Q H1 := rfl
section
variable {X : Cx}

theorem comp_run2 {pins : List (Addr × Obj)} {σ : St} {H : Hp} {s : Shared} {tg elt iter tg1 iter1 : Expr} {ifs ifs1 : List Expr} {scope : Scope} {pos : Pos} {wi wi1 : TI} {g g1 : TG} {tt tt1 : TT} {te : TE} {Nc : List Str} {js : List (Option Nat)} {use : Option (Value → Sem Unit)} {Q : VK} {QQ : Value → Shared → Prop}
    (hc : X.calm = true) (hok : compOk X.env.scope scope = true) (htk : takesC X.N Nc scope js 0 = true) (hi : PI X tg iter wi)
    (hg : ∀ cl C s2 H2 fp, PG (compCx X Nc scope cl C s2 H2 fp) tg g) (ht : ∀ cl C s2 H2 fp, PIfs (compCx X Nc scope cl C s2 H2 fp) ifs tt) (hi1 : ∀ cl C s2 H2 fp, PI (compCx X Nc scope cl C s2 H2 fp) tg1 iter1 wi1) (hg1 : ∀ cl C s2 H2 fp, PG (compCx X Nc scope cl C s2 H2 fp) tg1 g1) (ht1 : ∀ cl C s2 H2 fp, PIfs (compCx X Nc scope cl C s2 H2 fp) ifs1 tt1) (he : ∀ cl C s2 H2 fp, PE (compCx X Nc scope cl C s2 H2 fp) elt te)
    (hs : ∀ x, foldedSetIterable iter X.env x = pure x) (hs1 : ∀ env x, foldedSetIterable iter1 env x = pure x) {L L1 : List Nat} (ho : OnlyG g L) (ho1 : OnlyG g1 L1) (hL : (L.all fun k => js[k]? == some none) = true) (hL1 : (L1.all fun k => js[k]? == some none && !L.contains k) = true) (I : Inv X pins σ H s) (h : tComp2 wi g tt wi1 g1 tt1 te js σ H Q)
    (fin : ∀ (D C : Addr) (H' H2 : Hp) (s2 s' : Shared) (xs : List V) (m : Str → Option Value), Inv X pins σ H2 s2 → H' C = none → C = D + 1 → D = s2.heap.objs.size → s'.heap.Ns C m → (∀ h', Heap.SameBut C s'.heap h' → Inv X pins σ (upd H' D (.lst xs)) { s' with heap := h' }) → Q (.ref D) (upd H' D (.lst xs)) →
      compPost (model X.prog X.w) X.A X.xe use QQ (.ref D) C (.ok .next) s') :
    wpAny (model X.prog X.w) X.A (comprehension (.ListComp elt [⟨tg, iter, ifs, 0⟩, ⟨tg1, iter1, ifs1, 0⟩] scope pos) scope X.env (firstIterPos [⟨tg, iter, ifs, 0⟩, ⟨tg1, iter1, ifs1, 0⟩] pos) (newList []) false (eval iter X.env) use) QQ X.xe s := by
  have hcells : ∀ y ∈ scope.names, y.2 = .free → ∃ c, X.env.cells.lookup y.1 = some c := fun y hy hf => I.ok.has y.1 (compOk_free hok y hy hf)
  obtain ⟨cl, hcl, up, hfr⟩ := closure_of hcells
  have hk := compOk_kind hok
  have hcell := compOk_cell hok
  refine wpAny_comprehension_free (use := use) rfl hs hcl hk (compOk_local hok) (thn (hi pins s σ H _ I h) fun v s1 h1 => thn h1 fun itv s2 h2 => ?_)
  obtain ⟨it, fp, tn, J, H2, e, I2, T, st2, f2, W, ⟨m0, w0⟩, turn⟩ := h2
  subst e
  refine wpAny_newObj_type (wpAny_newFunctionEnv hcell (by intro y hy; simp at hy) (fun h₁ hns₁ hsb₁ => ?_) hk)
  dsimp only at hns₁ hsb₁ ⊢
  generalize hH2 : s2.heap.push { cls := .type "list", dict := none, data := .seq ([] : List Value).toArray } = HH at hns₁ hsb₁ ⊢
  have hC : HH.objs.size = s2.heap.objs.size + 1 := by rw [← hH2, Heap.size_push]
  have hfl : ∀ b ∈ fp, b < s2.heap.objs.size := fun b hb => by
    obtain ⟨o, ho, _⟩ := T.obj 0 _ st2 b hb
    exact Heap.lt_size ho
  have hDC : s2.heap.objs.size ≠ HH.objs.size := by rw [hC]; exact Nat.ne_of_lt (Nat.lt_succ_self _)
  have old : ∀ b o, s2.heap.get? b = some o → h₁.get? b = some o := fun b o e => hsb₁.extBut b o (by rw [hC]; exact Nat.ne_of_lt (Nat.lt_succ_of_lt (Heap.lt_size e))) (Heap.get?_push_of_some _ (hH2 ▸ Heap.get?_push_of_some _ e))
  have hacc : h₁.get? s2.heap.objs.size = some { cls := .type "list", dict := none, data := .seq ([] : List Value).toArray } := hsb₁.extBut _ _ hDC (Heap.get?_push_of_some _ (hH2 ▸ Heap.get?_push_size _ rfl))
  have I4 := comp_start (Nc := Nc) (js := js) (tk := s2.toks + ([] : List (Str × Value)).length) I2 hok htk up hfr f2 hfl rfl hC old hns₁ hacc (by intro v z; cases z)
  have st4 : tn 0 h₁ := T.keep _ _ _ st2 fun b _ o e => old b o e
  generalize hXc : compCx X Nc scope cl HH.objs.size s2 H2 fp = Xc at I4
  have hXA : Xc.A = X.A := by rw [← hXc]; rfl
  have hXe : Xc.env = compEnvC scope cl HH.objs.size X.env := by rw [← hXc]; rfl
  have hXp : Xc.prog = X.prog := by rw [← hXc]; rfl
  have hXw : Xc.w = X.w := by rw [← hXc]; rfl
  have hXx : Xc.xe = fun _ _ => False := by rw [← hXc]; rfl
  have hXk : Xc.K = X.K := by rw [← hXc]; rfl
  have hXcalm : Xc.calm = true := by rw [← hXc]; exact hc
  have fpok : ∀ {pl : List (Addr × Obj)} {H' : Hp}, (∀ p ∈ pl, s2.heap.objs.size ≤ p.1) → (∀ b ∈ fp, H' b = none) → ∀ b ∈ fp, FpOk Xc pl H' b := fun {pl H'} hpl hn b hb => by
    have k1 : b ≠ HH.objs.size := Nat.ne_of_lt (by rw [hC]; exact Nat.lt_succ_of_lt (hfl b hb))
    have k2 : b ∉ frs X.stack := fun q => by
      rcases List.mem_cons.mp (I2.stkSub b q) with z | z
      · exact (f2 b hb).2.1 z
      · exact (f2 b hb).2.2.1 z
    rw [← hXc]
    refine ⟨hn b hb, k1, k2, .inl hb, fun x c e => (f2 b hb).2.2.2.2.1 x c (up _ _ e), fun p hp => ?_⟩
    have hp' : p ∈ pl := by simpa [compCx] using hp
    exact Nat.ne_of_gt (Nat.lt_of_lt_of_le (hfl b hb) (hpl p hp'))
  have gX : PG Xc tg g := hXc ▸ hg cl HH.objs.size s2 H2 fp
  have tX : PIfs Xc ifs tt := hXc ▸ ht cl HH.objs.size s2 H2 fp
  have iX : PI Xc tg1 iter1 wi1 := hXc ▸ hi1 cl HH.objs.size s2 H2 fp
  have gX1 : PG Xc tg1 g1 := hXc ▸ hg1 cl HH.objs.size s2 H2 fp
  have tX1 : PIfs Xc ifs1 tt1 := hXc ▸ ht1 cl HH.objs.size s2 H2 fp
  have eX : PE Xc elt te := hXc ▸ he cl HH.objs.size s2 H2 fp
  have hs0 : Xc.s₀ = s2 := by rw [← hXc]; rfl
  have hh0 : Xc.H₀ = H2 := by rw [← hXc]; rfl
  have hfs : Xc.fs = frs X.stack := by rw [← hXc]; rfl
  have hex : Xc.ex = fp := by rw [← hXc]; rfl
  have loop : codeAny (model X.prog X.w) X.A (.compLoop (.ListComp elt [⟨tg, iter, ifs, 0⟩, ⟨tg1, iter1, ifs1, 0⟩] scope pos) 0 (.ref it) (.ref s2.heap.objs.size) (compEnvC scope cl HH.objs.size X.env)) (compPost (model X.prog X.w) X.A X.xe use QQ (.ref s2.heap.objs.size) HH.objs.size)
      { s2 with heap := h₁, toks := s2.toks + ([] : List (Str × Value)).length } := by
    refine codeAny_two0 hs1 (fun n s' => ∃ i acc its nn H', Inv Xc [(s2.heap.objs.size, { cls := .type "list", dict := none, data := .seq (its : List Value).toArray nn })] (iniC js σ) H' s' ∧ Vals acc its ∧ acc.length ≤ sizeLine ∧ tn i s'.heap ∧ (∀ b ∈ fp, H' b = none) ∧ W i n acc H') ?_ m0
      ⟨0, [], [], 0, H2, I4, .nil, Nat.zero_le _, st4, fun b hb => (f2 b hb).1, w0⟩
    rintro n s3 ⟨i, acc, its, nn, H3, I3, va, hlen, st3, fr3, w3⟩
    have pg : ∀ p ∈ ([(s2.heap.objs.size, { cls := .type "list", dict := none, data := .seq its.toArray nn })] : List (Addr × Obj)), s2.heap.objs.size ≤ p.1 := fun p hp => by
      simp only [List.mem_cons, List.not_mem_nil, or_false] at hp
      subst hp; exact Nat.le_refl _
    rcases turn i n acc H3 w3 with ⟨stop, hl, qn⟩ | ⟨go, hl, step⟩
    · have q := T.done Xc hXp hXw hXk hXcalm i _ s3 (iniC js σ) H3 (fun _ _ => False) I3 (fpok pg fr3) st3 stop
      rw [hXA] at q
      refine thn q fun r s4 ⟨hr, I5⟩ => ?_
      subst hr
      have hpin := I5.pin _ (List.mem_append_right _ (.head _))
      obtain ⟨m5, hn5, _⟩ := I5.loc
      rw [hXe] at hn5
      refine fin _ _ H3 H2 s2 s4 acc m5 I2 (by have := I5.free; rw [hXe] at this; exact this) hC rfl hn5 (fun h' hsb => ?_) (qn _ hpin.2.1)
      have same : ∀ b o, b ≠ HH.objs.size → s4.heap.get? b = some o → h'.get? b = some o := fun b o hb e => hsb.extBut b o hb e
      have un := I5.base
      rw [hfs, hex, hh0, hs0] at un
      have lt : ∀ b o, s2.heap.get? b = some o → b < s2.heap.objs.size := fun b o e => Heap.lt_size e
      have neC : ∀ b o, s2.heap.get? b = some o → b ≠ HH.objs.size := fun b o e => Nat.ne_of_lt (by rw [hC]; exact Nat.lt_succ_of_lt (lt b o e))
      have neD : ∀ b o, s2.heap.get? b = some o → b ≠ s2.heap.objs.size := fun b o e => Nat.ne_of_lt (lt b o e)
      have trkC : ∀ b o, H3 b = some o → b ≠ HH.objs.size := fun b o e z => by
        have := I5.free; rw [hXe] at this; rw [z, show H3 HH.objs.size = none from this] at e; cases e
      refine I2.call' (s' := { s4 with heap := h' }) (ch := fp) (I5.os.trans (by rw [hs0])) ⟨fun b o e n hb hx => same _ _ (neC b o e) (un.keep b o e n hb hx), fun b o e n hb hx => ?_, fun b o e n hx => by rw [upd_ne (neD b o e)]; exact un.free b o e n hx, fun b o e hx => ?_, fun b xs e => ?_, fun b o u e => ?_, fun b ps e => ?_⟩ (fun a o e => ?_) I5.bare fun b hb => ⟨(f2 b hb).2.2.2.1, (f2 b hb).2.1, (f2 b hb).2.2.2.2.1, (f2 b hb).2.2.2.2.2⟩
      · obtain ⟨sl, z⟩ := un.slot b o e n hb hx
        exact ⟨sl, same _ _ (neC b o e) z⟩
      · obtain ⟨o', z⟩ := un.there b o e hx
        exact ⟨o', same _ _ (neC b o e) z⟩
      · rw [upd_ne (Nat.ne_of_lt (I2.hok.lt e))]; exact un.tups b xs e
      · rw [upd_ne (Nat.ne_of_lt (I2.hok.lt e))]; exact un.frzs b o u e
      · obtain ⟨more, z⟩ := un.tbls b ps e
        exact ⟨more, by rw [upd_ne (Nat.ne_of_lt (I2.hok.lt e))]; exact z⟩
      · by_cases ha : a = s2.heap.objs.size
        · subst ha
          rw [upd_same] at e; cases e
          exact ⟨hl, its, nn, va, same _ _ hDC hpin.1⟩
        · rw [upd_ne ha] at e
          have q := I5.hok a o e
          rw [hXp, hXw] at q
          refine q.stay (fun b u hb z => same b u ?_ z) (fun b z => by rw [upd_ne]; exact z; intro y; subst y; rw [hpin.2.1] at z; cases z) (fun b xs z => by rw [upd_ne]; exact z; intro y; subst y; rw [hpin.2.1] at z; cases z) fun b o u z => by rw [upd_ne]; exact z; intro y; subst y; rw [hpin.2.1] at z; cases z
          rcases hb with hb | hb
          · subst hb; exact trkC _ _ e
          · exact trkC _ _ hb
    · have q := T.item Xc hXp hXw hXk hXcalm i _ s3 (iniC js σ) H3 (fun _ _ => False) I3 (fpok pg fr3) st3 go
      rw [hXA] at q
      refine thn q fun r s4 ⟨u, hr, h4⟩ => ?_
      subst hr
      refine thn h4 fun _ s5 ⟨x, H5, I5, r5, y5, st5, fr5⟩ => ?_
      have I5' := I5.pinned (fpok pg fr5) (T.obj _ _ st5)
      have again : ∀ {σ7 : St} {H7 : Hp} {s7 : Shared} {acc7 : List V} {its7 : List Value} {n7 : Nat} {m : Nat}, Inv Xc ([(s2.heap.objs.size, { cls := .type "list", dict := none, data := .seq its7.toArray n7 })] ++ pinsAt fp s5.heap) σ7 H7 s7 → Vals acc7 its7 → acc7.length ≤ sizeLine → W (i + 1) m acc7 H7 → σ7.length = (iniC js σ).length → (∀ (k : Nat) v, (iniC js σ)[k]? = some (some v) → σ7[k]? = some (some v)) →
          ∃ i acc its nn H', Inv Xc [(s2.heap.objs.size, { cls := .type "list", dict := none, data := .seq (its : List Value).toArray nn })] (iniC js σ) H' s7 ∧ Vals acc its ∧ acc.length ≤ sizeLine ∧ tn i s7.heap ∧ (∀ b ∈ fp, H' b = none) ∧ W i m acc H' := fun {σ7 H7 s7 acc7 its7 n7 m} I7 v7 l7 w7 hl7 hw7 => by
        refine ⟨i + 1, acc7, its7, n7, H7, (I7.weak hl7.symm hw7).unpinned, v7, l7, T.keep _ _ _ st5 fun b hb o e => (I7.pin (b, o) (List.mem_append_right _ (List.mem_append_right _ (mem_pinsAt hb e)))).1, fun b hb => ?_, w7⟩
        obtain ⟨o, e, d⟩ := T.obj _ _ st5 b hb
        exact (I7.pin (b, o) (List.mem_append_right _ (List.mem_append_right _ (mem_pinsAt hb e)))).2.1
      have keep : ∀ {σ6 : St}, KeepOn L (iniC js σ) σ6 → σ6.length = (iniC js σ).length ∧ ∀ (k : Nat) v, (iniC js σ)[k]? = some (some v) → σ6[k]? = some (some v) := fun {σ6} hk => ⟨hk.1, fun k v e => by
        rw [hk.2 k]
        · exact e
        · intro z
          have q := List.all_eq_true.mp hL k z
          simp only [beq_iff_eq] at q
          unfold iniC at e
          rw [List.getElem?_map, q] at e
          cases e⟩
      have q6 := gX _ s5 (iniC js σ) H5 x u _ I5' r5 (ho _ _ _ _ _ (fun σ' H' kk z => And.intro kk z) (step x H5 y5))
      rw [hXe, hXA, hXp, hXw, hXx] at q6
      refine thn q6 fun _ s6 ⟨σ6, H6, I6, k6, q6⟩ => ?_
      obtain ⟨kl, kv⟩ := keep k6
      have q7 := tX _ s6 σ6 H6 _ I6 q6
      rw [hXe, hXA, hXp, hXw, hXx] at q7
      refine thn q7 fun b s7 ⟨H7, I7, q7⟩ => ?_
      cases b with
      | false =>
        obtain ⟨m', hm, w7⟩ := q7
        exact ⟨m', hm, again I7 va hlen w7 kl kv⟩
      | true =>
        have q8 := iX _ s7 σ6 H7 _ I7 q7
        rw [hXe, hXA, hXp, hXw, hXx] at q8
        refine thn q8 fun y s8 h8 => thn h8 fun itv s9 h9 => ?_
        obtain ⟨it2, fp2, tn2, J2, H9, rfl, I9, T2, st9, f9, W2, ⟨m2, w2⟩, turn2⟩ := h9
        rw [hXp, hXw] at T2
        have kv1 : ∀ {σ' : St}, KeepOn L1 σ6 σ' → σ'.length = σ6.length ∧ ∀ (k : Nat) v, σ6[k]? = some (some v) → σ'[k]? = some (some v) := fun {σ'} hk => ⟨hk.1, fun k v e => by
          rw [hk.2 k]
          · exact e
          · intro z
            have q := List.all_eq_true.mp hL1 k z
            simp only [Bool.and_eq_true, beq_iff_eq, Bool.not_eq_true'] at q
            have hk6 := k6.2 k (fun zz => by rw [List.contains_iff_mem.mpr zz] at q; cases q.2)
            rw [hk6] at e
            unfold iniC at e
            rw [List.getElem?_map, q.1] at e
            cases e⟩
        have loop2 : codeAny (model X.prog X.w) X.A (.compLoop (.ListComp elt [⟨tg, iter, ifs, 0⟩, ⟨tg1, iter1, ifs1, 0⟩] scope pos) 1 (.ref it2) (.ref s2.heap.objs.size) (compEnvC scope cl HH.objs.size X.env)) (fun r s' => match r with
            | .ok _ => ∃ m, m < n ∧ ∃ i acc its nn H', Inv Xc [(s2.heap.objs.size, { cls := .type "list", dict := none, data := .seq (its : List Value).toArray nn })] (iniC js σ) H' s' ∧ Vals acc its ∧ acc.length ≤ sizeLine ∧ tn i s'.heap ∧ (∀ b ∈ fp, H' b = none) ∧ W i m acc H'
            | .error _ => False) s9 := by
          refine codeAny_two1 (fun n2 s' => ∃ j acc2 its2 nn2 H', Inv Xc ([(s2.heap.objs.size, { cls := .type "list", dict := none, data := .seq (its2 : List Value).toArray nn2 })] ++ pinsAt fp s5.heap) σ6 H' s' ∧ Vals acc2 its2 ∧ acc2.length ≤ sizeLine ∧ tn2 j s'.heap ∧ (∀ b ∈ fp2, H' b = none) ∧ W2 j n2 acc2 H') ?_ m2
            ⟨0, acc, its, nn, H9, I9, va, hlen, st9, fun b hb => (f9 b hb).1, w2⟩
          rintro n2 sA ⟨j, acc2, its2, nn2, HA, IA, va2, hlen2, stA, frA, wA⟩
          have fpok2 : ∀ {its3 : List Value} {nn3 : Nat} {H' : Hp}, (∀ b ∈ fp2, H' b = none) → ∀ b ∈ fp2, FpOk Xc ([(s2.heap.objs.size, { cls := .type "list", dict := none, data := .seq its3.toArray nn3 })] ++ pinsAt fp s5.heap) H' b := fun {its3 nn3 H'} hn b hb => by
            obtain ⟨z1, z2, z3, z4, z5, z6⟩ := f9 b hb
            refine ⟨hn b hb, z2, z3, z4, z5, fun p hp => ?_⟩
            rcases List.mem_append.mp hp with z | z
            · exact z6 p (List.mem_append_left _ z)
            · rcases List.mem_append.mp z with z | z
              · simp only [List.mem_cons, List.not_mem_nil, or_false] at z
                subst z
                exact z6 (s2.heap.objs.size, { cls := .type "list", dict := none, data := .seq its.toArray nn }) (List.mem_append_right _ (List.mem_append_left _ (.head _)))
              · exact z6 p (List.mem_append_right _ (List.mem_append_right _ z))
          rcases turn2 j n2 acc2 HA wA with ⟨stop, m', hm, wN⟩ | ⟨go, hl, step⟩
          · have q := T2.done Xc hXp hXw rfl hXcalm j _ sA σ6 HA (fun _ _ => False) IA (fpok2 frA) stA stop
            rw [hXA] at q
            refine thn q fun r sB ⟨hr, IB⟩ => ?_
            subst hr
            exact ⟨m', hm, again IB va2 hlen2 wN kl kv⟩
          · have q := T2.item Xc hXp hXw rfl hXcalm j _ sA σ6 HA (fun _ _ => False) IA (fpok2 frA) stA go
            rw [hXA] at q
            refine thn q fun r sB ⟨u2, hr, hB⟩ => ?_
            subst hr
            refine thn hB fun _ sC ⟨x2, HC, IC, rC, yC, stC, frC⟩ => ?_
            have IC' := IC.pinned (fpok2 frC) (T2.obj _ _ stC)
            have again2 : ∀ {σ7 : St} {H7 : Hp} {s7 : Shared} {acc7 : List V} {its7 : List Value} {n7 : Nat} {m : Nat}, Inv Xc (([(s2.heap.objs.size, { cls := .type "list", dict := none, data := .seq its7.toArray n7 })] ++ pinsAt fp s5.heap) ++ pinsAt fp2 sC.heap) σ7 H7 s7 → Vals acc7 its7 → acc7.length ≤ sizeLine → W2 (j + 1) m acc7 H7 → σ7.length = σ6.length → (∀ (k : Nat) v, σ6[k]? = some (some v) → σ7[k]? = some (some v)) →
                ∃ j acc2 its2 nn2 H', Inv Xc ([(s2.heap.objs.size, { cls := .type "list", dict := none, data := .seq (its2 : List Value).toArray nn2 })] ++ pinsAt fp s5.heap) σ6 H' s7 ∧ Vals acc2 its2 ∧ acc2.length ≤ sizeLine ∧ tn2 j s7.heap ∧ (∀ b ∈ fp2, H' b = none) ∧ W2 j m acc2 H' := fun {σ7 H7 s7 acc7 its7 n7 m} I7 v7 l7 w7 hl7 hw7 => by
              refine ⟨j + 1, acc7, its7, n7, H7, (I7.weak hl7.symm hw7).unpinned, v7, l7, T2.keep _ _ _ stC fun b hb o e => (I7.pin (b, o) (List.mem_append_right _ (List.mem_append_right _ (mem_pinsAt hb e)))).1, fun b hb => ?_, w7⟩
              obtain ⟨o, e, d⟩ := T2.obj _ _ stC b hb
              exact (I7.pin (b, o) (List.mem_append_right _ (List.mem_append_right _ (mem_pinsAt hb e)))).2.1
            have qD := gX1 _ sC σ6 HC x2 u2 _ IC' rC (ho1 _ _ _ _ _ (fun σ' H' kk z => And.intro kk z) (step x2 HC yC))
            rw [hXe, hXA, hXp, hXw, hXx] at qD
            refine thn qD fun _ sD ⟨σD, HD, ID, kD, qD⟩ => ?_
            obtain ⟨kl1, kv1'⟩ := kv1 kD
            have qE := tX1 _ sD σD HD _ ID qD
            rw [hXe, hXA, hXp, hXw, hXx] at qE
            refine thn qE fun b sE ⟨HE, IE, qE⟩ => ?_
            cases b with
            | false =>
              obtain ⟨m', hm, wE⟩ := qE
              exact ⟨m', hm, again2 IE va2 hlen2 wE kl1 kv1'⟩
            | true =>
              have qF := eX _ sE σD HE _ IE qE
              rw [hXe, hXA, hXp, hXw, hXx] at qF
              refine thn qF fun y sF ⟨vF, HF, IF, rF, m', hm, wF⟩ => ?_
              have pinD := IF.pin _ (List.mem_append_right _ (List.mem_append_left _ (List.mem_append_left _ (.head _))))
              have hnf : ∀ p ∈ pinsAt fp s5.heap ++ pinsAt fp2 sC.heap, p.1 ≠ s2.heap.objs.size := fun p hp => by
                rcases List.mem_append.mp hp with z | z
                · obtain ⟨z, _⟩ := of_pinsAt z
                  exact Nat.ne_of_lt (hfl _ z)
                · obtain ⟨z, _⟩ := of_pinsAt z
                  obtain ⟨_, _, _, _, _, z6⟩ := f9 _ z
                  exact fun zz => z6 _ (List.mem_append_right _ (List.mem_append_left _ (.head _))) zz.symm
              have va' := va2.length
              refine call_meets F.slot_list_append ⟨_, pinD.1, rfl⟩ F.entry_list_append (F.args_list_append_2 _ _) (PySem.list_append s2.heap.objs.size its2.toArray nn2 y (by rw [List.size_toArray]; omega)) ⟨pinD.1, ?_⟩
              have e9 := PySem.IsL.update pinD.1 (fun a => a.push y)
              have e9' : its2.toArray.push y = (its2 ++ [y]).toArray := by simp
              dsimp only at e9
              rw [e9'] at e9
              have I8' : Inv Xc (pinsAt fp s5.heap ++ pinsAt fp2 sC.heap) σD HF sF := IF.pins_of fun p hp => IF.pin p (List.mem_append_right _ (by rw [List.append_assoc]; exact List.mem_append_right _ hp))
              have hXpn : Xc.pn = [] := by rw [← hXc]; rfl
              have I9 := I8'.turned (t' := sF.toks) (it := s2.heap.objs.size) (h' := sF.heap.update s2.heap.objs.size (Obj.mapSeq fun a => a.push y)) (fun b o hb e => (Heap.get?_update_other sF.heap _ (Ne.symm hb)).trans e) pinD.2.1 pinD.2.2.1
                (.inr (by rw [hs0]; exact Nat.le_refl _)) (fun x c e => by
                  rw [hXe] at e
                  intro z
                  obtain ⟨v, q⟩ := I2.cell x c (up _ _ e)
                  exact absurd q.lt (by rw [z]; exact Nat.lt_irrefl _)) (fun p hp => by rw [hXpn, List.nil_append] at hp; exact hnf p hp)
              have I10 := I9.pins_of (pins' := ([(s2.heap.objs.size, { cls := .type "list", dict := none, data := .seq (its2 ++ [y]).toArray _ })] ++ pinsAt fp s5.heap) ++ pinsAt fp2 sC.heap) fun p hp => by
                rw [List.append_assoc] at hp
                rcases List.mem_append.mp hp with z | z
                · simp only [List.mem_cons, List.not_mem_nil, or_false] at z
                  subst z
                  exact ⟨e9, pinD.2.1, pinD.2.2.1, pinD.2.2.2.1, by intro v z; cases z⟩
                · exact I9.pin p (List.mem_append_right _ z)
              exact ⟨m', hm, again2 I10 (va2.append (.cons rF .nil)) (by rw [List.length_append, List.length_singleton]; omega) wF kl1 kv1'⟩
        refine wpAny_runOwn ?_
        refine codeAny_mono (codeAny_start1 loop2 (T2.self _ 0 _ _ _ st9 loop2)) fun r s' hr => ?_
        cases r with
        | ok f => exact hr
        | error e => exact hr.elim
  exact codeAny_compStart_list loop (T.self _ 0 _ _ _ st4 loop)

theorem ps_setC2 {i : Nat} {x : Str} {pos' spos : Pos} {tg elt iter tg1 iter1 : Expr} {ifs ifs1 : List Expr} {scope : Scope} {pos : Pos} {wi wi1 : TI} {g g1 : TG} {tt tt1 : TT} {te : TE} (Nc : List Str) (js : List (Option Nat)) {L L1 : List Nat}
    (hN : X.N.Nodup) (hxi : X.N[i]? = some x) (hx : Loc X.env.scope x)
    (hc : X.calm = true) (hok : compOk X.env.scope scope = true) (htk : takesC X.N Nc scope js 0 = true) (hi : PI X tg iter wi)
    (hg : ∀ cl C s2 H2 fp, PG (compCx X Nc scope cl C s2 H2 fp) tg g) (ht : ∀ cl C s2 H2 fp, PIfs (compCx X Nc scope cl C s2 H2 fp) ifs tt) (hi1 : ∀ cl C s2 H2 fp, PI (compCx X Nc scope cl C s2 H2 fp) tg1 iter1 wi1) (hg1 : ∀ cl C s2 H2 fp, PG (compCx X Nc scope cl C s2 H2 fp) tg1 g1) (ht1 : ∀ cl C s2 H2 fp, PIfs (compCx X Nc scope cl C s2 H2 fp) ifs1 tt1) (he : ∀ cl C s2 H2 fp, PE (compCx X Nc scope cl C s2 H2 fp) elt te)
    (ho : OnlyG g L) (ho1 : OnlyG g1 L1) (hL : (L.all fun k => js[k]? == some none) = true := by rfl) (hL1 : (L1.all fun k => js[k]? == some none && !L.contains k) = true := by rfl) (hs : ∀ x, foldedSetIterable iter X.env x = pure x := by intro _; rfl) (hs1 : ∀ env x, foldedSetIterable iter1 env x = pure x := by intro _ _; rfl)
    (hsw : swapsWith (.ListComp elt [⟨tg, iter, ifs, 0⟩, ⟨tg1, iter1, ifs1, 0⟩] scope pos) (some (.Name x pos')) spos.line X.env = pure true := by rfl)
    (hf : X.fn x = true ∨ X.env.scope.names.lookup x = some .local := by first | exact .inl rfl | exact .inr rfl | assumption) :
    PS X (.Assign [.Name x pos'] (.ListComp elt [⟨tg, iter, ifs, 0⟩, ⟨tg1, iter1, ifs1, 0⟩] scope pos) spos) (tAsg (tComp2 wi g tt wi1 g1 tt1 te js) (gName i)) := by
  intro pins s σ H D I h
  rw [exec_Assign_Name_used _ _ _ _ hsw]
  refine wpAny_bind (wpAny_standAt (wpAny_bind ?_))
  show wpAny _ _ (comprehension _ _ _ _ _ _ _ _ >>= _) _ _ _
  refine wpAny_bind (thn (Q := fun _ s' => ∃ σ' H', Inv X pins σ' H' s' ∧ D.nx σ' H') (comp_run2 (Q := fun v H1 => gName i v σ H1 D.nx) (use := some (assign (.Name x pos') X.env)) hc hok htk hi hg ht hi1 hg1 ht1 he hs hs1 ho ho1 hL hL1 I h ?_) fun _ s' ⟨σ', H', I', q⟩ => wpAny_pure (wpAny_pure ⟨σ', H', I', q⟩))
  intro D' C H' H2 s2 s' xs m I2 hHC e1 e2 hn hI q
  obtain ⟨oC, es, ep, hoC, hdC, hrest⟩ := id hn
  have leC : s2.heap.objs.size ≤ C := by rw [e1, e2]; exact Nat.le_succ _
  have ltC : s2.heap.objs.size < C := by rw [e1, e2]; exact Nat.lt_succ_self _
  have neDC : C ≠ D' := by rw [e2]; exact Nat.ne_of_gt ltC
  have fresh : s2.heap.get? C = none := by
    cases e : s2.heap.get? C with
    | none => rfl
    | some o => exact absurd (Nat.lt_of_lt_of_le (Heap.lt_size e) leC) (Nat.lt_irrefl _)
  have neL : C ≠ X.env.locals := Nat.ne_of_gt (Nat.lt_of_lt_of_le I2.lt leC)
  have nfs : C ∉ X.fs := I2.nofs leC
  have ncl : ∀ x c, X.env.cells.lookup x = some c → c ≠ C := fun x c e z => by
    obtain ⟨v, q⟩ := I2.cell x c e
    exact absurd (Nat.lt_of_lt_of_le q.lt leC) (by rw [z]; exact Nat.lt_irrefl _)
  have npn : ∀ p ∈ X.pn ++ pins, p.1 ≠ C := fun p hp z => by
    have := (I2.pin p hp).1
    rw [z, fresh] at this; cases this
  have hH : (upd H' D' (HO.lst xs)) C = none := by rw [upd_ne neDC]; exact hHC
  have I0 := hI s'.heap sameBut_refl
  have I1 : Inv X (pins ++ [(C, oC)]) σ (upd H' D' (.lst xs)) s' := I0.pins_of fun p hp => by
    rcases List.mem_append.mp hp with z | z
    · exact I0.pin p (List.mem_append_right _ z)
    · simp only [List.mem_cons, List.not_mem_nil, or_false] at z
      subst z
      exact ⟨hoC, hH, neL, nfs, fun v z => by rw [hdC] at z; cases z⟩
  show wpAny _ _ _ _ _ _
  refine thn (pg_name (X := X) (i := i) hN hxi hx hf (pins ++ [(C, oC)]) s' σ _ (.ref D') (.ref D') _ I1 rfl q) fun _ s3 ⟨σ3, H3, I3, q3⟩ => ?_
  have pC := I3.pin (C, oC) (List.mem_append_right _ (List.mem_append_right _ (.head _)))
  refine ⟨m, ⟨oC, es, ep, pC.1, hdC, hrest⟩, fun h' hsb => ⟨σ3, H3, ?_, q3⟩⟩
  exact I3.unpinned.turned (t' := s3.toks) (it := C) (fun b o hb e => hsb.extBut b o hb e) pC.2.1 neL (.inr (Nat.le_trans I2.sz leC)) ncl npn
end
end L2


set_option Elab.async false
set_option linter.all false
set_option maxRecDepth 100000
set_option maxHeartbeats 1000000
namespace L2
open PySem PySem.Spec PyProof.Rows PySem.W

def TupsV (H : Hp) (acc : List V) (rs : List (List Int)) : Prop := ∃ as : List Addr, acc = as.map V.ref ∧ as.length = rs.length ∧ ∀ i (h1 : i < as.length) (h2 : i < rs.length), H as[i] = some (.tup (rs[i].map V.int))
theorem TupsV.nil {H : Hp} : TupsV H [] [] := ⟨[], rfl, rfl, fun i h => absurd h (by simp)⟩
theorem TupsV.same {H H' : Hp} {acc : List V} {rs : List (List Int)} (h : TupsV H acc rs) (s : Same H H') : TupsV H' acc rs := by
  obtain ⟨as, e, l, k⟩ := h
  exact ⟨as, e, l, fun i h1 h2 => s _ _ (k i h1 h2)⟩
theorem TupsV.len {H : Hp} {acc : List V} {rs : List (List Int)} (h : TupsV H acc rs) : acc.length = rs.length := by
  obtain ⟨as, e, l, k⟩ := h
  rw [e, List.length_map, l]
theorem TupsV.snoc {H : Hp} {acc : List V} {rs : List (List Int)} {u : Addr} {r : List Int} (h : TupsV H acc rs) (hu : H u = some (.tup (r.map V.int))) : TupsV H (acc ++ [V.ref u]) (rs ++ [r]) := by
  obtain ⟨as, e, l, k⟩ := h
  refine ⟨as ++ [u], by rw [e]; simp, by simp [l], fun i h1 h2 => ?_⟩
  by_cases c : i < as.length
  · rw [List.getElem_append_left c, List.getElem_append_left (by omega)]; exact k i c (by omega)
  · have : i = as.length := by simp at h1; omega
    subst this
    rw [List.getElem_concat_length, List.getElem_append_right (by omega)]
    simpa [l] using hu
    rfl
theorem TupsV.at {H : Hp} {acc : List V} {rs : List (List Int)} {l : Addr} (h : TupsV H acc rs) (hl : H l = none) : TupsAt (upd H l (.lst acc)) l rs := by
  obtain ⟨as, e, ln, k⟩ := h
  refine ⟨as, by rw [upd_same, e], ln, fun i h1 h2 => ?_⟩
  rw [upd_ne (fun z => by have := k i h1 h2; rw [z, hl] at this; cases this)]
  exact k i h1 h2
def C2W (n : Nat) (U : Nat → List (List Int)) (H1 : Hp) (i m : Nat) (acc : List V) (H : Hp) : Prop := m = n - i ∧ i ≤ n ∧ TupsV H acc (U i) ∧ Same H1 H
theorem C2W.next {n : Nat} {U : Nat → List (List Int)} {H1 H : Hp} {i : Nat} {acc : List V} (hi : i < n) (t : TupsV H acc (U (i + 1))) (s : Same H1 H) : ∃ m', m' < n - i ∧ C2W n U H1 (i + 1) m' acc H := ⟨n - (i + 1), by omega, rfl, hi, t, s⟩
theorem comp2_tups {J : It} {g : TG} {tt : TT} {wi1 : TI} {g1 : TG} {tt1 : TT} {te : TE} {σ0 : St} {Q : VK} {H1 : Hp} (n : Nat) (U : Nat → List (List Int)) (h0 : U 0 = []) (hl : ∀ i, i ≤ n → (U i).length ≤ 100000)
    (hgo : ∀ i H, Same H1 H → i < n → J.go i H) (hstop : ∀ H, Same H1 H → J.stop n H)
    (hb : ∀ i x acc H H', i < n → TupsV H acc (U i) → Same H1 H → J.yld i H x H' → g x σ0 H' fun σ2 H2 => tt σ2 H2 fun b H3 => if b = true then wi1 σ2 H3 fun J2 H4 => Comp2In J2 g1 tt1 te σ2 acc (fun acc2 H5 => ∃ m', m' < n - i ∧ C2W n U H1 (i + 1) m' acc2 H5) H4 else ∃ m', m' < n - i ∧ C2W n U H1 (i + 1) m' acc H3)
    (hk : ∀ l acc H', Same H1 H' → H' l = none → TupsV H' acc (U n) → Q (.ref l) (upd H' l (.lst acc))) : CompR2 J g tt wi1 g1 tt1 te σ0 Q H1 := by
  refine ⟨C2W n U H1, ⟨n, rfl, Nat.zero_le _, by rw [h0]; exact TupsV.nil, Same.refl _⟩, ?_⟩
  rintro i m acc H ⟨rfl, hi, t, s⟩
  have hlen : acc.length ≤ sizeLine := Nat.le_trans (t.len ▸ hl i hi) (by decide)
  by_cases h : i < n
  · exact .inr ⟨hgo i H s h, hlen, fun x H' y => hb i x acc H H' h t s y⟩
  · have e : i = n := by omega
    subst e
    exact .inl ⟨hstop H s, hlen, fun p hp => hk p acc H s hp t⟩
theorem comp2_in {J2 : It} {g1 : TG} {tt1 : TT} {te : TE} {σ2 : St} {acc : List V} {F : List V → Hp → Prop} {H4 : Hp} (k : Nat) (V' : Nat → List (List Int)) (h0 : TupsV H4 acc (V' 0)) (hl : ∀ j, j ≤ k → (V' j).length ≤ 100000)
    (hgo : ∀ j H, Same H4 H → j < k → J2.go j H) (hstop : ∀ H, Same H4 H → J2.stop k H)
    (hb : ∀ j x acc2 H5 H6, j < k → TupsV H5 acc2 (V' j) → Same H4 H5 → J2.yld j H5 x H6 → g1 x σ2 H6 fun σ3 H7 => tt1 σ3 H7 fun b2 H8 => if b2 = true then te σ3 H8 fun v H9 => ∃ m', m' < k - j ∧ C2W k V' H4 (j + 1) m' (acc2 ++ [v]) H9 else ∃ m', m' < k - j ∧ C2W k V' H4 (j + 1) m' acc2 H8)
    (hF : ∀ acc2 H5, TupsV H5 acc2 (V' k) → Same H4 H5 → F acc2 H5) : Comp2In J2 g1 tt1 te σ2 acc F H4 := by
  refine ⟨C2W k V' H4, ⟨k, rfl, Nat.zero_le _, h0, Same.refl _⟩, ?_⟩
  rintro j m acc2 H ⟨rfl, hj, t, s⟩
  have hlen : acc2.length < sizeLine := Nat.lt_of_le_of_lt (t.len ▸ hl j hj) (by decide)
  by_cases h : j < k
  · exact .inr ⟨hgo j H s h, hlen, fun x H' y => hb j x acc2 H H' h t s y⟩
  · have e : j = k := by omega
    subst e
    exact .inl ⟨hstop H s, hF acc2 H t s⟩

theorem sort_one {α : Type} {k : α → Int} : ∀ {l m : List α}, l.Perm m → l.Pairwise (fun x y => k x ≤ k y) → m.Pairwise (fun x y => k x ≤ k y) → (∀ x, x ∈ l → ∀ y, y ∈ l → k x = k y → x = y) → l = m
  | [], m, h, _, _, _ => (List.Perm.nil_eq h)
  | x :: l, m, h, s1, s2, inj => by
    cases m with
    | nil => exact absurd h.length_eq (by simp)
    | cons y m =>
      have hx : x ∈ y :: m := (List.Perm.mem_iff h).mp List.mem_cons_self
      have hy : y ∈ x :: l := (List.Perm.mem_iff h).mpr List.mem_cons_self
      have e : x = y := by
        refine inj x List.mem_cons_self y hy (Int.le_antisymm ?_ ?_)
        · rcases List.mem_cons.mp hy with z | z
          · rw [z]; exact Int.le_refl _
          · exact (List.pairwise_cons.mp s1).1 y z
        · rcases List.mem_cons.mp hx with z | z
          · rw [z]; exact Int.le_refl _
          · exact (List.pairwise_cons.mp s2).1 x z
      subst e
      rw [sort_one (List.Perm.cons_inv h) (List.pairwise_cons.mp s1).2 (List.pairwise_cons.mp s2).2 fun u hu v hv => inj u (List.mem_cons_of_mem _ hu) v (List.mem_cons_of_mem _ hv)]
end L2


set_option Elab.async false
set_option linter.all false
set_option maxRecDepth 100000
set_option maxHeartbeats 4000000
namespace K64
open PySem PySem.Spec PyProof.Rows L2
local macro_rules | `(tactic| walk_at "rd") => `(tactic| simp only [tIfS, tNot, tTest, tChain, rI0, rI, rU, tVar, tC, tB, tIf, tAndV, tOrV, tNotV, tCall, tCallX, tCons, tNil, tAsg, tSeq, tRet, tNext, tOp, tUn, tAnd, tOr, tDrop, gName, gSub, tAug, tCB, tSl, tRaise, tLst, tTup, L2.start, tYes, gTup, gCons, gNil, iniC, Option.join_some, Option.join_none, rEq, rNe, scal_ii, scal_bb, scal_ss, scal_nn, scal_ni, scal_in, tBM, Bool.true_eq_false, List.map_cons, List.map_nil, List.cons_append, List.nil_append, List.length_cons, List.length_nil, List.replicate, List.append_nil, List.set_cons_zero, List.set_cons_succ, List.getElem?_cons_zero, List.getElem?_cons_succ, Option.some.injEq, V.int.injEq, V.bl.injEq, V.ref.injEq, List.cons.injEq, and_true, true_and, exists_eq_left, exists_eq_left', exists_and_left, exists_eq, decide_eq_true_eq, Bool.not_eq_true', decide_eq_false_iff_not, cxK, and_assoc, Bool.false_eq_true, ↓reduceIte, tFor_eq, tWhile_eq, tComp_eq, iRng1, iRng2, iList, iTup, iZip, iRev, rIxL, rIxT, rSetL, rCat, rIsi, rSum, rCount, tDelT, rPop, rIntB, tPar, rInsert, rIndex, rLen, rLof, rTof, tChain3, rBits, iSeq, tBM0, rEqD, tRngV, rLstR, tRngV2, rLstR2, rIn, gSubSl, rSlQ, iEnum, iEnumT, rInD, tMaxDT, tMaxD, tMinD, rIndexF, rSorted, rOr, rAll, rAny, ipM, rIxQ, tRev, rSlL, tPart, tNoPart, tSl, ipI, rAppend, rRep, cOf_ref, cOf_ty, rTupR2, rPopAt, iZipQ, rExtend, rSortT, rSlU, tAugS, iRevR, rMulS, rJoin, iStr, rSumT, V.str.injEq, rCountS, rRstrip, rLenS, rLtT, rRepU, rRemP, rIsAsc, rIsDig, rStarts, rStrI, rIntS, rSplit, tFldC, sFldC, tMeth, tMake, tDNewK, tDGet, sDPut, tDIn, tDNotIn, rSortD, rCatU, rSlV, rCatK, tMethX, iZip3, iEnumZ, tDNewT, tDSetD, tDVals, rLVals, rNInD, tLam, tSortR1, tSortR2, rMin1, rMax1, tMaxKD, tMinKD, gLst, tAsg2, rEqN, rSortTB, tComp2_eq])
def top (i : Nat) : Stmt := PySem.Challenge.pw_dipkin_k64_clashing_told.main.body.getD i (.Pass ⟨0, 0, 0, 0⟩)
abbrev s_settle : Stmt := top 6
abbrev s_tree_of : Stmt := top 7
abbrev s_way_up : Stmt := top 8
abbrev s_is_tree : Stmt := top 9
abbrev s_need_tree : Stmt := top 10
abbrev s_flat_number : Stmt := top 12
abbrev s_flattest : Stmt := top 13
abbrev s_heights_of : Stmt := top 15
abbrev s_higher_pairs : Stmt := top 16
abbrev s_clashing : Stmt := top 18
abbrev s__law_pool : Stmt := top 20
abbrev s__law_pick : Stmt := top 21
abbrev s__law_size : Stmt := top 22
abbrev s__law_drops : Stmt := top 23
abbrev s__law_hung : Stmt := top 24
abbrev s__law_tree : Stmt := top 25
abbrev s__law_over : Stmt := top 26
abbrev s__law_flats : Stmt := top 27
abbrev s__law_kin_row : Stmt := top 28
abbrev s__law_whole : Stmt := top 29
abbrev s__law_near_row : Stmt := top 30
abbrev s__law_clashes : Stmt := top 31
abbrev s_law : Stmt := top 32
structure Txt (K : PySem.W.Frag) (mg : Str → Option Value) : Prop where
  b_bool : mg "bool" = none
  b_enumerate : mg "enumerate" = none
  b_int : mg "int" = none
  b_isinstance : mg "isinstance" = none
  b_len : mg "len" = none
  b_list : mg "list" = none
  b_max : mg "max" = none
  b_min : mg "min" = none
  b_range : mg "range" = none
  b_sorted : mg "sorted" = none
  b_tuple : mg "tuple" = none
  b_zip : mg "zip" = none
  c_DipError : mg "DipError" = some (.ref (clsAt mg "DipError"))
  x_DipError : PySem.W.excIn K (clsAt mg "DipError") bmV newV = true
  c_Unlike : mg "Unlike" = some (.ref (clsAt mg "Unlike"))
  x_Unlike : PySem.W.excIn K (clsAt mg "Unlike") bmV newV = true
  c_NoTree : mg "NoTree" = some (.ref (clsAt mg "NoTree"))
  x_NoTree : PySem.W.excIn K (clsAt mg "NoTree") bmV newV = true
  m_MOST_PLACES : mg "MOST_PLACES" = some (.int 40 (tokAt mg "MOST_PLACES"))
abbrev SpT := PySem.W.Frag → (Str → Option Value) → Sp
def spLaw (K : PySem.W.Frag) : Sp := fun vs H Q E => ∃ (a : Addr) (ns : List Int), vs = [.ref a] ∧ SqL K H a (ns.map V.int) ∧ ns.length ≤ 63 ∧ ∀ H', Q (.bl true) H'
def sp__law_pool : SpT := fun K mg vs H Q E => ∃ (a : Addr) (ns : List Int) (k : Int), vs = [.ref a, .int k] ∧ SqL K H a (ns.map V.int) ∧ 0 ≤ k ∧ k ≤ 100 ∧ ∀ p H', H p = none → Same H H' → PoolAt H' p → Q (.ref p) H'
def sp__law_pick : SpT := fun K mg vs H Q E => ∃ (p : Addr) (many : Int), vs = [.ref p, .int many] ∧ 0 < many ∧ many ≤ 1000000000 ∧ PoolAt H p ∧ ∀ d H', 0 ≤ d → d < many → PoolAt H' p → Exc p H H' → Q (.int d) H'
def sp__law_whole : SpT := fun K mg vs H Q E => ∃ i : Int, vs = [.int i] ∧ Q (.bl true) H

def sp__law_size : SpT := fun K mg vs H Q E => ∃ (p : Addr) (most : Int), vs = [.ref p, .int most] ∧ 0 ≤ most ∧ most ≤ 1000 ∧ PoolAt H p ∧ ∀ d H', 0 ≤ d → d ≤ most → PoolAt H' p → Exc p H H' → Q (.int d) H'
def sp__law_row : SpT := fun K mg vs H Q E => ∃ (p : Addr) (most : Int), vs = [.ref p, .int most] ∧ 0 ≤ most ∧ most ≤ 1000 ∧ PoolAt H p ∧ ∀ (r : Addr) (ns : List Int) H', H r = none → (ns.length : Int) ≤ most → H' r = some (.tup (ns.map V.int)) → PoolAt H' p → Exc p H H' → Q (.ref r) H'
def sp__law_low : SpT := fun K mg vs H Q E => ∃ (r : Addr) (ns : List Int) (a c : Nat), vs = [.ref r, .int a, .int ((a + c : Nat) : Int)] ∧ SqT K H r (ns.map V.int) ∧ a + c < ns.length ∧ ns.length ≤ 1000 ∧ Q (.int (lowF (nth ns) a c : Nat)) H

def sp_settle : SpT := fun K mg vs H Q E => ∃ (el sp : Addr) (es : List Int) (A B : List Nat) (i : Nat), vs = [.ref el, .ref sp, .int i, .int A.length] ∧ H el = some (.lst (es.map V.int)) ∧ H sp = some (.lst (natsV (A ++ B))) ∧ el ≠ sp ∧ i < es.length ∧ (∀ q ∈ A ++ B, q < es.length) ∧ (A ++ B).length ≤ 1000 ∧
  ∀ H', (∀ b o, b ≠ el → b ≠ sp → H b = some o → H' b = some o) → H' el = some (.lst ((setE es A B i).map V.int)) → H' sp = some (.lst (natsV (A ++ [i]))) → Q .non H'
def sp_tree_of : SpT := fun K mg vs H Q E => ∃ (r : Addr) (ns : List Int), vs = [.ref r] ∧ (SqL K H r (ns.map V.int) ∨ SqT K H r (ns.map V.int)) ∧ ns.length ≤ 1000 ∧ ∀ (t : Addr) (es : List Int) H', TreeIs ns es → Same H H' → H' t = some (.tup (es.map V.int)) → Q (.ref t) H'

def sp_way_up : SpT := fun K mg vs H Q E => ∃ (t : Addr) (T : List Int) (p : Nat), vs = [.ref t, .int p] ∧ (SqL K H t (T.map V.int) ∨ SqT K H t (T.map V.int)) ∧ T.length ≤ 1000 ∧ p < T.length ∧ ∀ (w : Addr) H', H w = none → Same H H' → H' w = some (.lst ((wayI T p).map V.int)) → Q (.ref w) H'

def sp_is_tree : SpT := fun K mg vs H Q E => ∃ (t : Addr) (T : List Int), vs = [.ref t] ∧ H t = some (.tup (T.map V.int)) ∧ T.length ≤ 1000 ∧ (GoodT T → ∀ H', Same H H' → Q (.bl true) H') ∧ (¬ GoodT T → ∀ H', Same H H' → Q (.bl false) H')

def sp_need_tree : SpT := fun K mg vs H Q E => ∃ (t : Addr) (T : List Int), vs = [.ref t] ∧ H t = some (.tup (T.map V.int)) ∧ T.length ≤ 1000 ∧ (GoodT T → ∀ H', Same H H' → Q .non H') ∧ (¬ GoodT T → ∀ H', Same H H' → E (.ref (clsAt mg "NoTree")) none H')

def sp_flat_number : SpT := fun K mg vs H Q E => ∃ (t : Addr) (T : List Int) (p : Nat), vs = [.ref t, .int p] ∧ H t = some (.tup (T.map V.int)) ∧ T.length ≤ 1000 ∧ p < T.length ∧ ∀ H', Same H H' → Q (.int (flatN T p : Nat)) H'
def sp_flattest : SpT := fun K mg vs H Q E => ∃ (t : Addr) (T : List Int), vs = [.ref t] ∧ H t = some (.tup (T.map V.int)) ∧ T.length ≤ 1000 ∧ (GoodT T → ∀ (t' : Addr) H', Same H H' → H' t' = some (.tup ((flatI T).map V.int)) → Q (.ref t') H') ∧ (¬ GoodT T → ∀ H', Same H H' → E (.ref (clsAt mg "NoTree")) none H')

def sp__law_over : SpT := fun K mg vs H Q E => ∃ (t : Addr) (T : List Int) (p : Nat), vs = [.ref t, .int p] ∧ H t = some (.tup (T.map V.int)) ∧ T.length ≤ 900 ∧ p < T.length ∧
  ((∃ ns, TreeIs ns T) → ∀ (w : Addr) H', H w = none → Same H H' → H' w = some (.lst ((wayI T p).map V.int)) → Q (.ref w) H') ∧
  ((¬ ∃ ns, TreeIs ns T) → (∀ H', Same H H' → Q .non H') ∧ ∀ (w : Addr) (L : List Nat) H', H w = none → L.length ≤ T.length + 1 → Same H H' → H' w = some (.lst (natsV L)) → Q (.ref w) H')
def sp__law_flats : SpT := fun K mg vs H Q E => ∃ (t : Addr) (T : List Int), vs = [.ref t] ∧ H t = some (.tup (T.map V.int)) ∧ T.length ≤ 900 ∧
  ((∃ ns, TreeIs ns T) → ∀ (u : Addr) H', Same H H' → H' u = some (.tup ((flatI T).map V.int)) → Q (.ref u) H') ∧
  ((¬ ∃ ns, TreeIs ns T) → (∀ H', Same H H' → Q .non H') ∧ ∀ (u : Addr) (L : List Int) H', L.length = T.length → Same H H' → H' u = some (.tup (L.map V.int)) → Q (.ref u) H')
def sp__law_tree_of : SpT := fun K mg vs H Q E => ∃ (r : Addr) (ns : List Int), vs = [.ref r] ∧ H r = some (.tup (ns.map V.int)) ∧ ns.length ≤ 1000 ∧ ∀ (t : Addr) (es : List Int) H', TreeIs ns es → Same H H' → H' t = some (.tup (es.map V.int)) → Q (.ref t) H'
def sp__law_is_tree : SpT := fun K mg vs H Q E => ∃ (t : Addr) (T : List Int), vs = [.ref t] ∧ H t = some (.tup (T.map V.int)) ∧ T.length ≤ 900 ∧ (GoodT T → ∀ H', Same H H' → Q (.bl true) H') ∧ (¬ GoodT T → ∀ H', Same H H' → Q (.bl false) H')
def sp__law_no_tree : SpT := fun K mg vs H Q E => ∃ (p t : Addr) (T : List Int), vs = [.ref p, .ref t] ∧ PoolAt H p ∧ H t = some (.tup (T.map V.int)) ∧ T.length ≤ 800 ∧ ∀ (t' : Addr) (T' : List Int) H', H' t' = some (.tup (T'.map V.int)) → T'.length ≤ 900 → PoolAt H' p → Exc p H H' → Q (.ref t') H'

def sp__law_drops : SpT := fun K mg vs H Q E => ∃ (p : Addr) (n : Nat), vs = [.ref p, .int n] ∧ n ≤ 40 ∧ PoolAt H p ∧ ∀ (t : Addr) (ds : List Nat) H', H t = none → ds.length = n → DropsOk ds → H' t = some (.tup (natsV ds)) → PoolAt H' p → Exc p H H' → Q (.ref t) H'
def sp__law_hung : SpT := fun K mg vs H Q E => ∃ (t : Addr) (ds : List Nat), vs = [.ref t] ∧ H t = some (.tup (natsV ds)) ∧ ds.length ≤ 40 ∧ DropsOk ds ∧ ∀ (u : Addr) (es : List Int) H', H u = none → es.length = ds.length → (∃ ns, TreeIs ns es) → Same H H' → H' u = some (.tup (es.map V.int)) → Q (.ref u) H'
def sp__law_tree : SpT := fun K mg vs H Q E => ∃ (p : Addr) (most : Nat), vs = [.ref p, .int most] ∧ most ≤ 40 ∧ PoolAt H p ∧ ∀ (u : Addr) (es : List Int) H', H u = none → es.length ≤ most → (∃ ns, TreeIs ns es) → H' u = some (.tup (es.map V.int)) → PoolAt H' p → Exc p H H' → Q (.ref u) H'
def sp__law_kin_row : SpT := fun K mg vs H Q E => ∃ (p t : Addr) (T : List Int), vs = [.ref p, .ref t] ∧ PoolAt H p ∧ H t = some (.tup (T.map V.int)) ∧ T.length ≤ 40 ∧ (∃ ns, TreeIs ns T) ∧ ∀ (r : Addr) (ms : List Int) H', H r = none → TreeIs ms T → H' r = some (.tup (ms.map V.int)) → PoolAt H' p → Exc p H H' → Q (.ref r) H'

/-- the heights of a row by the flat one -/
def hgt (F ns : List Int) : List Int := (List.range F.length).map fun i => nth ns i - nth F i
def sp_heights_of : SpT := fun K mg vs H Q E => ∃ (f r : Addr) (F ns : List Int), vs = [.ref f, .ref r] ∧ H f = some (.tup (F.map V.int)) ∧ (SqL K H r (ns.map V.int) ∨ SqT K H r (ns.map V.int)) ∧ F.length ≤ 1000 ∧ ns.length ≤ 1000 ∧ (ns.length = F.length → ∀ (l : Addr) H', H l = none → Same H H' → H' l = some (.lst ((hgt F ns).map V.int)) → Q (.ref l) H') ∧ (ns.length ≠ F.length → ∀ H', Same H H' → E (.ref (clsAt mg "Unlike")) none H')

/-- the pairs of places of which the first is over the second and higher, as they are gone through -/
def pairsU (T hs : List Int) : List (List Int) := (List.range T.length).flatMap fun b => ((wayI T b).filter fun a => decide (nth hs b < nth hs a.toNat)).map fun a => [a, (b : Int)]
def SortP (rs' rs : List (List Int)) : Prop := rs'.Perm rs ∧ rs'.Pairwise (fun r r' => pairK r ≤ pairK r')
def sp_higher_pairs : SpT := fun K mg vs H Q E => ∃ (t h : Addr) (T hs : List Int), vs = [.ref t, .ref h] ∧ H t = some (.tup (T.map V.int)) ∧ H h = some (.lst (hs.map V.int)) ∧ T.length ≤ 40 ∧ hs.length = T.length ∧ ∀ (l : Addr) (rs : List (List Int)) H', H l = none → Same H H' → TupsAt H' l rs → SortP rs (pairsU T hs) → Q (.ref l) H'
def sp_clashing : SpT := fun K mg vs H Q E => ∃ (t r : Addr) (T ns : List Int), vs = [.ref t, .ref r] ∧ H t = some (.tup (T.map V.int)) ∧ (SqL K H r (ns.map V.int) ∨ SqT K H r (ns.map V.int)) ∧ GoodT T ∧ ns.length = T.length ∧ ∀ (l : Addr) (rs : List (List Int)) H', H l = none → Same H H' → TupsAt H' l rs → SortP rs (pairsU T (hgt (flatI T) ns)) → Q (.ref l) H'

def sp__law_near_row : SpT := fun K mg vs H Q E => ∃ (p t : Addr) (T : List Int), vs = [.ref p, .ref t] ∧ PoolAt H p ∧ H t = some (.tup (T.map V.int)) ∧ T.length ≤ 40 ∧ (∃ ns, TreeIs ns T) ∧ ∀ (r : Addr) (ms : List Int) H', H r = none → ms.length = T.length → H' r = some (.tup (ms.map V.int)) → PoolAt H' p → Exc p H H' → Q (.ref r) H'
def sp__law_clashes : SpT := fun K mg vs H Q E => ∃ (t r : Addr) (T ns : List Int), vs = [.ref t, .ref r] ∧ H t = some (.tup (T.map V.int)) ∧ H r = some (.tup (ns.map V.int)) ∧ T.length ≤ 40 ∧ (∃ ns, TreeIs ns T) ∧ ns.length = T.length ∧ ∀ (l : Addr) (rs : List (List Int)) H', H l = none → Same H H' → TupsAt H' l rs → SortP rs (pairsU T (hgt (flatI T) ns)) → Q (.ref l) H'

section
variable {P : Program} {w : World} {K : PySem.W.Frag} {mg : Str → Option Value} {base : Heap}
theorem sc_settle : FnScope ["elders", "spine", "place", "keep"] ["elders", "spine", "place", "keep"] (defScope s_settle) := ⟨rfl, rfl, rfl, by decide +kernel, rfl, by decide +kernel, by decide +kernel⟩
theorem sc_tree_of : FnScope ["row", "elders", "spine", "place", "keep"] ["row"] (defScope s_tree_of) := ⟨rfl, rfl, rfl, by decide +kernel, rfl, by decide +kernel, by decide +kernel⟩
theorem sc_way_up : FnScope ["tree", "place", "way", "at"] ["tree", "place"] (defScope s_way_up) := ⟨rfl, rfl, rfl, by decide +kernel, rfl, by decide +kernel, by decide +kernel⟩
theorem sc_is_tree : FnScope ["tree", "depths"] ["tree"] (defScope s_is_tree) := ⟨rfl, rfl, rfl, by decide +kernel, rfl, by decide +kernel, by decide +kernel⟩
theorem sc_need_tree : FnScope ["tree"] ["tree"] (defScope s_need_tree) := ⟨rfl, rfl, rfl, by decide +kernel, rfl, by decide +kernel, by decide +kernel⟩
theorem sc_flat_number : FnScope ["tree", "place"] ["tree", "place"] (defScope s_flat_number) := ⟨rfl, rfl, rfl, by decide +kernel, rfl, by decide +kernel, by decide +kernel⟩
theorem sc_flattest : FnScope ["tree"] ["tree"] (defScope s_flattest) := ⟨rfl, rfl, rfl, by decide +kernel, rfl, by decide +kernel, by decide +kernel⟩
theorem sc_heights_of : FnScope ["flat", "row"] ["flat", "row"] (defScope s_heights_of) := ⟨rfl, rfl, rfl, by decide +kernel, rfl, by decide +kernel, by decide +kernel⟩
theorem sc_higher_pairs : FnScope ["tree", "heights", "pairs"] ["tree", "heights"] (defScope s_higher_pairs) := ⟨rfl, rfl, rfl, by decide +kernel, rfl, by decide +kernel, by decide +kernel⟩
theorem sc_clashing : FnScope ["tree", "row"] ["tree", "row"] (defScope s_clashing) := ⟨rfl, rfl, rfl, by decide +kernel, rfl, by decide +kernel, by decide +kernel⟩
theorem sc__law_pool : FnScope ["script", "k", "cell"] ["script", "k"] (defScope s__law_pool) := ⟨rfl, rfl, rfl, by decide +kernel, rfl, by decide +kernel, by decide +kernel⟩
theorem sc__law_pick : FnScope ["pool", "many", "digit"] ["pool", "many"] (defScope s__law_pick) := ⟨rfl, rfl, rfl, by decide +kernel, rfl, by decide +kernel, by decide +kernel⟩
theorem sc__law_size : FnScope ["pool", "most"] ["pool", "most"] (defScope s__law_size) := ⟨rfl, rfl, rfl, by decide +kernel, rfl, by decide +kernel, by decide +kernel⟩
theorem sc__law_drops : FnScope ["pool", "many", "way", "found", "still", "k", "drop"] ["pool", "many"] (defScope s__law_drops) := ⟨rfl, rfl, rfl, by decide +kernel, rfl, by decide +kernel, by decide +kernel⟩
theorem sc__law_hung : FnScope ["drops", "elders", "still", "place", "drop", "turn"] ["drops"] (defScope s__law_hung) := ⟨rfl, rfl, rfl, by decide +kernel, rfl, by decide +kernel, by decide +kernel⟩
theorem sc__law_tree : FnScope ["pool", "most"] ["pool", "most"] (defScope s__law_tree) := ⟨rfl, rfl, rfl, by decide +kernel, rfl, by decide +kernel, by decide +kernel⟩
theorem sc__law_over : FnScope ["tree", "place", "found", "here"] ["tree", "place"] (defScope s__law_over) := ⟨rfl, rfl, rfl, by decide +kernel, rfl, by decide +kernel, by decide +kernel⟩
theorem sc__law_flats : FnScope ["tree", "found", "place", "over"] ["tree"] (defScope s__law_flats) := ⟨rfl, rfl, rfl, by decide +kernel, rfl, by decide +kernel, by decide +kernel⟩
theorem sc__law_kin_row : FnScope ["pool", "tree", "rise", "begin", "found", "ranks", "place", "rank", "elder", "least"] ["pool", "tree"] (defScope s__law_kin_row) := ⟨rfl, rfl, rfl, by decide +kernel, rfl, by decide +kernel, by decide +kernel⟩
theorem sc__law_whole : FnScope ["thing"] ["thing"] (defScope s__law_whole) := ⟨rfl, rfl, rfl, by decide +kernel, rfl, by decide +kernel, by decide +kernel⟩
theorem sc__law_near_row : FnScope ["pool", "tree", "many", "row", "way", "turn", "at", "turned"] ["pool", "tree"] (defScope s__law_near_row) := ⟨rfl, rfl, rfl, by decide +kernel, rfl, by decide +kernel, by decide +kernel⟩
theorem sc__law_clashes : FnScope ["tree", "row", "flats", "found", "b", "a"] ["tree", "row"] (defScope s__law_clashes) := ⟨rfl, rfl, rfl, by decide +kernel, rfl, by decide +kernel, by decide +kernel⟩
theorem sc_law : FnScope ["script", "k", "pool", "tree", "row", "due", "handed", "some", "pairs", "pair"] ["script"] (defScope s_law) := ⟨rfl, rfl, rfl, by decide +kernel, rfl, by decide +kernel, by decide +kernel⟩
theorem ok__law_pool {f : Addr} {fd : FuncData} (F : Fun K "_law_pool" "_law_pool" s__law_pool f fd)  (T : Txt K mg) : FnOk P w K mg base (CXE P w) 1 f fd ["script", "k"] (sp__law_pool K mg) := by
  refine F.okX sc__law_pool (fun vs H Q E h => ?_) (fun cdv A outer s H vs Q E hr h => ?_)
  · obtain ⟨n, k, _, rfl, _⟩ := h; rfl
  obtain ⟨a, ns, k, rfl, hS, h0, h1, k1⟩ := h
  refine ⟨_, (pss_cons (ps_set (i := 2) sc__law_pool.nd rfl (Or.inl rfl) pe_int)
      (pss_cons (ps_if (pt_cmpR op_lt (pv 1) (pe_callB (call_lenK (K := K) rfl) rfl T.b_len PySem.boot_len (pa_cons (pv 0) pa_nil)) (nomark _)) (pss_one (ps_set (i := 2) sc__law_pool.nd rfl (Or.inl rfl) (pe_op op_mod (pe_ix ix_list (pv 0) (pv 1) (fun _ _ => rfl)) (pe_op op_mulX (pe_op op_mulX (pe_op op_mulX (pe_op op_pow pe_int pe_int) (pe_op op_pow pe_int pe_int)) (pe_op op_pow pe_int pe_int)) (pe_op op_pow pe_int pe_int))))) pss_nil)
      (pss_one (ps_ret (pe_lst (pa_cons (pe_callB (call_max2 rfl) rfl T.b_max bt_max (pa_cons pe_int (pa_cons (pe_op op_sub (pv 2) (pe_op op_pow pe_int pe_int)) pa_nil))) (pa_cons (pe_op op_mod (pe_op op_mulX (pe_op op_add (pe_op op_add (pe_op op_mod (pv 2) pe_int) (pe_op op_mulX pe_int (pv 1))) pe_int) pe_int) pe_int) pa_nil))))))), ?_⟩
  simp only [tIfS, tNot, tTest, tChain, rI0, rI, rU, tVar, tC, tB, tIf, tAndV, tOrV, tNotV, tCall, tCallX, tCons, tNil, tAsg, tSeq, tRet, tNext, tOp, tUn, tAnd, tOr, tDrop, gName, gSub, tAug, tCB, tSl, tRaise, tLst, tTup, L2.start, tYes, gTup, gCons, gNil, iniC, Option.join_some, Option.join_none, rEq, rNe, scal_ii, scal_bb, scal_ss, scal_nn, scal_ni, scal_in, tBM, Bool.true_eq_false, List.map_cons, List.map_nil, List.cons_append, List.nil_append, List.length_cons, List.length_nil, List.replicate, List.append_nil, List.set_cons_zero, List.set_cons_succ, List.getElem?_cons_zero, List.getElem?_cons_succ, Option.some.injEq, V.int.injEq, V.bl.injEq, V.ref.injEq, List.cons.injEq, and_true, true_and, exists_eq_left, exists_eq_left', exists_and_left, exists_eq, decide_eq_true_eq, Bool.not_eq_true', decide_eq_false_iff_not, cxK, and_assoc, Bool.false_eq_true, ↓reduceIte, tFor_eq, tWhile_eq, tComp_eq, iRng1, iRng2, iList, iTup, iZip, iRev, rIxL, rIxT, rSetL, rCat, rIsi, rSum, rCount, tDelT, rPop, rIntB, tPar, rInsert, rIndex, rLen, rLof, rTof, tChain3, rBits, iSeq, tBM0, rEqD, tRngV, rLstR, tRngV2, rLstR2, rIn, gSubSl, rSlQ, iEnum, iEnumT, rInD, tMaxDT, tMaxD, tMinD, rIndexF, rSorted, rOr, rAll, rAny, ipM, rIxQ, tRev, rSlL, tPart, tNoPart, tSl, ipI, rAppend, rRep, cOf_ref, cOf_ty, rTupR2, rPopAt, iZipQ, rExtend, rSortT, rSlU, tAugS, iRevR, rMulS, rJoin, iStr, rSumT, V.str.injEq, rCountS, rRstrip, rLenS, rLtT, rRepU, rRemP, rIsAsc, rIsDig, rStarts, rStrI, rIntS, rSplit, tFldC, sFldC, tMeth, tMake, tDNewK, tDGet, sDPut, tDIn, tDNotIn, rSortD, rCatU, rSlV, rCatK, tMethX, iZip3, iEnumZ, tDNewT, tDSetD, tDVals, rLVals, rNInD, tLam, tSortR1, tSortR2, rMin1, rMax1, tMaxKD, tMinKD, gLst, tAsg2, rEqN, rSortTB, tComp2_eq, cp64, cp18, pm1, pm2, pm3, pm4, pm5, pm6, pm7]
  refine ⟨ns.map V.int, .inl hS, ?_⟩
  refine ite2 (fun hk => ?_) (fun _ => ?_)
  · obtain ⟨j, rfl⟩ := Int.eq_ofNat_of_zero_le h0
    have hj : j < (ns.map V.int).length := by omega
    refine ⟨_, hS, _, atI_at rfl hj, ns[j]'(by simpa using hj), by simp, mul_l (by omega) (by omega), mul_r (by omega) (by omega), fun p hp => k1 p _ hp ((Same.refl H).upd hp) ⟨_, _, upd_same, ?_, Int.emod_nonneg _ (by decide), Int.emod_lt_of_pos _ (by decide)⟩⟩
    split <;> omega
  · refine ⟨mul_l (by omega) (by omega), mul_r (by omega) (by omega), fun p hp => k1 p _ hp ((Same.refl H).upd hp) ⟨_, _, upd_same, ?_, Int.emod_nonneg _ (by decide), Int.emod_lt_of_pos _ (by decide)⟩⟩
    split <;> omega
theorem ok__law_pick {f : Addr} {fd : FuncData} (F : Fun K "_law_pick" "_law_pick" s__law_pick f fd)  (T : Txt K mg) : FnOk P w K mg base (CXE P w) 1 f fd ["pool", "many"] (sp__law_pick K mg) := by
  refine F.okX sc__law_pick (fun vs H Q E h => ?_) (fun cdv A outer s H vs Q E hr h => ?_)
  · obtain ⟨n, k, rfl, _⟩ := h; rfl
  obtain ⟨p, many, rfl, h0, h1, ⟨x, y, hp, hx, hy, hy2⟩, k1⟩ := h
  refine ⟨_, (pss_cons (ps_if (pt_cmpR op_gt (pe_ix ix_list (pv 0) pe_int (fun _ _ => rfl)) pe_int (nomark _)) (pss_cons (ps_set (i := 2) sc__law_pick.nd rfl (Or.inl rfl) (pe_op op_mod (pe_ix ix_list (pv 0) pe_int (fun _ _ => rfl)) (pv 1)))
      (pss_cons (ps_asg (pe_op op_fdiv (pe_ix ix_list (pv 0) pe_int (fun _ _ => rfl)) (pv 1)) (pg_sub (pv 0) pe_int set_list (fun _ => rfl)))
      (pss_one (ps_ret (pv 2))))) pss_nil)
      (pss_cons (ps_asg (pe_op op_mod (pe_op op_add (pe_op op_mulX (pe_ix ix_list (pv 0) pe_int (fun _ _ => rfl)) pe_int) pe_int) pe_int) (pg_sub (pv 0) pe_int set_list (fun _ => rfl)))
      (pss_one (ps_ret (pe_op op_mod (pe_op op_fdiv (pe_op op_mod (pe_op op_mulX (pe_ix ix_list (pv 0) pe_int (fun _ _ => rfl)) (pe_ix ix_list (pv 0) pe_int (fun _ _ => rfl))) pe_int) pe_int) (pv 1)))))), ?_⟩
  walk_at "rd"
  refine ⟨_, SqL.of hp, _, rfl, _, rfl, ?_⟩
  refine ite2 (fun hk => ?_) (fun _ => ?_)
  · refine ⟨_, SqL.of hp, _, rfl, _, rfl, h0, ?_⟩
    refine ⟨_, SqL.of hp, _, rfl, _, rfl, ⟨h0, by omega⟩, _, hp, _, rfl, ?_⟩
    exact k1 _ _ (Int.emod_nonneg _ (by omega)) (Int.emod_lt_of_pos _ h0) ⟨_, _, upd_same, Int.ediv_nonneg hx (by omega), hy, hy2⟩ Exc.upd
  · refine ⟨_, SqL.of hp, _, rfl, _, rfl, ?_⟩
    refine ⟨mul_r (by omega) (by omega), by decide, _, hp, _, rfl, _, SqL.of upd_same, _, rfl, _, SqL.of upd_same, _, rfl, _, rfl, _, rfl, mul_l ?_ ?_, by decide, ⟨by decide, by decide⟩, h0, ?_⟩
    · have := Int.emod_nonneg (y * 69621 + 12345) (b := 2147483647) (by decide); omega
    · have := Int.emod_lt_of_pos (y * 69621 + 12345) (b := 2147483647) (by decide); omega
    · exact k1 _ _ (Int.emod_nonneg _ (by omega)) (Int.emod_lt_of_pos _ h0) ⟨_, _, upd_same, hx, Int.emod_nonneg _ (by decide), Int.emod_lt_of_pos _ (by decide)⟩ Exc.upd
theorem ok__law_whole {f : Addr} {fd : FuncData} (F : Fun K "_law_whole" "_law_whole" s__law_whole f fd)  (T : Txt K mg) : FnOk P w K mg base (CXE P w) 1 f fd ["thing"] (sp__law_whole K mg) := by
  refine F.okX sc__law_whole (fun vs H Q E h => ?_) (fun cdv A outer s H vs Q E hr h => ?_)
  · obtain ⟨n, rfl, _⟩ := h; rfl
  obtain ⟨i, rfl, k1⟩ := h
  refine ⟨_, (pss_one (ps_ret (pe_and (pe_callB (call_isiK (K := K) rfl) rfl T.b_isinstance bt_isinstance (pa_cons (pv 0) (pa_cons (pe_bltn (v := .ty "int") rfl T.b_int bt_int rfl) pa_nil))) (pe_one (pe_not (pe_callB (call_isiK (K := K) rfl) rfl T.b_isinstance bt_isinstance (pa_cons (pv 0) (pa_cons (pe_bltn (v := .ty "bool") rfl T.b_bool bt_bool rfl) pa_nil)))))))), ?_⟩
  walk_at "rd"
  exact ⟨_, ty_ii, iteT ⟨_, ty_ib, k1⟩⟩

theorem ok__law_size {f : Addr} {fd : FuncData} (F : Fun K "_law_size" "_law_size" s__law_size f fd) (G__law_pick : Callee P w K mg base "_law_pick" 1 ["pool", "many"] (sp__law_pick K mg)) (T : Txt K mg) : FnOk P w K mg base (CXE P w) 2 f fd ["pool", "most"] (sp__law_size K mg) := by
  refine F.okX sc__law_size (fun vs H Q E h => ?_) (fun cdv A outer s H vs Q E hr h => ?_)
  · obtain ⟨p, most, rfl, _⟩ := h; rfl
  obtain ⟨p, most, rfl, h0, h1, hP, k1⟩ := h
  refine ⟨_, (pss_one (ps_ret (pe_callB (call_min2 rfl) rfl T.b_min bt_min (pa_cons (pv 1) (pa_cons (pe_ix ix_tup (pe_tup (pa_cons (pe_callF G__law_pick (hr.mono (by decide)) rfl passE (pa_cons (pv 0) (pa_cons pe_int pa_nil))) (pa_cons (pe_callF G__law_pick (hr.mono (by decide)) rfl passE (pa_cons (pv 0) (pa_cons pe_int pa_nil))) (pa_cons (pe_callF G__law_pick (hr.mono (by decide)) rfl passE (pa_cons (pv 0) (pa_cons (pe_op op_add (pv 1) pe_int) pa_nil))) (pa_cons (pv 1) pa_nil))))) (pe_callF G__law_pick (hr.mono (by decide)) rfl passE (pa_cons (pv 0) (pa_cons pe_int pa_nil))) (fun _ _ => rfl)) pa_nil))))), ?_⟩
  walk_at "rd"
  refine ⟨p, _, rfl, by decide, by decide, hP, fun d1 H1 a1 b1 P1 e1 => ⟨p, _, rfl, by decide, by decide, P1, fun d2 H2 a2 b2 P2 e2 => ⟨p, _, rfl, by omega, by omega, P2, fun d3 H3 a3 b3 P3 e3 => ⟨by decide, fun q hq => ⟨p, _, rfl, by decide, by decide, P3.upd hq, fun d4 H4 a4 b4 P4 e4 => ?_⟩⟩⟩⟩⟩
  have hq4 := e4 q _ (P3.ne hq) upd_same
  obtain ⟨v, hv, n, rfl, hn⟩ := atI_all (xs := [V.int d1, V.int d2, V.int d3, V.int most]) (i := d4) (fun v => ∃ n : Int, v = V.int n ∧ 0 ≤ n) a4 b4 (by
    intro x hx
    simp at hx
    rcases hx with rfl | rfl | rfl | rfl <;> exact ⟨_, rfl, by assumption⟩)
  refine ⟨_, d4, rfl, SqT.of hq4, _, hv, n, rfl, k1 _ _ ?_ ?_ P4 (((e1.trans e2).trans e3).same ((Same.refl H3).upd hq) |>.trans e4)⟩
  · split <;> omega
  · split <;> omega
theorem ok_settle {f : Addr} {fd : FuncData} (F : Fun K "settle" "settle" s_settle f fd)  (T : Txt K mg) : FnOk P w K mg base (CXE P w) 1 f fd ["elders", "spine", "place", "keep"] (sp_settle K mg) := by
  refine F.okX sc_settle (fun vs H Q E h => ?_) (fun cdv A outer s H vs Q E hr h => ?_)
  · obtain ⟨el, sp, es, A, B, i, rfl, _⟩ := h; rfl
  obtain ⟨el, sp, es, A', B, i, rfl, hel, hsp, hne, hi, hq, hlen, k1⟩ := h
  refine ⟨_, (pss_cons (ps_if (pt_cmpR op_lt (pv 3) (pe_callB (call_lenK (K := K) rfl) rfl T.b_len PySem.boot_len (pa_cons (pv 1) pa_nil)) (nomark _)) (pss_one (ps_asg (pv 2) (pg_sub (pv 0) (pe_ix ix_list (pv 1) (pv 3) (fun _ _ => rfl)) set_list (fun _ => rfl)))) pss_nil)
      (pss_cons (ps_if (pt_cmpR op_gt (pv 3) pe_int (nomark _)) (pss_one (ps_asg (pe_ix ix_list (pv 1) (pe_op op_sub (pv 3) pe_int) (fun _ _ => rfl)) (pg_sub (pv 0) (pv 2) set_list (fun _ => rfl)))) pss_nil)
      (pss_cons (ps_delTail (pv 1) (pv 3))
      (pss_one (ps_expr (pe_bm PySem.F.plainAttrs_list PySem.F.slot_list_append PySem.F.type_list_append mt_append (pv 1) (pa_cons (pv 2) pa_nil))))))), ?_⟩
  walk_at "rd"
  have hb1 : (natsV A').length < sizeLine := by
    rw [natsV_len]
    rw [List.length_append] at hlen
    exact Nat.lt_of_le_of_lt (show _ ≤ 1000 by omega) (by decide)
  have etk : List.take A'.length (natsV (A' ++ B)) = natsV A' := by
    rw [natsV_app]
    have : A'.length = (natsV A').length := (natsV_len A').symm
    rw [this, List.take_left]
  have hle : A'.length ≤ (natsV (A' ++ B)).length := by rw [natsV_len, List.length_append]; omega
  have esn : natsV A' ++ [V.int (i : Nat)] = natsV (A' ++ [i]) := by rw [natsV_app]; rfl
  refine ⟨_, .inl (SqL.of hsp), ?_⟩
  rw [natsV_len, List.length_append]
  -- the end: behind the two stores
  have fin : ∀ (es1 : List Int) (Hx : Hp), (∀ b o, b ≠ el → b ≠ sp → H b = some o → Hx b = some o) → Hx el = some (.lst (es1.map V.int)) → Hx sp = some (.lst (natsV (A' ++ B))) → es1 = setE es A' B i →
      ∃ (xs : List V) (k : Nat), (A'.length : Int) = (k : Int) ∧ Hx sp = some (HO.lst xs) ∧ k ≤ xs.length ∧ tyV K "list" (V.ref sp) (upd Hx sp (HO.lst (List.take k xs))) ∧ ∃ x, upd Hx sp (HO.lst (List.take k xs)) sp = some (HO.lst x) ∧ x.length < sizeLine ∧ Q V.non (upd (upd Hx sp (HO.lst (List.take k xs))) sp (HO.lst (x ++ [V.int (i : Nat)]))) := by
    intro es1 Hx h1 h2 h3 h4
    refine ⟨_, A'.length, rfl, h3, hle, tyV_list upd_same, _, upd_same, by rw [etk]; exact hb1, k1 _ (fun b o n1 n2 z => by rw [upd_ne n2, upd_ne n2]; exact h1 b o n1 n2 z) (by rw [upd_ne hne, upd_ne hne, h2, h4]) (by rw [upd_same, etk, esn])⟩
  -- elders[place] = spine[keep - 1]
  have mid : ∀ (es1 : List Int) (Hx : Hp), (∀ b o, b ≠ el → b ≠ sp → H b = some o → Hx b = some o) → Hx el = some (.lst (es1.map V.int)) → es1.length = es.length → Hx sp = some (.lst (natsV (A' ++ B))) → ∀ q, A'.getLast? = some q → es1.set i (q : Int) = setE es A' B i →
      ∃ x, SqL K Hx sp x ∧ ∃ x_1, atI x ((A'.length : Int) - 1) = some x_1 ∧ ∃ x, Hx el = some (HO.lst x) ∧ ∃ x_2, ixN x.length (i : Int) = some x_2 ∧ ∃ (xs : List V) (k : Nat), (A'.length : Int) = (k : Int) ∧ upd Hx el (HO.lst (x.set x_2 x_1)) sp = some (HO.lst xs) ∧ k ≤ xs.length ∧ tyV K "list" (V.ref sp) (upd (upd Hx el (HO.lst (x.set x_2 x_1))) sp (HO.lst (List.take k xs))) ∧
        ∃ x_3, upd (upd Hx el (HO.lst (x.set x_2 x_1))) sp (HO.lst (List.take k xs)) sp = some (HO.lst x_3) ∧ x_3.length < sizeLine ∧ Q V.non (upd (upd (upd Hx el (HO.lst (x.set x_2 x_1))) sp (HO.lst (List.take k xs))) sp (HO.lst (x_3 ++ [V.int (i : Nat)]))) := by
    intro es1 Hx h1 h2 hl1 h3 q hq h4
    have hpos : 0 < A'.length := by
      cases A' with
      | nil => cases hq
      | cons _ _ => simp
    have hat : (A' ++ B)[A'.length - 1]? = some q := by
      rw [List.getElem?_append_left (by omega)]
      rw [List.getLast?_eq_getElem?] at hq; exact hq
    have ei : ((A'.length : Int) - 1) = ((A'.length - 1 : Nat) : Int) := by omega
    refine ⟨_, SqL.of h3, _, by rw [ei]; exact natsV_at hat, _, h2, i, by rw [List.length_map, hl1]; exact ixN_nat hi, ?_⟩
    have em : (es1.map V.int).set i (V.int (q : Nat)) = (es1.set i (q : Int)).map V.int := by rw [List.map_set]
    rw [em]
    exact fin _ _ (fun b o n1 n2 z => by rw [upd_ne n1]; exact h1 b o n1 n2 z) upd_same (by rw [upd_ne hne.symm]; exact h3) h4
  cases B with
  | nil =>
    rw [if_neg (by simp)]
    cases hq : A'.getLast? with
    | none =>
      have : A' = [] := List.getLast?_eq_none_iff.mp hq
      rw [if_neg (by rw [this]; simp)]
      exact fin es H (fun b o _ _ z => z) hel hsp (by unfold setE; rw [hq]; rfl)
    | some q =>
      have : A' ≠ [] := fun z => by rw [z] at hq; cases hq
      rw [if_pos (by have := List.length_pos_iff.mpr this; omega)]
      exact mid es H (fun b o _ _ z => z) hel rfl hsp q hq (by unfold setE; rw [hq]; rfl)
  | cons b Br =>
    rw [if_pos (by simp; omega)]
    have hat : (A' ++ b :: Br)[A'.length]? = some b := by rw [List.getElem?_append_right (Nat.le_refl _)]; simp
    have hbn : b < es.length := hq b (by simp)
    refine ⟨_, SqL.of hsp, _, natsV_at hat, _, _, rfl, hel, b, by rw [List.length_map]; exact ixN_nat hbn, ?_⟩
    have em : (es.map V.int).set b (V.int (i : Nat)) = (es.set b (i : Int)).map V.int := by rw [List.map_set]
    rw [em]
    cases hq2 : A'.getLast? with
    | none =>
      have : A' = [] := List.getLast?_eq_none_iff.mp hq2
      rw [if_neg (by rw [this]; simp)]
      exact fin (es.set b i) _ (fun c o n1 n2 z => by rw [upd_ne n1]; exact z) upd_same (by rw [upd_ne hne.symm]; exact hsp) (by unfold setE; rw [hq2]; rfl)
    | some q =>
      have : A' ≠ [] := fun z => by rw [z] at hq2; cases hq2
      rw [if_pos (by have := List.length_pos_iff.mpr this; omega)]
      exact mid (es.set b i) _ (fun c o n1 n2 z => by rw [upd_ne n1]; exact z) upd_same (by simp) (by rw [upd_ne hne.symm]; exact hsp) q hq2 (by unfold setE; rw [hq2]; rfl)
theorem ok_tree_of {f : Addr} {fd : FuncData} (F : Fun K "tree_of" "tree_of" s_tree_of f fd) (G_settle : Callee P w K mg base "settle" 1 ["elders", "spine", "place", "keep"] (sp_settle K mg)) (T : Txt K mg) : FnOk P w K mg base (CXE P w) 2 f fd ["row"] (sp_tree_of K mg) := by
  refine F.okX sc_tree_of (fun vs H Q E h => ?_) (fun cdv A outer s H vs Q E hr h => ?_)
  · obtain ⟨r, ns, rfl, _⟩ := h; rfl
  obtain ⟨r, ns, rfl, hS, hn, k1⟩ := h
  refine ⟨_, (pss_cons (ps_set (i := 1) sc_tree_of.nd rfl (Or.inl rfl) (pe_op op_rep (pe_lst (pa_cons (pe_un un_neg pe_int) pa_nil)) (pe_callB (call_lenK (K := K) rfl) rfl T.b_len PySem.boot_len (pa_cons (pv 0) pa_nil))))
      (pss_cons (ps_set (i := 2) sc_tree_of.nd rfl (Or.inl rfl) (pe_lst pa_nil))
      (pss_cons (ps_nox (ps_for PassesOwn.never rfl (pi_range1 rfl T.b_range (pa_cons (pe_callB (call_lenK (K := K) rfl) rfl T.b_len PySem.boot_len (pa_cons (pv 0) pa_nil)) pa_nil)) (pg_name (i := 3) sc_tree_of.nd rfl (Or.inl rfl)) (pss_cons (ps_set (i := 4) sc_tree_of.nd rfl (Or.inl rfl) (pe_callB (call_lenK (K := K) rfl) rfl T.b_len PySem.boot_len (pa_cons (pv 2) pa_nil)))
      (pss_cons (ps_nox (ps_while PassesOwn.never (PW.pt (pw_and (pt_cmpR op_gt (pv 4) pe_int (nomark _)) (pw_and1 (pt_cmpR op_gt (pe_ix (ix_q (K := K) rfl) (pv 0) (pe_ix ix_list (pv 2) (pe_op op_sub (pv 4) pe_int) (fun _ _ => rfl)) (fun _ _ => rfl)) (pe_ix (ix_q (K := K) rfl) (pv 0) (pv 3) (fun _ _ => rfl)) (nomark _))))) (pss_one (ps_aug (i := 4) sc_tree_of.nd rfl (Or.inl rfl) pe_int ip_sub))))
      (pss_one (ps_expr (pe_callF G_settle (hr.mono (by decide)) rfl passE (pa_cons (pv 1) (pa_cons (pv 2) (pa_cons (pv 3) (pa_cons (pv 4) pa_nil)))))))))))
      (pss_one (ps_ret (pe_callTy (call_tupK (K := K) rfl) rfl T.b_tuple bt_tuple (pa_cons (pv 1) pa_nil))))))), ?_⟩
  walk_at "rd"
  have eL : (ns.map V.int).length = ns.length := List.length_map ..
  refine ⟨by decide, fun p hp => ⟨_, ((Same.refl H).upd hp).q hS, _, upd_same, by omega, by rw [eL]; omega, ?_, fun el hel => ⟨Nat.zero_le _, fun sp hsp => ?_⟩⟩⟩
  · exact Nat.le_trans (show _ ≤ 1000 by simp; omega) (by decide)
  have s0 : Same H (upd (upd (upd H p (.lst [V.int (-1)])) el (.lst (List.replicate (((ns.map V.int).length : Nat) : Int).toNat [V.int (-1)]).flatten)) sp (.lst [])) := (((Same.refl H).upd hp).upd' hel).upd' hsp
  refine ⟨_, s0.q hS, by omega, by rw [eL]; omega, ?_⟩
  have en : (((ns.map V.int).length : Nat) : Int).toNat = ns.length := by rw [eL]; omega
  have hel0 : (upd (upd (upd H p (.lst [V.int (-1)])) el (.lst (List.replicate (((ns.map V.int).length : Nat) : Int).toNat [V.int (-1)]).flatten)) sp (.lst [])) el = some (.lst ((List.replicate ns.length (-1 : Int)).map V.int)) := by
    have := ((Same.refl _).upd' (o := .lst []) hsp) el _ upd_same
    rw [this, en]; simp
  have hsp0 : (upd (upd (upd H p (.lst [V.int (-1)])) el (.lst (List.replicate (((ns.map V.int).length : Nat) : Int).toNat [V.int (-1)]).flatten)) sp (.lst [])) sp = some (.lst (natsV [])) := upd_same
  have nes : el ≠ sp := fun z => by
    subst z
    rw [upd_same] at hsp; cases hsp
  have zel : H el = none := ((Same.refl H).upd hp).free hel
  have zsp : H sp = none := (((Same.refl H).upd hp).upd' hel).free hsp
  rw [en] at hel0 hsp0 s0 ⊢
  generalize (upd (upd (upd H p (.lst [V.int (-1)])) el (.lst (List.replicate ns.length [V.int (-1)]).flatten)) sp (.lst [])) = H0 at s0 hel0 hsp0 ⊢
  refine for_range (fun i σ Hx => ∃ (es : List Int) (S : List Nat) (v3 v4 : Option V), σ = [some (.ref r), some (.ref el), some (.ref sp), v3, v4] ∧ Same H Hx ∧ Hx el = some (.lst (es.map V.int)) ∧ Hx sp = some (.lst (natsV S)) ∧ es.length = ns.length ∧ Spine (nth ns) i S ∧ (∀ p e, p < i → e = es.getD p 0 → ElderIs (nth ns) i p e) ∧ ∀ p, i ≤ p → p < ns.length → es.getD p 0 = -1)
    ⟨List.replicate ns.length (-1), [], none, none, rfl, s0, hel0, hsp0, by simp, ⟨List.Pairwise.nil, fun q => by simp⟩, fun p e hp => by omega, fun p _ hp => by simp [List.getD_eq_getElem?_getD, hp]⟩ ?_ ?_
  · rintro i σ Hx hi ⟨es, S, v3, v4, rfl, sx, hxe, hxs, hesl, hS2, hE, hE2⟩
    walk_at "rd"
    have hin : i < ns.length := by omega
    have hSl : S.length ≤ 1000 := by
      rcases pw_len S i 0 hS2.1 (fun q hq => ⟨Nat.zero_le _, ((hS2.2 q).mp hq).1⟩) with z | z
      · omega
      · rw [z]; simp
    refine ⟨_, .inl (SqL.of hxs), ?_⟩
    rw [natsV_len]
    refine while_i S.length (fun j σ Hy => ∃ A B, S = A ++ B ∧ B.length = j ∧ (∀ q ∈ B, nth ns i < nth ns q) ∧ σ = [some (.ref r), some (.ref el), some (.ref sp), some (.int (0 + (i : Int))), some (.int (A.length : Nat))] ∧ Hy = Hx) ⟨S, [], by simp, rfl, (fun q hq => absurd hq (by simp)), rfl, rfl⟩ ?_
    rintro j σ Hy hj ⟨A, B, hAB, hBl, hBg, rfl, rfl⟩
    walk_at "rd"
    have hmem : ∀ q, q ∈ A ++ B → q < i := fun q hq => ((hS2.2 q).mp (by rw [hAB]; exact hq)).1
    have hix : (0 + (i : Int)) = (i : Int) := by omega
    rw [hix]
    by_cases hA0 : A = []
    case' pos =>
      rw [if_neg (by rw [hA0]; simp)]
      have hA : ∀ q ∈ A, nth ns q ≤ nth ns i := fun q hq => absurd hq (by rw [hA0]; simp)
    case' neg =>
      obtain ⟨q, Al, rfl⟩ : ∃ q Al, A = Al ++ [q] := ⟨A.getLast hA0, A.dropLast, (List.dropLast_concat_getLast hA0).symm⟩
      have hal : (Al ++ [q]).length = Al.length + 1 := by simp
      rw [if_pos (by rw [hal]; omega)]
      have eiA : (((Al ++ [q]).length : Nat) : Int) - 1 = (Al.length : Int) := by rw [hal]; omega
      have hat : S[Al.length]? = some q := by
        rw [hAB, List.append_assoc, List.getElem?_append_right (Nat.le_refl _)]; simp
      have hqi : q < i := hmem q (by simp)
      refine ⟨_, SqL.of hxs, _, by rw [eiA]; exact natsV_at hat, _, _, rfl, sx.q hS, _, nth_at (by omega), _, sx.q hS, _, nth_at hin, _, rfl, _, rfl, ite2 (fun hlt => ?_) (fun hge => ?_)⟩
      · have hj2 : j + 1 ≤ S.length := by rw [hAB, List.length_append, hal]; omega
        refine ⟨_, WI.next, hj2, Al, q :: B, by rw [hAB]; simp, by simp [hBl], fun x hx => ?_, by rw [eiA], rfl⟩
        rcases List.mem_cons.mp hx with z | z
        · rw [z]; exact hlt
        · exact hBg x z
      have hA : ∀ x ∈ Al ++ [q], nth ns x ≤ nth ns i := fun x hx => by
        by_cases z : x = q
        · rw [z]; omega
        · have hxa : x ∈ Al := by
            rcases List.mem_append.mp hx with y | y
            · exact y
            · exact absurd (by simpa using y) z
          have hpw := hS2.1
          rw [hAB] at hpw
          have hxq : x < q := (List.pairwise_append.mp (List.pairwise_append.mp hpw).1).2.2 x hxa q (by simp)
          have := ((hS2.2 x).mp (by rw [hAB]; exact List.mem_append_left _ hx)).2 q hxq hqi
          omega
      generalize Al ++ [q] = A at hA hAB hmem hA0 ⊢
    all_goals
      have SS := spine_step (f := nth ns) (i := i) (A := A) (B := B) (by rw [← hAB]; exact hS2) hA hBg
      refine ⟨el, sp, es, A, B, i, rfl, hxe, by rw [← hAB]; exact hxs, nes, by omega, fun q hq => by have := hmem q hq; omega, by rw [← hAB]; exact hSl, fun H' q1 q2 q3 => ?_⟩
      have hbi : ∀ b, B.head? = some b → b ≠ i := fun b hb => by
        have := hmem b (List.mem_append_right _ (List.mem_of_head? hb)); omega
      refine ⟨fun b o z => q1 b o (ne_of_none z zel) (ne_of_none z zsp) (sx b o z), setE es A B i, q2, A ++ [i], q3, by rw [setE_len]; exact hesl, SS.1, fun p e hp he => ?_, fun p hp1 hp2 => ?_⟩
      · rw [setE_at _ _ _ _ _ (by omega) hbi] at he
        by_cases z : p = i
        · subst z
          rw [if_pos rfl, hE2 p (Nat.le_refl _) (by omega)] at he
          rw [he]; exact SS.2.1
        · rw [if_neg z] at he
          rw [he]
          exact SS.2.2 p _ (by omega) (hE p _ (by omega) rfl)
      · rw [setE_at _ _ _ _ _ (by omega) hbi, if_neg (by omega), if_neg (fun z => ?_)]
        · exact hE2 p (by omega) hp2
        · have := hmem p (List.mem_append_right _ (List.mem_of_head? z)); omega
  · rintro σ Hx ⟨es, S, v3, v4, rfl, sx, hxe, hxs, hesl, hS2, hE, hE2⟩
    walk_at "rd"
    exact ⟨_, .inl ⟨SqL.of hxe, fun t ht => k1 t es _ ⟨hesl, fun p hp => hE p _ hp rfl⟩ (sx.upd' ht) upd_same⟩⟩

theorem ok_way_up {f : Addr} {fd : FuncData} (F : Fun K "way_up" "way_up" s_way_up f fd)  (T : Txt K mg) : FnOk P w K mg base (CXE P w) 1 f fd ["tree", "place"] (sp_way_up K mg) := by
  refine F.okX sc_way_up (fun vs H Q E h => ?_) (fun cdv A outer s H vs Q E hr h => ?_)
  · obtain ⟨t, T, p, rfl, _⟩ := h; rfl
  obtain ⟨t, T', p, rfl, ht, hn, hp, k1⟩ := h
  have hQ : ∀ Hx, Same H Hx → (SqL K Hx t (T'.map V.int) ∨ SqT K Hx t (T'.map V.int)) := fun Hx sx => ht.elim (fun z => .inl (sx.seq z)) fun z => .inr (sx.seqT z)
  refine ⟨_, (pss_cons (ps_set (i := 2) sc_way_up.nd rfl (Or.inl rfl) (pe_lst pa_nil))
      (pss_cons (ps_set (i := 3) sc_way_up.nd rfl (Or.inl rfl) (pe_ix (ix_q (K := K) rfl) (pv 0) (pv 1) (fun _ _ => rfl)))
      (pss_cons (ps_nox (ps_while PassesOwn.never (PW.pt (pw_and (pt_chain op_le op_lt pe_int (pv 3) (pe_callB (call_lenK (K := K) rfl) rfl T.b_len PySem.boot_len (pa_cons (pv 0) pa_nil))) (pw_and1 (pt_cmpR op_lt (pe_callB (call_lenK (K := K) rfl) rfl T.b_len PySem.boot_len (pa_cons (pv 2) pa_nil)) (pe_callB (call_lenK (K := K) rfl) rfl T.b_len PySem.boot_len (pa_cons (pv 0) pa_nil)) (nomark _))))) (pss_cons (ps_expr (pe_bm PySem.F.plainAttrs_list PySem.F.slot_list_append PySem.F.type_list_append mt_append (pv 2) (pa_cons (pv 3) pa_nil)))
      (pss_one (ps_set (i := 3) sc_way_up.nd rfl (Or.inl rfl) (pe_ix (ix_q (K := K) rfl) (pv 0) (pv 3) (fun _ _ => rfl)))))))
      (pss_one (ps_ret (pv 2)))))), ?_⟩
  walk_at "rd"
  refine ⟨Nat.zero_le _, fun l hl => ⟨_, hQ _ ((Same.refl H).upd hl), _, nth_at hp, ?_⟩⟩
  refine while_i T'.length (fun j σ Hx => Same H Hx ∧ Hx l = some (.lst (natsV (wayF T' j (nth T' p)))) ∧ (wayF T' j (nth T' p)).length = j ∧ σ = [some (.ref t), some (.int p), some (.ref l), some (.int (wayAt T' j (nth T' p)))]) ⟨(Same.refl H).upd hl, upd_same, rfl, rfl⟩ ?_
  rintro j σ Hx hj ⟨sx, hxl, hjl, rfl⟩
  walk_at "rd"
  have hlen : (natsV (wayF T' j (nth T' p))).length = j := by rw [natsV_len]; exact hjl
  have eL : (T'.map V.int).length = T'.length := List.length_map ..
  have done : (j = T'.length ∨ ¬ (0 ≤ wayAt T' j (nth T' p) ∧ wayAt T' j (nth T' p) < T'.length)) → Q (.ref l) Hx := fun z => by
    refine k1 l Hx hl sx ?_
    have : wayF T' T'.length (nth T' p) = wayF T' j (nth T' p) := by
      rcases z with z | z
      · rw [← z]
      · exact wayF_stop T' j _ _ hj hjl z
    rw [hxl]; unfold wayI; rw [this]; simp [natsV]
  refine ite2 (fun h0 => ⟨_, hQ _ sx, ite2 (fun h1 => ⟨_, .inl (SqL.of hxl), _, hQ _ sx, ite2 (fun h2 => ?_) fun h2 => done (.inl (by rw [hlen, eL] at h2; omega))⟩) fun h1 => done (.inr (by rw [eL] at h1; omega))⟩) fun h0 => done (.inr (by omega))
  rw [eL] at h1; rw [hlen, eL] at h2
  obtain ⟨a1, a2⟩ := wayF_snoc T' j (nth T' p) h0 h1 hjl
  have ei : wayAt T' j (nth T' p) = (((wayAt T' j (nth T' p)).toNat : Nat) : Int) := by omega
  refine ⟨_, WI.next, tyV_list hxl, _, hxl, by rw [hlen]; exact Nat.lt_of_le_of_lt (show _ ≤ 1000 by omega) (by decide), _, hQ _ (sx.upd hl), _, (congrArg (atI _) ei).trans (nth_at (by omega)), by omega, sx.upd hl, ?_, ?_, ?_⟩
  · rw [upd_same, a1, natsV_app]
    have : natsV [(wayAt T' j (nth T' p)).toNat] = [V.int (wayAt T' j (nth T' p))] := by rw [ei]; simp [natsV]
    rw [this]
  · rw [a1]; simp [hjl]
  · rw [a2]

theorem ok_is_tree {f : Addr} {fd : FuncData} (F : Fun K "is_tree" "is_tree" s_is_tree f fd) (G_tree_of : Callee P w K mg base "tree_of" 2 ["row"] (sp_tree_of K mg)) (G_way_up : Callee P w K mg base "way_up" 1 ["tree", "place"] (sp_way_up K mg)) (T : Txt K mg) : FnOk P w K mg base (CXE P w) 3 f fd ["tree"] (sp_is_tree K mg) := by
  refine F.okX sc_is_tree (fun vs H Q E h => ?_) (fun cdv A outer s H vs Q E hr h => ?_)
  · obtain ⟨t, T, rfl, _⟩ := h; rfl
  obtain ⟨t, T', rfl, ht, hn, k1, k2⟩ := h
  refine ⟨_, (pss_cons (ps_if (PW.pt (pw_or (pt_not (pt_val (pe_callB (call_isiK (K := K) rfl) rfl T.b_isinstance bt_isinstance (pa_cons (pv 0) (pa_cons (pe_bltn (v := .ty "tuple") rfl T.b_tuple bt_tuple rfl) pa_nil))))) (pw_or1 (pt_cmpR op_gt (pe_callB (call_lenK (K := K) rfl) rfl T.b_len PySem.boot_len (pa_cons (pv 0) pa_nil)) (pe_glob (v := .int 40) rfl T.m_MOST_PLACES ⟨_, rfl⟩) (nomark _))))) (pss_one (ps_ret pe_bl)) pss_nil)
      (pss_cons (ps_setC (i := 1) ["place", "tree"] [none, some 0] sc_is_tree.nd rfl (Or.inl rfl) rfl rfl rfl (pi_range1 rfl T.b_range (pa_cons (pe_callB (call_lenK (K := K) rfl) rfl T.b_len PySem.boot_len (pa_cons (pv 0) pa_nil)) pa_nil)) (fun _ _ _ _ _ => (pg_name (i := 0) (show (["place", "tree"] : List Str).Nodup from by decide +kernel) rfl (Or.inl rfl))) (fun _ _ _ _ _ => pifs_nil) (fun _ _ _ _ _ => (pe_callB (call_lenK (K := K) rfl) rfl T.b_len PySem.boot_len (pa_cons (pe_callF G_way_up (hr.mono (by decide)) rfl passE (pa_cons (pv 1) (pa_cons (pv 0) pa_nil))) pa_nil))) only_name)
      (pss_one (ps_ret (pe_cmpR (op_eqD (K := K) rfl hr) (pe_callF G_tree_of (hr.mono (by decide)) rfl passE (pa_cons (pv 1) pa_nil)) (pv 0) (nomark _)))))), ?_⟩
  walk_at "rd"
  have eL : (T'.map V.int).length = T'.length := List.length_map ..
  refine ⟨true, .inl ⟨_, .tup ht, by with_unfolding_all rfl⟩, ite2 (fun z => nomatch z) fun _ => ⟨_, .inr (SqT.of ht), ite2 (fun z => k2 (fun g => ?_) _ (Same.refl H)) fun z => ⟨_, .inr (SqT.of ht), by omega, by rw [eL]; omega, ?_⟩⟩⟩
  · rw [eL] at z; have := g.1; omega
  rw [eL] at z ⊢
  have en : ((T'.length : Nat) : Int).toNat = T'.length := by omega
  rw [en]
  refine comp_map (n := T'.length) (fun q => V.int (nth (deps T') q)) (Nat.lt_of_le_of_lt hn (by decide)) (fun j Hx s hj => hj) (fun Hx s => Nat.le_refl _) ?_ ?_
  · rintro j x Hx Hy hj s ⟨rfl, rfl⟩
    walk_at "rd"
    refine ⟨t, T', j, by simp, .inr (SqT.of (s _ _ ht)), hn, hj, fun l H9 hl s9 h9 => ⟨l, rfl, _, .inl (SqL.of h9), CW.next hj ?_ (s.trans s9)⟩⟩
    rw [deps_nth hj, List.length_map]; simp [wayI]
  · intro l' Hx s hl'
    have ed : (List.range T'.length).map (fun q => V.int (nth (deps T') q)) = (deps T').map V.int := by
      rw [← deps_len T']; exact range_getD _ _ V.int _ rfl
    rw [ed]
    have u := s.upd' (o := .lst ((deps T').map V.int)) hl'
    refine ⟨l', deps T', rfl, .inl (SqL.of upd_same), by rw [deps_len]; exact hn, fun t2 es H2 hT2 s2 ht2 => ⟨t2, rfl, _, eqp_tup (n := 2) eqp_int _ _ es T' (isT_ints (SqT.of ht2)) (isT_ints (SqT.of ((u.trans s2) _ _ ht))), ?_⟩⟩
    by_cases g : es = T'
    · rw [decide_eq_true g]; exact k1 ⟨by omega, _, g ▸ hT2⟩ _ (u.trans s2)
    · rw [decide_eq_false g]; exact k2 (fun gg => g (hT2.unique ((tree_deps T').mp gg.2))) _ (u.trans s2)

theorem ok_need_tree {f : Addr} {fd : FuncData} (F : Fun K "need_tree" "need_tree" s_need_tree f fd) (G_is_tree : Callee P w K mg base "is_tree" 3 ["tree"] (sp_is_tree K mg)) (T : Txt K mg) : FnOk P w K mg base (CXE P w) 4 f fd ["tree"] (sp_need_tree K mg) := by
  refine F.okX sc_need_tree (fun vs H Q E h => ?_) (fun cdv A outer s H vs Q E hr h => ?_)
  · obtain ⟨t, T, rfl, _⟩ := h; rfl
  obtain ⟨t, T', rfl, ht, hn, k1, k2⟩ := h
  refine ⟨_, (pss_one (ps_if (pt_not (pt_val (pe_callF G_is_tree (hr.mono (by decide)) rfl passE (pa_cons (pv 0) pa_nil)))) (pss_one (ps_raise rfl rfl T.c_NoTree T.x_NoTree (pa_cons (pe_joined (pj_text (by decide) (pj_int (pe_callB (call_lenK (K := K) rfl) rfl T.b_len PySem.boot_len (pa_cons (pv 0) pa_nil)) (pj_text (by decide) pj_nil)))) pa_nil) raisesE)) pss_nil)), ?_⟩
  walk_at "rd"
  exact ⟨t, T', rfl, ht, hn, fun g H1 s1 => ⟨true, rfl, ite2 (fun z => nomatch z) fun _ => k1 g _ s1⟩, fun g H1 s1 => ⟨false, rfl, ite2 (fun _ => ⟨_, .inr (SqT.of (s1 _ _ ht)), by omega, by rw [List.length_map]; omega, fun y => ⟨by decide, k2 g _ s1⟩⟩) fun z => absurd rfl z⟩⟩

theorem comp_above {a : Addr} {L : List Int} {p : Nat} {H1 : Hp} {Q : VK} (ha : H1 a = some (.lst (L.map V.int))) (hn : L.length ≤ 1000)
    (hk : ∀ l H' (xs : List V), Same H1 H' → xs.length = (L.filter fun o => decide ((p : Int) < o)).length → H' l = none → Q (.ref l) (upd H' l (.lst xs))) :
    CompR (Itl K a) (gName 0) (tTest (tOp (rI0 fun i j => V.bl (decide (j < i))) (tVar 0) (tVar 1))) (tVar 0) [none, some (V.int (p : Int))] Q H1 := by
  refine comp_filt (n := L.length) (fun i => decide ((p : Int) < L.getD i 0)) (fun i => V.int (L.getD i 0)) (Nat.lt_of_le_of_lt hn (by decide)) (fun i Hx s hi => ⟨_, _, SqL.of (s _ _ ha), List.getElem?_eq_getElem (by simpa using hi)⟩) (fun Hx s => ⟨_, SqL.of (s _ _ ha), by simp⟩) ?_ ?_
  · rintro i x Hx Hy hi s ⟨rfl, hx⟩
    have ex := hx _ (SqL.of (s _ _ ha))
    rw [List.getElem?_map, List.getElem?_eq_getElem hi] at ex
    cases ex
    have eg : L.getD i 0 = L[i] := by simp [List.getD_eq_getElem?_getD, hi]
    walk_at "rd"
    exact ite2 (fun z => CF.take hi (by rw [eg]; exact decide_eq_true z) (by rw [eg]) s) (fun z => CF.skip hi (by rw [eg]; exact decide_eq_false z) s)
  · intro l H' s hl
    refine hk l H' _ s ?_ hl
    rw [List.length_map]
    have : L = (List.range L.length).map fun i => L.getD i 0 := by
      refine List.ext_getElem (by simp) fun j h1 h2 => ?_
      simp [List.getD_eq_getElem?_getD, h1]
    conv => rhs; rw [this, List.filter_map, List.length_map]
    rfl
theorem ok_flat_number {f : Addr} {fd : FuncData} (F : Fun K "flat_number" "flat_number" s_flat_number f fd) (G_way_up : Callee P w K mg base "way_up" 1 ["tree", "place"] (sp_way_up K mg)) (T : Txt K mg) : FnOk P w K mg base (CXE P w) 2 f fd ["tree", "place"] (sp_flat_number K mg) := by
  refine F.okX sc_flat_number (fun vs H Q E h => ?_) (fun cdv A outer s H vs Q E hr h => ?_)
  · obtain ⟨t, T, p, rfl, _⟩ := h; rfl
  obtain ⟨t, T', p, rfl, ht, hn, hp, k1⟩ := h
  refine ⟨_, (pss_one (ps_ret (pe_callB (call_lenK (K := K) rfl) rfl T.b_len PySem.boot_len (pa_cons (pe_comp ["elder", "place"] [none, some 1] rfl rfl rfl (pi_list (pe_callF G_way_up (hr.mono (by decide)) rfl passE (pa_cons (pv 0) (pa_cons (pv 1) pa_nil)))) (fun _ _ _ _ _ => (pg_name (i := 0) (show (["elder", "place"] : List Str).Nodup from by decide +kernel) rfl (Or.inl rfl))) (fun _ _ _ _ _ => pifs_one (pt_cmpR op_gt (pv 0) (pv 1) (nomark _))) (fun _ _ _ _ _ => (pv 0)) only_name) pa_nil)))), ?_⟩
  walk_at "rd"
  refine ⟨t, T', p, rfl, .inr (SqT.of ht), hn, hp, fun w H1 hw s1 h1 => ⟨w, rfl, ⟨_, SqL.of h1⟩, comp_above h1 (by simp only [wayI, List.length_map]; exact Nat.le_trans (wayF_len _ _ _) hn) fun l H2 xs s2 hx hl => ⟨l, rfl, xs, .inl (SqL.of upd_same), ?_⟩⟩⟩
  have e : (xs.length : Nat) = flatN T' p := by
    rw [hx, wayI_way, List.filter_map, List.length_map]
    unfold flatN
    refine filter_len_congr fun o ho => ?_
    rw [Bool.eq_iff_iff]
    simp
  rw [e]
  exact k1 _ ((s1.trans s2).upd' hl)
theorem ok_flattest {f : Addr} {fd : FuncData} (F : Fun K "flattest" "flattest" s_flattest f fd) (G_need_tree : Callee P w K mg base "need_tree" 4 ["tree"] (sp_need_tree K mg)) (G_flat_number : Callee P w K mg base "flat_number" 2 ["tree", "place"] (sp_flat_number K mg)) (T : Txt K mg) : FnOk P w K mg base (CXE P w) 5 f fd ["tree"] (sp_flattest K mg) := by
  refine F.okX sc_flattest (fun vs H Q E h => ?_) (fun cdv A outer s H vs Q E hr h => ?_)
  · obtain ⟨t, T, rfl, _⟩ := h; rfl
  obtain ⟨t, T', rfl, ht, hn, k1, k2⟩ := h
  refine ⟨_, (pss_cons (ps_expr (pe_callF G_need_tree (hr.mono (by decide)) rfl pass_on (pa_cons (pv 0) pa_nil)))
      (pss_one (ps_ret (pe_callTy (call_tupK (K := K) rfl) rfl T.b_tuple bt_tuple (pa_cons (pe_comp ["place", "tree"] [none, some 0] rfl rfl rfl (pi_range1 rfl T.b_range (pa_cons (pe_callB (call_lenK (K := K) rfl) rfl T.b_len PySem.boot_len (pa_cons (pv 0) pa_nil)) pa_nil)) (fun _ _ _ _ _ => (pg_name (i := 0) (show (["place", "tree"] : List Str).Nodup from by decide +kernel) rfl (Or.inl rfl))) (fun _ _ _ _ _ => pifs_nil) (fun _ _ _ _ _ => (pe_callF G_flat_number (hr.mono (by decide)) rfl passE (pa_cons (pv 1) (pa_cons (pv 0) pa_nil)))) only_name) pa_nil))))), ?_⟩
  walk_at "rd"
  have eL : (T'.map V.int).length = T'.length := List.length_map ..
  refine ⟨t, T', rfl, ht, hn, fun g H1 s1 => ⟨_, .inr (SqT.of (s1 _ _ ht)), by omega, by rw [eL]; omega, ?_⟩, fun g H1 s1 => k2 g _ s1⟩
  have en : (((T'.map V.int).length : Nat) : Int).toNat = T'.length := by rw [eL]; omega
  rw [en]
  refine comp_map (n := T'.length) (fun q => V.int (flatN T' q : Nat)) (Nat.lt_of_le_of_lt hn (by decide)) (fun j Hx s hj => hj) (fun Hx s => Nat.le_refl _) ?_ ?_
  · rintro j x Hx Hy hj s ⟨rfl, rfl⟩
    walk_at "rd"
    exact ⟨t, T', j, by simp, (s1.trans s) _ _ ht, hn, hj, fun H9 s9 => CW.next hj rfl (s.trans s9)⟩
  · intro l' Hx s hl'
    have ed : (List.range T'.length).map (fun q => V.int (flatN T' q : Nat)) = (flatI T').map V.int := by simp [flatI]
    rw [ed]
    exact ⟨l', rfl, _, .inl ⟨SqL.of upd_same, fun t' ht' => k1 g t' _ (((s1.trans s).upd' hl').upd' ht') upd_same⟩⟩

theorem ok__law_over {f : Addr} {fd : FuncData} (F : Fun K "_law_over" "_law_over" s__law_over f fd)  (T : Txt K mg) : FnOk P w K mg base (CXE P w) 1 f fd ["tree", "place"] (sp__law_over K mg) := by
  refine F.okX sc__law_over (fun vs H Q E h => ?_) (fun cdv A outer s H vs Q E hr h => ?_)
  · obtain ⟨t, T, p, rfl, _⟩ := h; rfl
  obtain ⟨t, T', p, rfl, ht, hn, hp, k1, k2⟩ := h
  refine ⟨_, (pss_cons (ps_set (i := 2) sc__law_over.nd rfl (Or.inl rfl) (pe_lst pa_nil))
      (pss_cons (ps_set (i := 3) sc__law_over.nd rfl (Or.inl rfl) (pe_ix ix_tup (pv 0) (pv 1) (fun _ _ => rfl)))
      (pss_cons (ps_nox (ps_while PassesOwn.never (pt_cmpR op_ne (pv 3) (pe_un un_neg pe_int) (nomark _)) (pss_cons (ps_if (PW.pt (pw_or (pt_cmpR op_lt (pv 3) pe_int (nomark _)) (pw_or (pt_cmpR op_ge (pv 3) (pe_callB (call_lenK (K := K) rfl) rfl T.b_len PySem.boot_len (pa_cons (pv 0) pa_nil)) (nomark _)) (pw_or1 (pt_cmpR op_gt (pe_callB (call_lenK (K := K) rfl) rfl T.b_len PySem.boot_len (pa_cons (pv 2) pa_nil)) (pe_callB (call_lenK (K := K) rfl) rfl T.b_len PySem.boot_len (pa_cons (pv 0) pa_nil)) (nomark _)))))) (pss_one (ps_ret pe_non)) pss_nil)
      (pss_cons (ps_expr (pe_bm PySem.F.plainAttrs_list PySem.F.slot_list_append PySem.F.type_list_append mt_append (pv 2) (pa_cons (pv 3) pa_nil)))
      (pss_one (ps_set (i := 3) sc__law_over.nd rfl (Or.inl rfl) (pe_ix ix_tup (pv 0) (pv 3) (fun _ _ => rfl))))))))
      (pss_one (ps_ret (pv 2)))))), ?_⟩
  walk_at "rd"
  refine ⟨Nat.zero_le _, fun l hl => ⟨_, SqT.of (((Same.refl H).upd hl) _ _ ht), _, nth_at hp, ?_⟩⟩
  refine while_m (fun m σ Hx => ∃ (h : Int) (L : List Nat), 0 < m ∧ m + L.length = T'.length + 2 ∧ ((∃ ns, TreeIs ns T') → ∃ q, q < T'.length ∧ h = nth T' q ∧ L ++ way T' q = way T' p) ∧ Same H Hx ∧ Hx l = some (.lst (natsV L)) ∧ σ = [some (.ref t), some (.int p), some (.ref l), some (.int h)]) (T'.length + 2) ⟨nth T' p, [], by omega, by simp, fun _ => ⟨p, hp, rfl, rfl⟩, (Same.refl H).upd hl, upd_same, rfl⟩ ?_
  rintro m σ Hx ⟨h, L, hm0, hm, hq, sx, hxl, rfl⟩
  walk_at "rd"
  have eL : (T'.map V.int).length = T'.length := List.length_map ..
  have nlt : t ≠ l := ne_of_none ht hl
  have bad : (h < 0 ∨ (T'.length : Int) ≤ h ∨ T'.length < L.length) → ¬ h = -1 → Q .non Hx := fun z z1 => by
    refine (k2 fun g => ?_).1 Hx sx
    obtain ⟨q, q1, q2, q3⟩ := hq g
    obtain ⟨ns, hT⟩ := g
    have e := hT.1
    have hw : (way T' p).length ≤ T'.length := wayF_len _ _ _
    rw [← q3, List.length_append] at hw
    rcases elder_cases hT (by omega : q < ns.length) with y | ⟨r, y, hr2, _⟩ <;> omega
  refine ite2 (fun z1 => ⟨_, fun σ' H' z => z, ite2 (fun z => bad (.inl z) z1) fun z2 => ⟨_, .inr (SqT.of (sx _ _ ht)), ite2 (fun z => bad (.inr (.inl (by rw [eL] at z; exact z))) z1) fun z3 => ⟨_, .inl (SqL.of hxl), _, .inr (SqT.of (sx _ _ ht)), ite2 (fun z => bad (.inr (.inr (by rw [eL, natsV_len] at z; omega))) z1) fun z4 => ?_⟩⟩⟩) fun z1 => ?_
  · rw [eL] at z3
    rw [eL, natsV_len] at z4
    obtain ⟨j, rfl⟩ := Int.eq_ofNat_of_zero_le (show 0 ≤ h by omega)
    refine ⟨tyV_list hxl, _, hxl, Nat.lt_of_le_of_lt (show _ ≤ 2000 by rw [natsV_len]; omega) (by decide), _, SqT.of (by rw [upd_ne nlt]; exact sx _ _ ht), _, nth_at (by omega), m - 1, by omega, by omega, nth T' j, L ++ [j], by simp; omega, fun g => ?_, sx.upd hl, ?_, rfl⟩
    · obtain ⟨q, q1, q2, q3⟩ := hq g
      obtain ⟨ns, hT⟩ := g
      have e := hT.1
      refine ⟨j, by omega, rfl, ?_⟩
      rw [← q3, way_cons hT (by omega) q2.symm]; simp
    · rw [upd_same, natsV_app]; rfl
  · have z1 : h = -1 := by omega
    by_cases g : ∃ ns, TreeIs ns T'
    · obtain ⟨q, q1, q2, q3⟩ := hq g
      refine k1 g l Hx hl sx ?_
      rw [hxl, wayI_way, ← q3, way_top (q2.symm.trans z1)]
      simp [natsV]
    · exact (k2 g).2 l L Hx hl (by omega) sx hxl
theorem ok__law_flats {f : Addr} {fd : FuncData} (F : Fun K "_law_flats" "_law_flats" s__law_flats f fd) (G__law_over : Callee P w K mg base "_law_over" 1 ["tree", "place"] (sp__law_over K mg)) (T : Txt K mg) : FnOk P w K mg base (CXE P w) 2 f fd ["tree"] (sp__law_flats K mg) := by
  refine F.okX sc__law_flats (fun vs H Q E h => ?_) (fun cdv A outer s H vs Q E hr h => ?_)
  · obtain ⟨t, T, rfl, _⟩ := h; rfl
  obtain ⟨t, T', rfl, ht, hn, k1, k2⟩ := h
  refine ⟨_, (pss_cons (ps_set (i := 1) sc__law_flats.nd rfl (Or.inl rfl) (pe_lst pa_nil))
      (pss_cons (ps_nox (ps_for PassesOwn.never rfl (pi_range1 rfl T.b_range (pa_cons (pe_callB (call_lenK (K := K) rfl) rfl T.b_len PySem.boot_len (pa_cons (pv 0) pa_nil)) pa_nil)) (pg_name (i := 2) sc__law_flats.nd rfl (Or.inr rfl)) (pss_cons (ps_set (i := 3) sc__law_flats.nd rfl (Or.inl rfl) (pe_callF G__law_over (hr.mono (by decide)) rfl passE (pa_cons (pv 0) (pa_cons (pv 2) pa_nil))))
      (pss_cons (ps_if (pt_cmpR op_isN (pv 3) pe_non (nomark _)) (pss_one (ps_ret pe_non)) pss_nil)
      (pss_one (ps_expr (pe_bm PySem.F.plainAttrs_list PySem.F.slot_list_append PySem.F.type_list_append mt_append (pv 1) (pa_cons (pe_callB (call_lenK (K := K) rfl) rfl T.b_len PySem.boot_len (pa_cons (pe_comp ["other", "place"] [none, some 2] rfl rfl rfl (pi_list (pv 3)) (fun _ _ _ _ _ => (pg_name (i := 0) (show (["other", "place"] : List Str).Nodup from by decide +kernel) rfl (Or.inl rfl))) (fun _ _ _ _ _ => pifs_one (pt_cmpR op_gt (pv 0) (pv 1) (nomark _))) (fun _ _ _ _ _ => (pv 0)) only_name) pa_nil)) pa_nil))))))))
      (pss_one (ps_ret (pe_callTy (call_tupK (K := K) rfl) rfl T.b_tuple bt_tuple (pa_cons (pv 1) pa_nil)))))), ?_⟩
  walk_at "rd"
  have eL : (T'.map V.int).length = T'.length := List.length_map ..
  refine ⟨Nat.zero_le _, fun l hl => ⟨_, .inr (SqT.of (((Same.refl H).upd hl) _ _ ht)), by omega, by rw [eL]; omega, ?_⟩⟩
  have en : (((T'.map V.int).length : Nat) : Int).toNat = T'.length := by rw [eL]; omega
  rw [en]
  refine for_range (fun i σ Hx => ∃ (L : List Int) (v2 v3 : Option V), σ = [some (.ref t), some (.ref l), v2, v3] ∧ L.length = i ∧ Same H Hx ∧ Hx l = some (.lst (L.map V.int)) ∧ ((∃ ns, TreeIs ns T') → L = (List.range i).map fun p => (flatN T' p : Int))) ⟨[], none, none, rfl, rfl, (Same.refl H).upd hl, upd_same, fun _ => rfl⟩ ?_ ?_
  · rintro i σ Hx hi ⟨L, v2, v3, rfl, hL, sx, hxl, hF⟩
    have e0 : ((0 : Int) + (i : Int)) = (i : Int) := by omega
    rw [e0]
    refine seqR (fun σ Hy => Same H Hy ∧ Hy l = some (.lst (L.map V.int)) ∧ ((∃ (w : Addr) (M : List Nat), σ = [some (.ref t), some (.ref l), some (.int (i : Int)), some (.ref w)] ∧ M.length ≤ T'.length + 1 ∧ Hy w = some (.lst (natsV M)) ∧ ((∃ ns, TreeIs ns T') → M = way T' i)) ∨ (σ = [some (.ref t), some (.ref l), some (.int (i : Int)), some .non] ∧ ¬ ∃ ns, TreeIs ns T'))) (fun R hR => ?_) ?_
    · walk_at "rd"
      refine ⟨t, T', i, rfl, sx _ _ ht, hn, hi, fun g w H2 hw s2 h2 => hR _ _ ⟨sx.trans s2, s2 _ _ hxl, .inl ⟨w, way T' i, rfl, Nat.le_trans (wayF_len _ _ _) (by omega), ?_, fun _ => rfl⟩⟩, fun g => ⟨fun H2 s2 => hR _ _ ⟨sx.trans s2, s2 _ _ hxl, .inr ⟨rfl, g⟩⟩, fun w M H2 hw hM s2 h2 => hR _ _ ⟨sx.trans s2, s2 _ _ hxl, .inl ⟨w, M, rfl, hM, h2, fun g' => absurd g' g⟩⟩⟩⟩
      rw [h2, wayI_way]; simp [natsV]
    rintro σ Hy ⟨sy, hyl, ⟨w, M, rfl, hM, hw, hw2⟩ | ⟨rfl, g⟩⟩
    · walk_at "rd"
      refine ite2 (fun z => nomatch z) fun _ => ⟨tyV_list hyl, ⟨_, SqL.of hw⟩, ?_⟩
      have hw' : Hy w = some (.lst ((M.map fun (q : Nat) => (q : Int)).map V.int)) := by rw [hw]; simp [natsV]
      refine comp_sift (fun o => decide ((i : Int) < o)) hw' (by rw [List.length_map]; omega) (fun x Hz R hR => ?_) fun l2 H3 s3 hl2 => ?_
      · walk_at "rd"
        exact hR
      have g3 := s3.upd' (o := .lst (((M.map fun (q : Nat) => (q : Int)).filter fun o => decide ((i : Int) < o)).map V.int)) hl2
      refine ⟨l2, rfl, _, .inl (SqL.of upd_same), _, g3 _ _ hyl, Nat.lt_of_le_of_lt (show _ ≤ 1000 by rw [List.length_map]; omega) (by decide), L ++ [((((M.map fun (q : Nat) => (q : Int)).filter fun o => decide ((i : Int) < o)).length : Nat) : Int)], by simp [hL], (sy.trans g3).upd hl, ?_, fun g => ?_⟩
      · rw [upd_same]; simp
      · rw [hF g, List.range_succ, List.map_append]
        congr 1
        have : ((M.map fun (q : Nat) => (q : Int)).filter fun o => decide ((i : Int) < o)).length = flatN T' i := by
          rw [hw2 g, List.filter_map, List.length_map]
          unfold flatN
          refine filter_len_congr fun o ho => ?_
          rw [Bool.eq_iff_iff]
          simp
        rw [this]; rfl
    · walk_at "rd"
      exact (k2 g).1 _ sy
  · rintro σ Hx ⟨L, v2, v3, rfl, hL, sx, hxl, hF⟩
    walk_at "rd"
    refine ⟨_, .inl ⟨SqL.of hxl, fun u hu => ?_⟩⟩
    by_cases g : ∃ ns, TreeIs ns T'
    · exact k1 g u _ (sx.upd' hu) (by rw [upd_same, hF g]; rfl)
    · exact (k2 g).2 u L _ hL (sx.upd' hu) upd_same
theorem ok__law_drops {f : Addr} {fd : FuncData} (F : Fun K "_law_drops" "_law_drops" s__law_drops f fd) (G__law_pick : Callee P w K mg base "_law_pick" 1 ["pool", "many"] (sp__law_pick K mg)) (T : Txt K mg) : FnOk P w K mg base (CXE P w) 2 f fd ["pool", "many"] (sp__law_drops K mg) := by
  refine F.okX sc__law_drops (fun vs H Q E h => ?_) (fun cdv A outer s H vs Q E hr h => ?_)
  · obtain ⟨p, n, rfl, _⟩ := h; rfl
  obtain ⟨p, n, rfl, hn, hP, k1⟩ := h
  refine ⟨_, (pss_cons (ps_set (i := 2) sc__law_drops.nd rfl (Or.inl rfl) (pe_callF G__law_pick (hr.mono (by decide)) rfl passE (pa_cons (pv 0) (pa_cons pe_int pa_nil))))
      (pss_cons (ps_set (i := 3) sc__law_drops.nd rfl (Or.inl rfl) (pe_lst pa_nil))
      (pss_cons (ps_set (i := 4) sc__law_drops.nd rfl (Or.inl rfl) pe_int)
      (pss_cons (ps_nox (ps_for PassesOwn.never rfl (pi_range1 rfl T.b_range (pa_cons (pv 1) pa_nil)) (pg_name (i := 5) sc__law_drops.nd rfl (Or.inl rfl)) (pss_cons (ps_set (i := 6) sc__law_drops.nd rfl (Or.inl rfl) (pe_callF G__law_pick (hr.mono (by decide)) rfl passE (pa_cons (pv 0) (pa_cons (pe_op op_add (pv 4) pe_int) pa_nil))))
      (pss_cons (ps_if (PW.pt (pw_and (pt_cmpR op_eq (pv 2) pe_int (nomark _)) (pw_and1 (pt_cmpR op_gt (pe_callF G__law_pick (hr.mono (by decide)) rfl passE (pa_cons (pv 0) (pa_cons pe_int pa_nil))) pe_int (nomark _))))) (pss_one (ps_set (i := 6) sc__law_drops.nd rfl (Or.inl rfl) pe_int)) pss_nil)
      (pss_cons (ps_if (PW.pt (pw_and (pt_cmpR op_eq (pv 2) pe_int (nomark _)) (pw_and1 (pt_cmpR op_gt (pe_callF G__law_pick (hr.mono (by decide)) rfl passE (pa_cons (pv 0) (pa_cons pe_int pa_nil))) pe_int (nomark _))))) (pss_one (ps_set (i := 6) sc__law_drops.nd rfl (Or.inl rfl) (pv 4))) pss_nil)
      (pss_cons (ps_if (pt_cmpR op_eq (pv 2) pe_int (nomark _)) (pss_one (ps_set (i := 6) sc__law_drops.nd rfl (Or.inl rfl) (pe_callB (call_min3 rfl) rfl T.b_min bt_min (pa_cons (pv 4) (pa_cons (pv 6) (pa_cons (pe_op op_add pe_int (pe_callF G__law_pick (hr.mono (by decide)) rfl passE (pa_cons (pv 0) (pa_cons pe_int pa_nil)))) pa_nil)))))) pss_nil)
      (pss_cons (ps_expr (pe_bm PySem.F.plainAttrs_list PySem.F.slot_list_append PySem.F.type_list_append mt_append (pv 3) (pa_cons (pv 6) pa_nil)))
      (pss_one (ps_set (i := 4) sc__law_drops.nd rfl (Or.inl rfl) (pe_op op_add (pe_op op_sub (pv 4) (pv 6)) pe_int))))))))))
      (pss_one (ps_ret (pe_callTy (call_tupK (K := K) rfl) rfl T.b_tuple bt_tuple (pa_cons (pv 3) pa_nil)))))))), ?_⟩
  refine seqR (fun σ Hx => ∃ way : Int, σ = [some (.ref p), some (.int (n : Int)), some (.int way), none, none, none, none] ∧ PoolAt Hx p ∧ Exc p H Hx) (fun R hR => ?_) ?_
  · walk_at "rd"
    exact ⟨p, _, rfl, by decide, by decide, hP, fun d H1 d0 d1 P1 e1 => hR _ _ ⟨d, rfl, P1, e1⟩⟩
  rintro σ H1 ⟨way, rfl, P1, e1⟩
  walk_at "rd"
  refine ⟨Nat.zero_le _, fun l hl => ⟨by omega, by omega, ?_⟩⟩
  have nlp : l ≠ p := P1.ne hl
  have zl : H l = none := e1.free nlp hl
  rw [Int.toNat_natCast]
  refine for_range (fun i σ Hx => ∃ (ds : List Nat) (v5 v6 : Option V), σ = [some (.ref p), some (.int (n : Int)), some (.int way), some (.ref l), some (.int (openN ds i : Nat)), v5, v6] ∧ ds.length = i ∧ DropsOk ds ∧ Hx l = some (.lst (natsV ds)) ∧ PoolAt Hx p ∧ Exc p H Hx) ⟨[], none, none, rfl, rfl, (fun k hk => absurd hk (by simp)), upd_same, P1.upd hl, e1.same ((Same.refl H1).upd hl)⟩ ?_ ?_
  · rintro i σ Hx hi ⟨ds, v5, v6, rfl, hd, hD, hxl, Px, ex⟩
    have hop := openN_le ds i
    refine seqR (fun σ Hx => ∃ d : Nat, d ≤ openN ds i ∧ σ = [some (.ref p), some (.int (n : Int)), some (.int way), some (.ref l), some (.int (openN ds i : Nat)), some (.int (0 + (i : Int))), some (.int (d : Nat))] ∧ Hx l = some (.lst (natsV ds)) ∧ PoolAt Hx p ∧ Exc p H Hx) (fun R hR => ?_) ?_
    · walk_at "rd"
      exact ⟨p, _, rfl, by omega, by omega, Px, fun d H2 d0 d1 P2 e2 => hR _ _ ⟨d.toNat, by omega, by rw [Int.toNat_of_nonneg d0], e2 _ _ nlp hxl, P2, ex.trans e2⟩⟩
    clear hxl Px ex Hx
    rintro σ Hx ⟨d, hd1, rfl, hxl, Px, ex⟩
    refine seqR (fun σ Hx => ∃ d : Nat, d ≤ openN ds i ∧ σ = [some (.ref p), some (.int (n : Int)), some (.int way), some (.ref l), some (.int (openN ds i : Nat)), some (.int (0 + (i : Int))), some (.int (d : Nat))] ∧ Hx l = some (.lst (natsV ds)) ∧ PoolAt Hx p ∧ Exc p H Hx) (fun R hR => ?_) ?_
    · walk_at "rd"
      refine ite2 (fun _ => ⟨p, _, rfl, by decide, by decide, Px, fun u H2 u0 u1 P2 e2 => ⟨u, rfl, ite2 (fun _ => hR _ _ ⟨0, by omega, rfl, e2 _ _ nlp hxl, P2, ex.trans e2⟩) fun _ => hR _ _ ⟨d, hd1, rfl, e2 _ _ nlp hxl, P2, ex.trans e2⟩⟩⟩) fun _ => hR _ _ ⟨d, hd1, rfl, hxl, Px, ex⟩
    clear hxl Px ex Hx hd1 d
    rintro σ Hx ⟨d, hd1, rfl, hxl, Px, ex⟩
    refine seqR (fun σ Hx => ∃ d : Nat, d ≤ openN ds i ∧ σ = [some (.ref p), some (.int (n : Int)), some (.int way), some (.ref l), some (.int (openN ds i : Nat)), some (.int (0 + (i : Int))), some (.int (d : Nat))] ∧ Hx l = some (.lst (natsV ds)) ∧ PoolAt Hx p ∧ Exc p H Hx) (fun R hR => ?_) ?_
    · walk_at "rd"
      refine ite2 (fun _ => ⟨p, _, rfl, by decide, by decide, Px, fun u H2 u0 u1 P2 e2 => ⟨u, rfl, ite2 (fun _ => hR _ _ ⟨openN ds i, by omega, rfl, e2 _ _ nlp hxl, P2, ex.trans e2⟩) fun _ => hR _ _ ⟨d, hd1, rfl, e2 _ _ nlp hxl, P2, ex.trans e2⟩⟩⟩) fun _ => hR _ _ ⟨d, hd1, rfl, hxl, Px, ex⟩
    clear hxl Px ex Hx hd1 d
    rintro σ Hx ⟨d, hd1, rfl, hxl, Px, ex⟩
    refine seqR (fun σ Hx => ∃ d : Nat, d ≤ openN ds i ∧ σ = [some (.ref p), some (.int (n : Int)), some (.int way), some (.ref l), some (.int (openN ds i : Nat)), some (.int (0 + (i : Int))), some (.int (d : Nat))] ∧ Hx l = some (.lst (natsV ds)) ∧ PoolAt Hx p ∧ Exc p H Hx) (fun R hR => ?_) ?_
    · walk_at "rd"
      refine ite2 (fun _ => ⟨p, _, rfl, by decide, by decide, Px, fun u H2 u0 u1 P2 e2 => ⟨u, rfl, hR _ _ ⟨(min (min ((openN ds i : Nat) : Int) (d : Int)) (1 + u)).toNat, by omega, ?_, e2 _ _ nlp hxl, P2, ex.trans e2⟩⟩⟩) fun _ => hR _ _ ⟨d, hd1, rfl, hxl, Px, ex⟩
      rw [Int.toNat_of_nonneg (by omega)]
    clear hxl Px ex Hx hd1 d
    rintro σ Hx ⟨d, hd1, rfl, hxl, Px, ex⟩
    walk_at "rd"
    have eo : openN (ds ++ [d]) (i + 1) = openN ds i - d + 1 := by
      show openN (ds ++ [d]) i - (ds ++ [d]).getD i 0 + 1 = _
      rw [openN_app ds d i (by omega), ← hd]; simp [List.getD_eq_getElem?_getD]
    refine ⟨tyV_list hxl, _, hxl, Nat.lt_of_le_of_lt (show _ ≤ 1000 by rw [natsV_len]; omega) (by decide), ds ++ [d], by rw [eo]; omega, by simp [hd], hD.snoc (by rw [hd]; exact hd1), by rw [upd_same, natsV_app]; rfl, Px.updN nlp, ex.updN zl⟩
  · rintro σ Hx ⟨ds, v5, v6, rfl, hd, hD, hxl, Px, ex⟩
    walk_at "rd"
    exact ⟨_, .inl ⟨SqL.of hxl, fun t ht => k1 t ds _ (ex.free (Px.ne ht) ht) hd hD upd_same (Px.upd ht) (ex.same ((Same.refl Hx).upd ht))⟩⟩
theorem ok__law_hung {f : Addr} {fd : FuncData} (F : Fun K "_law_hung" "_law_hung" s__law_hung f fd)  (T : Txt K mg) : FnOk P w K mg base (CXE P w) 1 f fd ["drops"] (sp__law_hung K mg) := by
  refine F.okX sc__law_hung (fun vs H Q E h => ?_) (fun cdv A outer s H vs Q E hr h => ?_)
  · obtain ⟨t, ds, rfl, _⟩ := h; rfl
  obtain ⟨t, ds, rfl, ht, hn, hD, k1⟩ := h
  refine ⟨_, (pss_cons (ps_set (i := 1) sc__law_hung.nd rfl (Or.inl rfl) (pe_op op_rep (pe_lst (pa_cons (pe_un un_neg pe_int) pa_nil)) (pe_callB (call_lenK (K := K) rfl) rfl T.b_len PySem.boot_len (pa_cons (pv 0) pa_nil))))
      (pss_cons (ps_set (i := 2) sc__law_hung.nd rfl (Or.inl rfl) (pe_lst pa_nil))
      (pss_cons (ps_nox (ps_for PassesOwn.never rfl (pi_enumT (K := K) rfl rfl T.b_enumerate (pa_cons (pv 0) pa_nil)) (pg_tup (n := 2) rfl (pgs_cons (pg_name (i := 3) sc__law_hung.nd rfl (Or.inl rfl)) (pgs_cons (pg_name (i := 4) sc__law_hung.nd rfl (Or.inl rfl)) pgs_nil))) (pss_cons (ps_nox (ps_for PassesOwn.never rfl (pi_range1 rfl T.b_range (pa_cons (pv 4) pa_nil)) (pg_name (i := 5) sc__law_hung.nd rfl (Or.inl rfl)) (pss_cons (ps_asg (pe_ix ix_list (pe_lst (pa_cons (pe_ix ix_list (pv 1) (pe_ix ix_list (pv 2) (pe_un un_neg pe_int) (fun _ _ => rfl)) (fun _ _ => rfl)) (pa_cons (pv 3) pa_nil))) (pe_callTy call_intB rfl T.b_int bt_int (pa_cons (pe_cmpR op_eq (pv 5) (pe_op op_sub (pv 4) pe_int) (nomark _)) pa_nil)) (fun _ _ => rfl)) (pg_sub (pv 1) (pe_ix ix_list (pv 2) (pe_un un_neg pe_int) (fun _ _ => rfl)) set_list (fun _ => rfl)))
      (pss_one (ps_expr (pe_bm0 PySem.F.plainAttrs_list PySem.F.slot_list_pop PySem.F.type_list_pop mt_pop (pv 2)))))))
      (pss_cons (ps_if (pt_cmpR (op_neD (K := K) rfl hr) (pv 2) (pe_lst pa_nil) (nomark _)) (pss_one (ps_asg (pe_ix ix_list (pv 2) (pe_un un_neg pe_int) (fun _ _ => rfl)) (pg_sub (pv 1) (pv 3) set_list (fun _ => rfl)))) pss_nil)
      (pss_one (ps_expr (pe_bm PySem.F.plainAttrs_list PySem.F.slot_list_append PySem.F.type_list_append mt_append (pv 2) (pa_cons (pv 3) pa_nil))))))))
      (pss_one (ps_ret (pe_callTy (call_tupK (K := K) rfl) rfl T.b_tuple bt_tuple (pa_cons (pv 1) pa_nil))))))), ?_⟩
  walk_at "rd"
  have eL : (natsV ds).length = ds.length := natsV_len ds
  refine ⟨by decide, fun p hp => ⟨_, .inr (SqT.of (((Same.refl H).upd hp) _ _ ht)), _, upd_same, by omega, by rw [eL]; omega, ?_, fun el hel => ⟨Nat.zero_le _, fun sp hsp => ?_⟩⟩⟩
  · exact Nat.le_trans (show _ ≤ 1000 by simp; omega) (by decide)
  have en : (((natsV ds).length : Nat) : Int).toNat = ds.length := by rw [eL]; omega
  have s0 : Same H (upd (upd (upd H p (.lst [V.int (-1)])) el (.lst (List.replicate (((natsV ds).length : Nat) : Int).toNat [V.int (-1)]).flatten)) sp (.lst [])) := (((Same.refl H).upd hp).upd' hel).upd' hsp
  refine ⟨_, SqT.of (s0 _ _ ht), ?_⟩
  have hel0 : (upd (upd (upd H p (.lst [V.int (-1)])) el (.lst (List.replicate (((natsV ds).length : Nat) : Int).toNat [V.int (-1)]).flatten)) sp (.lst [])) el = some (.lst ((List.replicate ds.length (-1 : Int)).map V.int)) := by
    have := ((Same.refl _).upd' (o := .lst []) hsp) el _ upd_same
    rw [this, en]; simp
  have hsp0 : (upd (upd (upd H p (.lst [V.int (-1)])) el (.lst (List.replicate (((natsV ds).length : Nat) : Int).toNat [V.int (-1)]).flatten)) sp (.lst [])) sp = some (.lst (natsV [])) := upd_same
  have nes : el ≠ sp := fun z => by
    subst z
    rw [upd_same] at hsp; cases hsp
  have zel : H el = none := ((Same.refl H).upd hp).free hel
  have zsp : H sp = none := (((Same.refl H).upd hp).upd' hel).free hsp
  rw [en] at hel0 hsp0 s0 ⊢
  generalize (upd (upd (upd H p (.lst [V.int (-1)])) el (.lst (List.replicate ds.length [V.int (-1)]).flatten)) sp (.lst [])) = H0 at s0 hel0 hsp0 ⊢
  refine for_it (n := ds.length) (fun i σ Hx => ∃ (es : List Int) (S : List Nat) (v3 v4 v5 : Option V), σ = [some (.ref t), some (.ref el), some (.ref sp), v3, v4, v5] ∧ Hx el = some (.lst (es.map V.int)) ∧ Hx sp = some (.lst (natsV S)) ∧ es.length = ds.length ∧ Hung ds.length i S es ∧ S.length = openN ds i ∧ (∀ p, i ≤ p → p < ds.length → es.getD p 0 = -1) ∧ Same H Hx)
    ⟨List.replicate ds.length (-1), [], none, none, none, rfl, hel0, hsp0, by simp, hung_zero _ _, rfl, fun p _ hp => by simp [List.getD_eq_getElem?_getD, hp], s0⟩ (fun i σ Hx hi ⟨_, _, _, _, _, _, _, _, _, _, _, _, sx⟩ => ⟨_, _, SqT.of (sx _ _ ht), List.getElem?_eq_getElem (by rw [eL]; exact hi)⟩) (fun σ Hx ⟨_, _, _, _, _, _, _, _, _, _, _, _, sx⟩ => ⟨_, SqT.of (sx _ _ ht), eL⟩) ?_ ?_
  · rintro i x σ Hx Hx' hi ⟨es, S, v3, v4, v5, rfl, hxe, hxs, hel', hH, hSl, hE, sx⟩ ⟨q, x, hq, rfl, rfl, hx⟩
    have ex := hx _ (SqT.of (sx _ _ ht))
    have ed : (natsV ds)[i]? = some (V.int (ds.getD i 0 : Nat)) := by simp [natsV, List.getD_eq_getElem?_getD, hi]
    rw [ed] at ex
    cases ex
    have hdi := hD i hi
    have hSi := hH.len
    have hSlt := hH.lt
    rw [← hSl] at hdi
    generalize hdd : ds.getD i 0 = d at hdi ed hx hq ⊢
    have g := (Same.refl Hx).upd (o := .tup [.int (i : Int), .int (d : Nat)]) hq
    have tq : (upd Hx q (.tup [.int (i : Int), .int (d : Nat)])) q = some (.tup [.int (i : Int), .int (d : Nat)]) := upd_same
    replace sx := sx.trans g
    replace hxe := g _ _ hxe
    replace hxs := g _ _ hxs
    generalize upd Hx q (.tup [.int (i : Int), .int (d : Nat)]) = Hy at sx hxe hxs tq ⊢
    clear g hx hq Hx
    refine ⟨q, _, rfl, SqT.of tq, rfl, _, _, rfl, _, _, rfl, rfl, ?_⟩
    clear tq
    obtain ⟨A', B, hAB, hBl⟩ := split_last S hdi
    refine seqR (fun σ Hx => ∃ (v5 : Option V), σ = [some (.ref t), some (.ref el), some (.ref sp), some (.int (i : Int)), some (.int (d : Nat)), v5] ∧ Hx el = some (.lst ((match B.head? with | some b => es.set b i | none => es).map V.int)) ∧ Hx sp = some (.lst (natsV A')) ∧ Same H Hx) (fun R hR => ?_) ?_
    · walk_at "rd"
      refine ⟨by omega, by omega, ?_⟩
      rw [Int.toNat_natCast]
      refine for_range (fun j σ Hz => ∃ (v5 : Option V), σ = [some (.ref t), some (.ref el), some (.ref sp), some (.int (i : Int)), some (.int (d : Nat)), v5] ∧ Hz el = some (.lst ((if j = d then (match B.head? with | some b => es.set b i | none => es) else es).map V.int)) ∧ Hz sp = some (.lst (natsV (A' ++ B.take (d - j)))) ∧ Same H Hz) ⟨_, rfl, ?_, ?_, sx⟩ ?_ ?_
      · rw [hxe]
        congr 2
        split
        · rename_i z
          have : B = [] := List.length_eq_zero_iff.mp (by omega)
          rw [this]; rfl
        · rfl
      · rw [hxs, hAB, Nat.sub_zero, ← hBl, List.take_length]
      · clear hxe hxs sx v5 Hy
        rintro j σ Hy hj ⟨v5, rfl, hye, hys, sy⟩
        rw [if_neg (by omega)] at hye
        have hlt : d - j - 1 < B.length := by omega
        have etk : B.take (d - j) = B.take (d - j - 1) ++ [B[d - j - 1]] := by
          have := List.take_succ (l := B) (i := d - j - 1)
          rw [show d - j - 1 + 1 = d - j by omega, List.getElem?_eq_getElem hlt] at this
          exact this
        have hyi : B[d - j - 1] < i := hSlt _ (by rw [hAB]; exact List.mem_append_right _ (List.getElem_mem hlt))
        have hhd : j = d - 1 → B.head? = some B[d - j - 1] := fun z => by
          rw [List.head?_eq_getElem?, List.getElem?_eq_getElem (show 0 < B.length by omega)]
          congr 2; omega
        rw [etk, ← List.append_assoc] at hys
        generalize B[d - j - 1] = y at hys hyi hhd
        have hat : atI (natsV (A' ++ B.take (d - j - 1) ++ [y])) (-1) = some (V.int (y : Nat)) := natsV_snoc _ _
        walk_at "rd"
        refine ⟨_, SqL.of hys, _, hat, _, _, rfl, SqL.of hye, _, nth_at (show y < es.length by omega), by decide, fun u hu => ?_⟩
        have g := (Same.refl Hy).upd (o := .lst [V.int (nth es y), V.int (i : Int)]) hu
        refine ⟨_, SqL.of upd_same, V.int (if j = d - 1 then (i : Int) else nth es y), ?_, _, SqL.of (g _ _ hys), _, hat, _, _, rfl, g _ _ hye, y, by rw [List.length_map]; exact ixN_nat (by omega), ?_⟩
        · by_cases z : j = d - 1
          · rw [if_pos z, if_pos (by omega)]; rfl
          · rw [if_neg z, if_neg (by omega)]; rfl
        rw [← List.map_set]
        have hys2 : (upd (upd Hy u (.lst [V.int (nth es y), V.int (i : Int)])) el (.lst ((es.set y (if j = d - 1 then (i : Int) else nth es y)).map V.int))) sp = some (.lst (natsV (A' ++ B.take (d - j - 1) ++ [y]))) := by rw [upd_ne nes.symm]; exact g _ _ hys
        refine ⟨tyV_list hys2, _, hys2, V.int (y : Nat), by simp [natsV], ?_, ?_, ((sy.trans g).upd zel).upd zsp⟩
        · rw [upd_ne nes, upd_same]
          congr 3
          by_cases z : j = d - 1
          · rw [if_pos z, if_pos (by omega), hhd z]
          · rw [if_neg z, if_neg (by omega), set_nth_self]
        · rw [upd_same, show d - (j + 1) = d - j - 1 by omega]
          simp [natsV]
      · rintro σ Hz ⟨v5, rfl, hze, hzs, sz⟩
        rw [if_pos rfl] at hze
        rw [Nat.sub_self, List.take_zero, List.append_nil] at hzs
        exact hR _ _ ⟨v5, rfl, hze, hzs, sz⟩
    clear hxe hxs sx Hy
    rintro σ Hy ⟨v5, rfl, hye, hys, sy⟩
    walk_at "rd"
    have hbi : ∀ b, B.head? = some b → b ≠ i := fun b hb => by
      have := hSlt b (by rw [hAB]; exact List.mem_append_right _ (List.mem_of_head? hb)); omega
    rw [hAB] at hH
    have hst := hH.step hi hel' (hE i (Nat.le_refl _) hi)
    have hAl : A'.length + d = S.length := by rw [hAB, List.length_append]; omega
    have hno : (A' ++ [i]).length = openN ds (i + 1) := by
      show _ = openN ds i - ds.getD i 0 + 1
      rw [hdd, ← hSl]; simp; omega
    have hEn : ∀ p, i + 1 ≤ p → p < ds.length → (setE es A' B i).getD p 0 = -1 := fun p p1 p2 => by
      rw [setE_at _ _ _ _ _ (by omega) hbi, if_neg (by omega), if_neg (fun z => ?_)]
      · exact hE p (by omega) p2
      · have := hSlt p (by rw [hAB]; exact List.mem_append_right _ (List.mem_of_head? z)); omega
    have esn : natsV A' ++ [V.int (i : Nat)] = natsV (A' ++ [i]) := by rw [natsV_app]; rfl
    refine ⟨Nat.zero_le _, fun u hu => ?_⟩
    have g := (Same.refl Hy).upd (o := .lst []) hu
    have e0 := eqd_nil (K := K) (g _ _ hys) (upd_same (H := Hy) (a := u) (o := .lst []))
    replace hye := g _ _ hye
    replace hys := g _ _ hys
    replace sy := sy.trans g
    generalize upd Hy u (.lst []) = Hz at hye hys sy e0 ⊢
    refine ⟨_, e0, ?_⟩
    rcases snoc_cases A' with rfl | ⟨A1, a, rfl⟩
    · rw [decide_eq_true rfl]
      refine ite2 (fun z => nomatch z) fun _ => ⟨tyV_list hys, _, hys, Nat.lt_of_le_of_lt (show _ ≤ 1000 by simp [natsV]) (by decide), setE es [] B i, ?_, [] ++ [i], by rw [upd_same, esn], by rw [setE_len]; exact hel', hst, hno, hEn, sy.upd zsp⟩
      rw [upd_ne nes, hye]; rfl
    · rw [decide_eq_false (by simp)]
      have hat : atI (natsV (A1 ++ [a])) (-1) = some (V.int (a : Nat)) := natsV_snoc _ _
      have hl2 : (match B.head? with | some b => es.set b i | none => es).length = ds.length := by split <;> simp [hel']
      have eE : (match B.head? with | some b => es.set b (i : Int) | none => es).set i (a : Int) = setE es (A1 ++ [a]) B i := by unfold setE; rw [show (A1 ++ [a]).getLast? = some a by simp] <;> rfl
      refine ite2 (fun _ => ⟨_, SqL.of hys, _, hat, _, hye, i, by rw [List.length_map, hl2]; exact ixN_nat hi, ?_⟩) fun z => absurd rfl z
      have em : ((match B.head? with | some b => es.set b (i : Int) | none => es).map V.int).set i (V.int (a : Nat)) = (setE es (A1 ++ [a]) B i).map V.int := by rw [← eE, List.map_set]
      rw [em]
      have hys2 : (upd Hz el (.lst ((setE es (A1 ++ [a]) B i).map V.int))) sp = some (.lst (natsV (A1 ++ [a]))) := by rw [upd_ne nes.symm]; exact hys
      refine ⟨tyV_list hys2, _, hys2, Nat.lt_of_le_of_lt (show _ ≤ 1000 by rw [natsV_len]; omega) (by decide), setE es (A1 ++ [a]) B i, by rw [upd_ne nes, upd_same], A1 ++ [a] ++ [i], by rw [upd_same, esn], by rw [setE_len]; exact hel', hst, hno, hEn, (sy.upd zel).upd zsp⟩
  · rintro σ Hx ⟨es, S, v3, v4, v5, rfl, hxe, hxs, hel', hH, hSl, hE, sx⟩
    walk_at "rd"
    exact ⟨_, .inl ⟨SqL.of hxe, fun u hu => k1 u es _ (sx.free hu) hel' (hH.tree hel') (sx.upd' hu) upd_same⟩⟩
theorem ok__law_tree {f : Addr} {fd : FuncData} (F : Fun K "_law_tree" "_law_tree" s__law_tree f fd) (G__law_size : Callee P w K mg base "_law_size" 2 ["pool", "most"] (sp__law_size K mg)) (G__law_drops : Callee P w K mg base "_law_drops" 2 ["pool", "many"] (sp__law_drops K mg)) (G__law_hung : Callee P w K mg base "_law_hung" 1 ["drops"] (sp__law_hung K mg)) (T : Txt K mg) : FnOk P w K mg base (CXE P w) 3 f fd ["pool", "most"] (sp__law_tree K mg) := by
  refine F.okX sc__law_tree (fun vs H Q E h => ?_) (fun cdv A outer s H vs Q E hr h => ?_)
  · obtain ⟨p, most, rfl, _⟩ := h; rfl
  obtain ⟨p, most, rfl, hm, hP, k1⟩ := h
  refine ⟨_, (pss_one (ps_ret (pe_callF G__law_hung (hr.mono (by decide)) rfl passE (pa_cons (pe_callF G__law_drops (hr.mono (by decide)) rfl passE (pa_cons (pv 0) (pa_cons (pe_callF G__law_size (hr.mono (by decide)) rfl passE (pa_cons (pv 0) (pa_cons (pv 1) pa_nil))) pa_nil))) pa_nil)))), ?_⟩
  walk_at "rd"
  refine ⟨p, most, rfl, by omega, by omega, hP, fun n H1 n0 n1 P1 e1 => ?_⟩
  obtain ⟨m, rfl⟩ := Int.eq_ofNat_of_zero_le n0
  refine ⟨p, m, rfl, by omega, P1, fun t ds H2 zt hd hD ht P2 e2 => ⟨t, ds, rfl, ht, by omega, hD, fun u es H3 zu hel hT s3 hu => ?_⟩⟩
  have e12 := e1.trans e2
  exact k1 u es H3 (e12.free (P2.ne zu) zu) (by omega) hT hu (P2.same s3) (e12.same s3)
theorem ok__law_kin_row {f : Addr} {fd : FuncData} (F : Fun K "_law_kin_row" "_law_kin_row" s__law_kin_row f fd) (G__law_pick : Callee P w K mg base "_law_pick" 1 ["pool", "many"] (sp__law_pick K mg)) (G__law_over : Callee P w K mg base "_law_over" 1 ["tree", "place"] (sp__law_over K mg)) (T : Txt K mg) : FnOk P w K mg base (CXE P w) 2 f fd ["pool", "tree"] (sp__law_kin_row K mg) := by
  refine F.okX sc__law_kin_row (fun vs H Q E h => ?_) (fun cdv A outer s H vs Q E hr h => ?_)
  · obtain ⟨p, t, T, rfl, _⟩ := h; rfl
  obtain ⟨p, t, T', rfl, hP, ht, hn, ⟨ns, hT⟩, k1⟩ := h
  refine ⟨_, (pss_cons (ps_set (i := 2) sc__law_kin_row.nd rfl (Or.inl rfl) (pe_op op_add pe_int (pe_callF G__law_pick (hr.mono (by decide)) rfl passE (pa_cons (pv 0) (pa_cons pe_int pa_nil)))))
      (pss_cons (ps_set (i := 3) sc__law_kin_row.nd rfl (Or.inl rfl) (pe_op op_mulX (pe_op op_sub (pe_callF G__law_pick (hr.mono (by decide)) rfl passE (pa_cons (pv 0) (pa_cons pe_int pa_nil))) pe_int) (pe_ix ix_tup (pe_tup (pa_cons pe_int (pa_cons pe_int (pa_cons (pe_op op_pow pe_int pe_int) pa_nil)))) (pe_callF G__law_pick (hr.mono (by decide)) rfl passE (pa_cons (pv 0) (pa_cons pe_int pa_nil))) (fun _ _ => rfl))))
      (pss_cons (ps_set (i := 4) sc__law_kin_row.nd rfl (Or.inl rfl) (pe_op op_rep (pe_lst (pa_cons (pv 3) pa_nil)) (pe_callB (call_lenK (K := K) rfl) rfl T.b_len PySem.boot_len (pa_cons (pv 1) pa_nil))))
      (pss_cons (ps_set (i := 5) sc__law_kin_row.nd rfl (Or.inl rfl) (pe_lst pa_nil))
      (pss_cons (ps_nox (ps_for PassesOwn.never rfl (pi_range1 rfl T.b_range (pa_cons (pe_callB (call_lenK (K := K) rfl) rfl T.b_len PySem.boot_len (pa_cons (pv 1) pa_nil)) pa_nil)) (pg_name (i := 6) sc__law_kin_row.nd rfl (Or.inl rfl)) (pss_one (ps_expr (pe_bm PySem.F.plainAttrs_list PySem.F.slot_list_append PySem.F.type_list_append mt_append (pv 5) (pa_cons (pe_tup (pa_cons (pe_callB (call_lenK (K := K) rfl) rfl T.b_len PySem.boot_len (pa_cons (pe_callF G__law_over (hr.mono (by decide)) rfl passE (pa_cons (pv 1) (pa_cons (pv 6) pa_nil))) pa_nil)) (pa_cons (pv 6) pa_nil))) pa_nil))))))
      (pss_cons (ps_nox (ps_for PassesOwn.never rfl (pi_list (pe_callB (call_sortedT (K := K) rfl) rfl T.b_sorted bt_sorted (pa_cons (pv 5) pa_nil))) (pg_tup (n := 2) rfl (pgs_cons (pg_name (i := 7) sc__law_kin_row.nd rfl (Or.inl rfl)) (pgs_cons (pg_name (i := 6) sc__law_kin_row.nd rfl (Or.inl rfl)) pgs_nil))) (pss_cons (ps_set (i := 8) sc__law_kin_row.nd rfl (Or.inl rfl) (pe_ix ix_tup (pv 1) (pv 6) (fun _ _ => rfl)))
      (pss_one (ps_if (pt_cmpR op_ge (pv 8) pe_int (nomark _)) (pss_cons (ps_set (i := 9) sc__law_kin_row.nd rfl (Or.inl rfl) (pe_op op_add (pe_ix ix_list (pv 4) (pv 8) (fun _ _ => rfl)) (pe_callTy call_intB rfl T.b_int bt_int (pa_cons (pe_cmpR op_lt (pv 6) (pv 8) (nomark _)) pa_nil))))
      (pss_one (ps_asg (pe_op op_add (pv 9) (pe_callF G__law_pick (hr.mono (by decide)) rfl passE (pa_cons (pv 0) (pa_cons (pv 2) pa_nil)))) (pg_sub (pv 4) (pv 6) set_list (fun _ => rfl))))) pss_nil)))))
      (pss_one (ps_ret (pe_callTy (call_tupK (K := K) rfl) rfl T.b_tuple bt_tuple (pa_cons (pv 4) pa_nil)))))))))), ?_⟩
  have eT : T'.length = ns.length := hT.1
  have eL : (T'.map V.int).length = T'.length := List.length_map ..
  have ntp : t ≠ p := fun z => by
    obtain ⟨x, y, e, _⟩ := hP
    rw [z, e] at ht; cases ht
  refine seqR (fun σ Hx => ∃ rise : Int, σ = [some (.ref p), some (.ref t), some (.int rise), none, none, none, none, none, none, none] ∧ 1 ≤ rise ∧ rise ≤ 3 ∧ PoolAt Hx p ∧ Exc p H Hx) (fun R hR => ?_) ?_
  · walk_at "rd"
    exact ⟨p, _, rfl, by decide, by decide, hP, fun d H1 d0 d1 P1 e1 => ⟨d, rfl, hR _ _ ⟨_, rfl, by omega, by omega, P1, e1⟩⟩⟩
  rintro σ H1 ⟨rise, rfl, hr1, hr3, P1, e1⟩
  refine seqR (fun σ Hx => ∃ begin : Int, σ = [some (.ref p), some (.ref t), some (.int rise), some (.int begin), none, none, none, none, none, none] ∧ PoolAt Hx p ∧ Exc p H Hx) (fun R hR => ?_) ?_
  · walk_at "rd"
    refine ⟨p, _, rfl, by decide, by decide, P1, fun d H2 d0 d1 P2 e2 => ⟨d, rfl, cp58, by decide, fun q hq => ⟨p, _, rfl, by decide, by decide, P2.upd hq, fun u H3 u0 u1 P3 e3 => ?_⟩⟩⟩
    have hq3 := e3 _ _ (P2.ne hq) upd_same
    obtain ⟨v, hv, z, rfl⟩ := atI_all (xs := [V.int 1, V.int 1, V.int (10 ^ Int.toNat 58)]) (i := u) (fun v => ∃ n : Int, v = V.int n) u0 u1 (by
      intro x hx
      simp only [List.mem_cons, List.not_mem_nil, or_false] at hx
      rcases hx with rfl | rfl | rfl <;> exact ⟨_, rfl⟩)
    exact ⟨_, u, rfl, SqT.of hq3, _, hv, z, rfl, mul_l (by omega) (by omega), hR _ _ ⟨_, rfl, P3, ((e1.trans e2).same ((Same.refl H2).upd hq)).trans e3⟩⟩
  clear P1 e1 H1
  rintro σ H1 ⟨begin, rfl, P1, e1⟩
  refine seqR (fun σ Hx => ∃ fo : Addr, σ = [some (.ref p), some (.ref t), some (.int rise), some (.int begin), some (.ref fo), none, none, none, none, none] ∧ fo ≠ p ∧ H fo = none ∧ Hx fo = some (.lst ((List.replicate T'.length begin).map V.int)) ∧ PoolAt Hx p ∧ Exc p H Hx) (fun R hR => ?_) ?_
  · walk_at "rd"
    have ht1 := e1 _ _ ntp ht
    refine ⟨by decide, fun q hq => ⟨_, .inr (SqT.of (((Same.refl H1).upd hq) _ _ ht1)), _, upd_same, by omega, by rw [eL]; omega, ?_, fun fo hfo => ?_⟩⟩
    · exact Nat.le_trans (show _ ≤ 1000 by simp; omega) (by decide)
    have e2 := e1.same ((Same.refl H1).upd (o := .lst [V.int begin]) hq)
    refine hR _ _ ⟨fo, rfl, (P1.upd hq).ne hfo, e2.free ((P1.upd hq).ne hfo) hfo, ?_, (P1.upd hq).upd hfo, e2.same ((Same.refl _).upd hfo)⟩
    rw [upd_same, eL]; simp
  clear P1 e1 H1
  rintro σ H1 ⟨fo, rfl, nfp, zf, hfo, P1, e1⟩
  refine seqR (fun σ Hx => ∃ (ra : Addr), σ = [some (.ref p), some (.ref t), some (.int rise), some (.int begin), some (.ref fo), some (.ref ra), none, none, none, none] ∧ ra ≠ p ∧ ra ≠ fo ∧ H ra = none ∧ TupsAt Hx ra [] ∧ Hx fo = some (.lst ((List.replicate T'.length begin).map V.int)) ∧ PoolAt Hx p ∧ Exc p H Hx) (fun R hR => ?_) ?_
  · walk_at "rd"
    exact ⟨Nat.zero_le _, fun ra hra => hR _ _ ⟨ra, rfl, P1.ne hra, (fun z => by rw [z, hfo] at hra; cases hra), e1.free (P1.ne hra) hra, TupsAt.nil upd_same, ((Same.refl H1).upd hra) _ _ hfo, P1.upd hra, e1.same ((Same.refl H1).upd hra)⟩⟩
  clear P1 e1 hfo H1
  rintro σ H1 ⟨ra, rfl, nrp, nrf, zra, hra, hfo, P1, e1⟩
  refine seqR (fun σ Hx => ∃ (v6 : Option V), σ = [some (.ref p), some (.ref t), some (.int rise), some (.int begin), some (.ref fo), some (.ref ra), v6, none, none, none] ∧ TupsAt Hx ra ((List.range T'.length).map (rankF T')) ∧ Hx fo = some (.lst ((List.replicate T'.length begin).map V.int)) ∧ PoolAt Hx p ∧ Exc p H Hx) (fun R hR => ?_) ?_
  · walk_at "rd"
    refine ⟨_, .inr (SqT.of (e1 _ _ ntp ht)), by omega, by rw [eL]; omega, ?_⟩
    rw [eL, Int.toNat_natCast]
    refine for_range (fun i σ Hx => ∃ (v6 : Option V), σ = [some (.ref p), some (.ref t), some (.int rise), some (.int begin), some (.ref fo), some (.ref ra), v6, none, none, none] ∧ TupsAt Hx ra ((List.range i).map (rankF T')) ∧ Hx fo = some (.lst ((List.replicate T'.length begin).map V.int)) ∧ PoolAt Hx p ∧ Exc p H Hx) ⟨none, rfl, hra, hfo, P1, e1⟩ ?_ ?_
    · rintro i σ Hx hi ⟨v6, rfl, hxr, hxf, Px, ex⟩
      have ei : ((0 : Int) + (i : Int)) = (i : Int) := by omega
      rw [ei]
      walk_at "rd"
      obtain ⟨as, t1, t2, t3⟩ := id hxr
      refine ⟨tyV_list t1, t, T', i, rfl, ex _ _ ntp ht, by omega, by omega, fun g w H2 hw s2 h2 => ?_, fun g => absurd ⟨ns, hT⟩ g⟩
      have ew : ((wayI T' i).map V.int).length = (way T' i).length := by rw [List.length_map, wayI_way, List.length_map]
      refine ⟨w, rfl, _, .inl (SqL.of h2), by decide, fun q1 hq1 => ?_⟩
      rw [ew]
      have g1 := s2.upd' (o := .tup [V.int ((way T' i).length : Nat), V.int (i : Int)]) hq1
      have lr : ((List.range i).map (rankF T')).length = i := by simp
      refine ⟨_, g1 _ _ t1, Nat.lt_of_le_of_lt (show _ ≤ 2000 by rw [List.length_map]; omega) (by decide), ?_, ?_, (Px.same g1).updN nrp, (ex.same g1).updN zra⟩
      · rw [List.range_succ, List.map_append]
        exact TupsAt.push (r := rankF T' i) (g1 _ _ t1) t2 (fun j j1 j2 => g1 _ _ (t3 j j1 j2)) upd_same
      · rw [upd_ne nrf.symm]; exact g1 _ _ hxf
    · rintro σ Hx ⟨v6, rfl, hxr, hxf, Px, ex⟩
      exact hR _ _ ⟨v6, rfl, hxr, hxf, Px, ex⟩
  clear P1 e1 hfo hra H1
  rintro σ H1 ⟨v6, rfl, hra, hfo, P1, e1⟩
  walk_at "rd"
  refine ⟨_, hra, ?_, by simp; omega, fun rs' l H2 hperm hpw zl s2 hl => ?_⟩
  · intro r hr'
    obtain ⟨q, hq, rfl⟩ := List.mem_map.mp hr'
    have := List.mem_range.mp hq
    exact ⟨_, _, rfl, by omega, by omega⟩
  obtain ⟨os, ho, rfl, hos⟩ := rank_order (by omega) hperm hpw
  have nlp : l ≠ p := P1.ne zl
  have nlf : l ≠ fo := fun z => by rw [z, hfo] at zl; cases zl
  have lo : os.length = T'.length := by simpa using ho.length_eq
  have hlt : ∀ i, i < os.length → os.getD i 0 < T'.length := fun i hi => by
    rw [show os.getD i 0 = os[i] by simp [hi]]
    exact List.mem_range.mp (ho.mem_iff.mp (List.getElem_mem hi))
  have lm : (os.map (rankF T')).length = T'.length := by rw [List.length_map, lo]
  refine ⟨hl.sq, ?_⟩
  refine for_it (n := T'.length) (fun j σ Hx => ∃ (fs : List Int) (v6 v7 v8 v9 : Option V), σ = [some (.ref p), some (.ref t), some (.int rise), some (.int begin), some (.ref fo), some (.ref ra), v6, v7, v8, v9] ∧ fs.length = T'.length ∧ Hx fo = some (.lst (fs.map V.int)) ∧ TupsAt Hx l (os.map (rankF T')) ∧ (∀ i, i < j → ∀ q : Nat, nth T' (os.getD i 0) = q → nth fs q + (if os.getD i 0 < q then 1 else 0) ≤ nth fs (os.getD i 0)) ∧ PoolAt Hx p ∧ Exc p H Hx) ⟨_, v6, none, none, none, rfl, List.length_replicate .., s2 _ _ hfo, hl, (fun i hi => by omega), P1.same s2, e1.same s2⟩ (fun j σ Hx hj ⟨_, _, _, _, _, _, _, _, hx, _⟩ => (hx.walk (K := K)).1 j Hx (Same.refl _) (by rw [lm]; exact hj)) (fun σ Hx ⟨_, _, _, _, _, _, _, _, hx, _⟩ => lm ▸ (hx.walk (K := K)).2.1 Hx (Same.refl _)) ?_ ?_
  · rintro j x σ Hx Hx' hj ⟨fs, v6, v7, v8, v9, rfl, hfl, hxf, hxl, hF, Px, ex⟩ y
    obtain ⟨rfl, a, rfl, ha⟩ := (hxl.walk (K := K)).2.2 j x Hx Hx' (by rw [lm]; exact hj) (Same.refl _) y
    have ej : (os.map (rankF T'))[j]'(by rw [lm]; exact hj) = rankF T' (os.getD j 0) := by
      rw [List.getElem_map]; congr 1; simp [show j < os.length by omega]
    rw [ej] at ha
    have hq0 := hlt j (by omega)
    have hF2 : ∀ i, i < j → os.getD i 0 ≠ os.getD j 0 ∧ (way T' (os.getD i 0)).length ≤ (way T' (os.getD j 0)).length := fun i hi => hos i j hi (by omega)
    have hl2 : ∀ i, i < j → os.getD i 0 < T'.length := fun i hi => hlt i (by omega)
    generalize hj0 : os.getD j 0 = q0 at ha hq0 hF2
    refine ⟨a, _, rfl, SqT.of ha, rfl, _, _, rfl, _, _, rfl, rfl, ?_⟩
    have htx := ex _ _ ntp ht
    walk_at "rd"
    refine ⟨_, SqT.of htx, _, nth_at hq0, _, rfl, ?_⟩
    rcases elder_cases hT (show q0 < ns.length by omega) with z | ⟨e, z, he, hO, _⟩
    · rw [z]
      refine ite2 (fun y => absurd y (by omega)) fun _ => ⟨fs, hfl, hxf, hxl, fun i hi q e => ?_, Px, ex⟩
      by_cases ei : i = j
      · rw [ei, hj0, z] at e; omega
      · exact hF i (by omega) q e
    · rw [z]
      have neq : e ≠ q0 := hO.ne
      refine ite2 (fun _ => ⟨_, _, rfl, SqL.of hxf, _, nth_at (show e < fs.length by omega), _, rfl, _, rfl, p, rise, rfl, by omega, by omega, Px, fun u H4 u0 u1 P4 e4 => ⟨_, rfl, _, e4 _ _ nfp hxf, q0, ?_, ?_⟩⟩) fun y => absurd (by omega) y
      · rw [List.length_map]; exact ixN_nat (by omega)
      rw [← List.map_set]
      have hx4 := e4 _ _ nfp hxf
      refine ⟨fs.set q0 (nth fs e + (if (q0 : Int) < (e : Int) then 1 else 0) + u), by simp [hfl], upd_same, (hxl.exc e4 Px nlp).updL hx4 nlf, fun i hi q eq => ?_, P4.updN nfp, (ex.trans e4).updN zf⟩
      have setn : ∀ r, r < fs.length → nth (fs.set q0 (nth fs e + (if (q0 : Int) < (e : Int) then 1 else 0) + u)) r = if q0 = r then nth fs e + (if (q0 : Int) < (e : Int) then 1 else 0) + u else nth fs r := fun r hr' => getD_set _ _ _ _ hr'
      by_cases ei : i = j
      · rw [ei, hj0, z] at eq
        have : q = e := by omega
        subst this
        rw [ei, hj0, setn q (by omega), setn q0 (by omega), if_neg neq.symm, if_pos rfl]
        by_cases y : q0 < q
        · rw [if_pos y, if_pos (by omega)]; omega
        · rw [if_neg y, if_neg (by omega)]; omega
      · have hij : i < j := by omega
        obtain ⟨n1, n2⟩ := hF2 i hij
        have hli := hl2 i hij
        have old := hF i hij q eq
        generalize os.getD i 0 = p0 at *
        rcases elder_cases hT (show p0 < ns.length by omega) with z' | ⟨e', z', he', _⟩
        · rw [z'] at eq; omega
        have : q = e' := by rw [z'] at eq; omega
        subst this
        have hw := way_cons hT (show p0 < ns.length by omega) z'
        rw [hw, List.length_cons] at n2
        have nq : q0 ≠ q := fun y => by subst y; omega
        rw [setn q (by omega), setn p0 (by omega), if_neg nq, if_neg (show ¬ q0 = p0 from fun y => n1 y.symm)]
        exact old
  · rintro σ Hx ⟨fs, v6, v7, v8, v9, rfl, hfl, hxf, hxl, hF, Px, ex⟩
    walk_at "rd"
    refine ⟨_, .inl ⟨SqL.of hxf, fun u hu => k1 u fs _ (ex.free (Px.ne hu) hu) (kin_tree hT hfl fun p q hp e => ?_) upd_same (Px.upd hu) (ex.same ((Same.refl Hx).upd hu))⟩⟩
    obtain ⟨i, hi, e2⟩ := List.getElem_of_mem (ho.mem_iff.mpr (List.mem_range.mpr hp))
    have e3 : os.getD i 0 = p := by simp [hi, e2]
    have := hF i (by omega) q (by rw [e3]; exact e)
    rwa [e3] at this

theorem nthV {ns : List Int} {i : Nat} (h : i < ns.length) : (ns.map V.int)[i]? = some (V.int (nth ns i)) := by
  unfold nth
  rw [List.getElem?_map, List.getElem?_eq_getElem h, List.getD_eq_getElem?_getD, List.getElem?_eq_getElem h]; rfl
theorem hgt_len (F ns : List Int) : (hgt F ns).length = F.length := by unfold hgt; simp
theorem hgt_nth {F ns : List Int} {i : Nat} (h : i < F.length) : nth (hgt F ns) i = nth ns i - nth F i := by
  show List.getD ((List.range F.length).map fun i => nth ns i - nth F i) i 0 = _
  rw [List.getD_eq_getElem?_getD, List.getElem?_map, List.getElem?_range h]; rfl

theorem ok_heights_of {f : Addr} {fd : FuncData} (F : Fun K "heights_of" "heights_of" s_heights_of f fd)  (T : Txt K mg) : FnOk P w K mg base (CXE P w) 1 f fd ["flat", "row"] (sp_heights_of K mg) := by
  refine F.okX sc_heights_of (fun vs H Q E h => ?_) (fun cdv A outer s H vs Q E hr h => ?_)
  · obtain ⟨f, r, F, ns, rfl, _⟩ := h; rfl
  obtain ⟨f, r, Fl, ns, rfl, hf, hr1, hF, hn, k1, k2⟩ := h
  refine ⟨_, (pss_cons (ps_if (pt_cmpR op_ne (pe_callB (call_lenK (K := K) rfl) rfl T.b_len PySem.boot_len (pa_cons (pv 1) pa_nil)) (pe_callB (call_lenK (K := K) rfl) rfl T.b_len PySem.boot_len (pa_cons (pv 0) pa_nil)) (nomark _)) (pss_one (ps_raise rfl rfl T.c_Unlike T.x_Unlike (pa_cons (pe_joined (pj_text (by decide) (pj_int (pe_callB (call_lenK (K := K) rfl) rfl T.b_len PySem.boot_len (pa_cons (pv 1) pa_nil)) (pj_text (by decide) (pj_int (pe_callB (call_lenK (K := K) rfl) rfl T.b_len PySem.boot_len (pa_cons (pv 0) pa_nil)) (pj_text (by decide) pj_nil)))))) pa_nil) raisesE)) pss_nil)
      (pss_one (ps_ret (pe_comp ["number", "least"] [none, none] rfl rfl rfl (pi_zipQ (K := K) rfl rfl T.b_zip (pa_cons (pv 1) (pa_cons (pv 0) pa_nil))) (fun _ _ _ _ _ => (pg_tupK (K := K) (n := 2) rfl rfl (pgs_cons (pg_name (i := 0) (show (["number", "least"] : List Str).Nodup from by decide +kernel) rfl (Or.inl rfl)) (pgs_cons (pg_name (i := 1) (show (["number", "least"] : List Str).Nodup from by decide +kernel) rfl (Or.inl rfl)) pgs_nil)))) (fun _ _ _ _ _ => pifs_nil) (fun _ _ _ _ _ => (pe_op op_sub (pv 0) (pv 1))) (only_tup (only_cons only_name (only_cons only_name only_nil))))))), ?_⟩
  walk_at "rd"
  have ef : (Fl.map V.int).length = Fl.length := List.length_map ..
  have en : (ns.map V.int).length = ns.length := List.length_map ..
  refine ⟨_, hr1, _, .inr (SqT.of hf), ite2 (fun c => ?_) (fun c => ?_)⟩
  · exact ⟨_, hr1, by omega, Int.lt_trans (show _ < (2000 : Int) by omega) (by decide), _, .inr (SqT.of hf), by omega, Int.lt_trans (show _ < (2000 : Int) by omega) (by decide), fun y => ⟨by decide, k2 (fun z => c (by omega)) H (Same.refl H)⟩⟩
  have e : ns.length = Fl.length := by
    have := Decidable.not_not.mp c
    omega
  obtain ⟨tg, hB⟩ := SqB.of hr1
  obtain ⟨tu, hB2⟩ := SqB.of (K := K) (H := H) (a := f) (xs := Fl.map V.int) (.inr (SqT.of hf))
  refine ⟨tg, tu, _, hB, _, hB2, ?_⟩
  refine comp_map (n := Fl.length) (fun i => V.int (nth ns i - nth Fl i)) (Nat.lt_of_le_of_lt hF (by decide)) (fun i Hx s hi => ⟨_, _, _, _, s.seqB hB, s.seqB hB2, nthV (by omega), nthV hi⟩) (fun Hx s => ⟨_, _, s.seqB hB, s.seqB hB2, .inl (by omega)⟩) ?_ ?_
  · rintro i x Hx Hy hi s ⟨q, x, y, hq, rfl, rfl, hx, hy⟩
    have ex := hx _ (s.seqB hB)
    have ey := hy _ (s.seqB hB2)
    rw [nthV (by omega)] at ex
    rw [nthV hi] at ey
    cases ex; cases ey
    walk_at "rd"
    exact ⟨_, SqT.of upd_same, rfl, _, _, rfl, _, _, rfl, rfl, _, rfl, _, rfl, CW.next hi rfl (s.upd' hq)⟩
  · intro l Hx s hl
    have := k1 e l (upd Hx l (.lst ((hgt Fl ns).map V.int))) (s.free hl) (s.upd' hl) upd_same
    unfold hgt at this
    rw [List.map_map] at this
    exact this
theorem wayI_mem {T : List Int} {p : Nat} {a : Int} (h : a ∈ wayI T p) : 0 ≤ a ∧ a < T.length := by
  have key : ∀ k x, ∀ o ∈ wayF T k x, o < T.length := by
    intro k
    induction k with
    | zero => intro x o ho; cases ho
    | succ k ih =>
      intro x o ho
      rw [wayF] at ho
      split at ho
      · rcases List.mem_cons.mp ho with z | z
        · omega
        · exact ih _ o z
      · cases ho
  obtain ⟨o, ho, rfl⟩ := List.mem_map.mp h
  have := key _ _ o ho
  omega
theorem wayI_len {T : List Int} {p : Nat} : (wayI T p).length ≤ T.length := by
  unfold wayI
  rw [List.length_map]
  exact wayF_len _ _ _
def pairsF (T hs : List Int) (b : Nat) : List (List Int) := ((wayI T b).filter fun a => decide (nth hs b < nth hs a.toNat)).map fun a => [a, (b : Int)]
def pairsJ (T hs : List Int) (i j : Nat) : List (List Int) := (List.range i).flatMap (pairsF T hs) ++ (((wayI T i).take j).filter fun a => decide (nth hs i < nth hs a.toNat)).map fun a => [a, (i : Int)]
theorem pairs_len (T hs : List Int) : ∀ i, ((List.range i).flatMap (pairsF T hs)).length ≤ i * T.length
  | 0 => by simp
  | i + 1 => by
    have := pairs_len T hs i
    have h2 : (pairsF T hs i).length ≤ T.length := by
      unfold pairsF
      rw [List.length_map]
      exact Nat.le_trans (List.length_filter_le _ _) wayI_len
    rw [List.range_succ, List.flatMap_append, List.length_append, Nat.add_mul]
    simp only [List.flatMap_cons, List.flatMap_nil, List.append_nil, Nat.one_mul]
    omega
theorem pairs_mem {T hs r : List Int} {i : Nat} (h : r ∈ (List.range i).flatMap (pairsF T hs)) : ∃ (a : Int) (b : Nat), r = [a, (b : Int)] ∧ b < i ∧ a ∈ wayI T b ∧ nth hs b < nth hs a.toNat := by
  obtain ⟨b, hb, hr⟩ := List.mem_flatMap.mp h
  obtain ⟨a, ha, rfl⟩ := List.mem_map.mp hr
  have := List.mem_filter.mp ha
  exact ⟨a, b, rfl, List.mem_range.mp hb, this.1, by simpa using this.2⟩
theorem pairs_step {T hs : List Int} {i j : Nat} (hj : j < (wayI T i).length) : pairsJ T hs i (j + 1) = if nth hs i < nth hs (wayI T i)[j].toNat then pairsJ T hs i j ++ [[(wayI T i)[j], (i : Int)]] else pairsJ T hs i j := by
  unfold pairsJ
  rw [List.take_add_one, List.getElem?_eq_getElem hj, List.filter_append, List.map_append]
  by_cases c : nth hs i < nth hs (wayI T i)[j].toNat
  · rw [if_pos c]; simp [c]
  · rw [if_neg c]; simp [c]
theorem pairs_end {T hs : List Int} {i : Nat} : pairsJ T hs i (wayI T i).length = (List.range (i + 1)).flatMap (pairsF T hs) := by
  unfold pairsJ
  rw [List.take_length, List.range_succ, List.flatMap_append]
  simp [pairsF]
theorem pairsJ_len {T hs : List Int} {i j : Nat} : (pairsJ T hs i j).length ≤ (i + 1) * T.length := by
  unfold pairsJ
  have := pairs_len T hs i
  rw [List.length_append, List.length_map, Nat.add_mul, Nat.one_mul]
  have h3 : ((((wayI T i).take j).filter fun a => decide (nth hs i < nth hs a.toNat))).length ≤ T.length := Nat.le_trans (List.length_filter_le _ _) (Nat.le_trans (by rw [List.length_take]; exact Nat.min_le_right _ _) wayI_len)
  omega
theorem mul40 {i n : Nat} (h1 : i ≤ 41) (h2 : n ≤ 40) : i * n ≤ 2000 := Nat.le_trans (Nat.mul_le_mul h1 h2) (by decide)
/-- sorted pairs are one list -/
theorem sortP_one {T hs : List Int} {rs rs' : List (List Int)} (hn : T.length ≤ 40) (h1 : SortP rs (pairsU T hs)) (h2 : SortP rs' (pairsU T hs)) : rs = rs' := by
  refine sort_one (h1.1.trans h2.1.symm) h1.2 h2.2 fun x hx y hy e => ?_
  obtain ⟨a, b, rfl, hb, _⟩ := pairs_mem (show x ∈ (List.range T.length).flatMap (pairsF T hs) from (List.Perm.mem_iff h1.1).mp hx)
  obtain ⟨a', b', rfl, hb', _⟩ := pairs_mem (show y ∈ (List.range T.length).flatMap (pairsF T hs) from (List.Perm.mem_iff h1.1).mp hy)
  simp only [pairK, List.getD_cons_zero, List.getD_cons_succ] at e
  have e1 : a = a' := by omega
  have e2 : (b : Int) = b' := by omega
  rw [e1, e2]
def NearI (p t : Addr) (n : Nat) (way : Int) (H0 : Hp) (σ : L2.St) (Hx : Hp) : Prop := ∃ (r : Addr) (ns : List Int) (v5 v6 v7 : Option V), σ = [some (.ref p), some (.ref t), some (.int (n : Int)), some (.ref r), some (.int way), v5, v6, v7] ∧ H0 r = none ∧ ns.length = n ∧ Hx r = some (.lst (ns.map V.int)) ∧ PoolAt Hx p ∧ Exc p H0 Hx
theorem comp_pool {p : Addr} {n : Nat} {te : TE} {σ0 : L2.St} {Q : VK} {H1 : Hp} (hP : PoolAt H1 p) (hn : n ≤ 1000)
    (hb : ∀ (j : Nat) (Hz : Hp) (R : VK), j < n → PoolAt Hz p → (∀ (z : Int) H4, PoolAt H4 p → Exc p Hz H4 → R (V.int z) H4) → te (σ0.set 0 (some (V.int (0 + (j : Int))))) Hz R)
    (hk : ∀ (l : Addr) (bs : List Int) (Hz : Hp), bs.length = n → PoolAt Hz p → Exc p H1 Hz → Hz l = none → Q (.ref l) (upd Hz l (.lst (bs.map V.int)))) : CompR (Itr 0 n) (gName 0) tYes te σ0 Q H1 := by
  refine comp_inv (n := n) (fun j acc Hz => ∃ bs : List Int, acc = bs.map V.int ∧ bs.length = j ∧ PoolAt Hz p ∧ Exc p H1 Hz) (Nat.lt_of_le_of_lt hn (by decide)) ⟨[], rfl, rfl, hP, (Same.refl H1).toExc⟩ (fun j acc Hz _ hj => hj) (fun acc Hz _ => Nat.le_refl _) ?_ ?_
  · rintro j x acc Hz Hw hj hla ⟨bs, rfl, hbs, Pz, ez⟩ ⟨rfl, rfl⟩
    refine hb j Hw _ hj Pz fun z H4 P4 e4 => ?_
    exact CA.take hj hla ⟨bs ++ [z], by simp, by simp [hbs], P4, ez.trans e4⟩
  · rintro l acc Hz ⟨bs, rfl, hbs, Pz, ez⟩ _ zl
    exact hk l bs Hz hbs Pz ez zl
theorem cp57' : CPow 10 57 := by unfold CPow; decide
def ClI (t r u q : Addr) (H0 : Hp) (F : List Int) (rs : List (List Int)) (σ : L2.St) (Hx : Hp) : Prop := ∃ (v4 v5 : Option V), σ = [some (.ref t), some (.ref r), some (.ref u), some (.ref q), v4, v5] ∧ TupsAt Hx q rs ∧ Same H0 Hx ∧ Hx u = some (.tup (F.map V.int))
theorem sortP_len {T hs : List Int} {rs : List (List Int)} (hn : T.length ≤ 40) (h : SortP rs (pairsU T hs)) : rs.length ≤ 2000 := by
  have e1 := h.1.length_eq
  have e2 : (pairsU T hs).length ≤ T.length * T.length := pairs_len T hs T.length
  have := mul40 (i := T.length) (by omega) hn
  omega

theorem ok_higher_pairs {f : Addr} {fd : FuncData} (F : Fun K "higher_pairs" "higher_pairs" s_higher_pairs f fd) (G_way_up : Callee P w K mg base "way_up" 1 ["tree", "place"] (sp_way_up K mg)) (T : Txt K mg) : FnOk P w K mg base (CXE P w) 2 f fd ["tree", "heights"] (sp_higher_pairs K mg) := by
  refine F.okX sc_higher_pairs (fun vs H Q E h => ?_) (fun cdv A outer s H vs Q E hr h => ?_)
  · obtain ⟨t, h, T, hs, rfl, _⟩ := h; rfl
  obtain ⟨t, h, T', hs, rfl, ht, hh, hn, hl, k1⟩ := h
  refine ⟨_, (pss_cons (ps_setC2 (i := 2) ["b", "a", "heights", "tree"] [none, none, some 1, some 0] sc_higher_pairs.nd rfl (Or.inl rfl) rfl rfl rfl (pi_range1 rfl T.b_range (pa_cons (pe_callB (call_lenK (K := K) rfl) rfl T.b_len PySem.boot_len (pa_cons (pv 0) pa_nil)) pa_nil)) (fun _ _ _ _ _ => (pg_name (i := 0) (show (["b", "a", "heights", "tree"] : List Str).Nodup from by decide +kernel) rfl (Or.inl rfl))) (fun _ _ _ _ _ => pifs_nil) (fun _ _ _ _ _ => (pi_listK (K := K) rfl (pe_callF G_way_up (hr.mono (by decide)) rfl passE (pa_cons (pv 3) (pa_cons (pv 0) pa_nil))))) (fun _ _ _ _ _ => (pg_name (i := 1) (show (["b", "a", "heights", "tree"] : List Str).Nodup from by decide +kernel) rfl (Or.inl rfl))) (fun _ _ _ _ _ => pifs_one (pt_cmpR op_gt (pe_ix (r := rIxL K) ix_list (pv 2) (pv 1) (fun _ _ => rfl)) (pe_ix (r := rIxL K) ix_list (pv 2) (pv 0) (fun _ _ => rfl)) (nomark _))) (fun _ _ _ _ _ => (pe_tup (pa_cons (pv 1) (pa_cons (pv 0) pa_nil)))) only_name only_name)
      (pss_one (ps_ret (pe_callB (call_sortedTB (K := K) rfl) rfl T.b_sorted bt_sorted (pa_cons (pv 2) pa_nil))))), ?_⟩
  walk_at "rd"
  have eL : (T'.map V.int).length = T'.length := List.length_map ..
  refine ⟨_, .inr (SqT.of ht), by omega, by rw [eL]; omega, ?_⟩
  rw [eL, Int.toNat_natCast]
  refine comp2_tups T'.length (fun i => (List.range i).flatMap (pairsF T' hs)) rfl (fun i hi => Nat.le_trans (pairs_len T' hs i) (Nat.le_trans (mul40 (by omega) hn) (by decide))) (fun i Hx s hi => hi) (fun Hx s => Nat.le_refl _) ?_ ?_
  · rintro i x acc Hx Hy hi tv s ⟨rfl, rfl⟩
    have ei : ((0 : Int) + (i : Int)) = (i : Int) := by omega
    rw [ei]
    walk_at "rd"
    refine ⟨t, T', i, rfl, .inr (SqT.of (s _ _ ht)), by omega, hi, fun w H2 zw s2 hw => ⟨w, rfl, ⟨_, SqL.of hw⟩, ?_⟩⟩
    refine comp2_in (wayI T' i).length (pairsJ T' hs i) (by unfold pairsJ; simpa using tv.same s2) (fun j hj => Nat.le_trans pairsJ_len (Nat.le_trans (mul40 (by omega) hn) (by decide))) (fun j Hz sz hj => ⟨_, _, SqL.of (sz _ _ hw), List.getElem?_eq_getElem (by simpa using hj)⟩) (fun Hz sz => ⟨_, SqL.of (sz _ _ hw), by simp⟩) ?_ ?_
    · rintro j x acc2 H5 H6 hj t5 s5 ⟨rfl, hx⟩
      have ex := hx _ (SqL.of (s5 _ _ hw))
      rw [List.getElem?_map, List.getElem?_eq_getElem hj] at ex
      cases ex
      have hm := wayI_mem (List.getElem_mem hj)
      have hh5 : H6 h = some (.lst (hs.map V.int)) := (s.trans (s2.trans s5)) _ _ hh
      have ea : ((wayI T' i)[j] : Int) = (((wayI T' i)[j].toNat : Nat) : Int) := by omega
      walk_at "rd"
      refine ⟨_, SqL.of hh5, _, (congrArg (atI _) ea).trans (nth_at (by omega)), _, SqL.of hh5, _, nth_at (by omega), ?_⟩
      refine ⟨_, rfl, _, rfl, ite2 (fun c => ⟨by decide, fun p hp => C2W.next hj ?_ (s5.upd' hp)⟩) (fun c => C2W.next hj ?_ s5)⟩
      · rw [pairs_step hj, if_pos c]; exact (t5.same ((Same.refl _).upd hp)).snoc upd_same
      · rw [pairs_step hj, if_neg c]; exact t5
    · intro acc2 H5 t5 s5
      rw [pairs_end] at t5
      exact C2W.next hi t5 (s.trans (s2.trans s5))
  · intro l acc H' s' hl' tv
    refine ⟨l, rfl, _, tv.at hl', fun r hr => ?_, Nat.le_trans (pairs_len T' hs _) (Nat.le_trans (mul40 (by omega) hn) (by decide)), fun rs' l2 H2 p1 p2 z2 s2 t2 => k1 l2 rs' H2 ((s'.upd' hl').free z2) ((s'.upd' hl').trans s2) t2 ⟨p1, p2⟩⟩
    obtain ⟨a, b, rfl, hb, _⟩ := pairs_mem hr
    exact ⟨a, b, rfl, by omega, by omega⟩
theorem ok_clashing {f : Addr} {fd : FuncData} (F : Fun K "clashing" "clashing" s_clashing f fd) (G_flattest : Callee P w K mg base "flattest" 5 ["tree"] (sp_flattest K mg)) (G_heights_of : Callee P w K mg base "heights_of" 1 ["flat", "row"] (sp_heights_of K mg)) (G_higher_pairs : Callee P w K mg base "higher_pairs" 2 ["tree", "heights"] (sp_higher_pairs K mg)) (T : Txt K mg) : FnOk P w K mg base (CXE P w) 6 f fd ["tree", "row"] (sp_clashing K mg) := by
  refine F.okX sc_clashing (fun vs H Q E h => ?_) (fun cdv A outer s H vs Q E hr h => ?_)
  · obtain ⟨t, r, T, ns, rfl, _⟩ := h; rfl
  obtain ⟨t, r, T', ns, rfl, ht, hr1, hG, hl, k1⟩ := h
  refine ⟨_, (pss_one (ps_ret (pe_callF G_higher_pairs (hr.mono (by decide)) rfl passE (pa_cons (pv 0) (pa_cons (pe_callF G_heights_of (hr.mono (by decide)) rfl pass_on (pa_cons (pe_callF G_flattest (hr.mono (by decide)) rfl pass_on (pa_cons (pv 0) pa_nil)) (pa_cons (pv 1) pa_nil))) pa_nil))))), ?_⟩
  walk_at "rd"
  have hn := hG.1
  have eF : (flatI T').length = T'.length := by simp [flatI]
  have eH : (hgt (flatI T') ns).length = T'.length := by simp [hgt, eF]
  refine ⟨t, T', rfl, ht, by omega, fun _ f H1 s1 hf => ⟨f, r, flatI T', ns, rfl, hf, hr1.elim (fun z => .inl (s1.seq z)) (fun z => .inr (s1.seqT z)), by omega, by omega, fun _ l H2 zl s2 hl2 => ⟨t, l, T', _, rfl, s2 _ _ (s1 _ _ ht), hl2, hn, eH, fun l2 rs H3 z3 s3 t3 p3 => k1 l2 rs H3 (s1.free (s2.free z3)) (s1.trans (s2.trans s3)) t3 p3⟩, fun z => absurd (hl.trans eF.symm) z⟩, fun g => absurd hG g⟩
theorem ok__law_near_row {f : Addr} {fd : FuncData} (F : Fun K "_law_near_row" "_law_near_row" s__law_near_row f fd) (G__law_pick : Callee P w K mg base "_law_pick" 1 ["pool", "many"] (sp__law_pick K mg)) (G__law_kin_row : Callee P w K mg base "_law_kin_row" 2 ["pool", "tree"] (sp__law_kin_row K mg)) (T : Txt K mg) : FnOk P w K mg base (CXE P w) 3 f fd ["pool", "tree"] (sp__law_near_row K mg) := by
  refine F.okX sc__law_near_row (fun vs H Q E h => ?_) (fun cdv A outer s H vs Q E hr h => ?_)
  · obtain ⟨p, t, T, rfl, _⟩ := h; rfl
  obtain ⟨p, t, T', rfl, hP, ht, hn, hT, k1⟩ := h
  refine ⟨_, (pss_cons (ps_set (i := 2) sc__law_near_row.nd rfl (Or.inr rfl) (pe_callB (call_lenK (K := K) rfl) rfl T.b_len PySem.boot_len (pa_cons (pv 1) pa_nil)))
      (pss_cons (ps_set (i := 3) sc__law_near_row.nd rfl (Or.inl rfl) (pe_callTy (call_listK (K := K) rfl) rfl T.b_list bt_list (pa_cons (pe_callF G__law_kin_row (hr.mono (by decide)) rfl passE (pa_cons (pv 0) (pa_cons (pv 1) pa_nil))) pa_nil)))
      (pss_cons (ps_set (i := 4) sc__law_near_row.nd rfl (Or.inl rfl) (pe_callF G__law_pick (hr.mono (by decide)) rfl passE (pa_cons (pv 0) (pa_cons pe_int pa_nil))))
      (pss_cons (ps_nox (ps_for PassesOwn.never rfl (pi_range1 rfl T.b_range (pa_cons (pe_ix ix_list (pe_lst (pa_cons pe_int (pa_cons (pe_callF G__law_pick (hr.mono (by decide)) rfl passE (pa_cons (pv 0) (pa_cons pe_int pa_nil))) (pa_cons (pe_callF G__law_pick (hr.mono (by decide)) rfl passE (pa_cons (pv 0) (pa_cons (pe_op op_add (pv 2) pe_int) pa_nil))) pa_nil)))) (pe_callF G__law_pick (hr.mono (by decide)) rfl passE (pa_cons (pv 0) (pa_cons pe_int pa_nil))) (fun _ _ => rfl)) pa_nil)) (pg_name (i := 5) sc__law_near_row.nd rfl (Or.inl rfl)) (pss_one (ps_if (pt_cmpR op_gt (pv 2) pe_int (nomark _)) (pss_cons (ps_set (i := 6) sc__law_near_row.nd rfl (Or.inl rfl) (pe_callF G__law_pick (hr.mono (by decide)) rfl passE (pa_cons (pv 0) (pa_cons (pv 2) pa_nil))))
      (pss_one (ps_asg (pe_op op_add (pe_ix ix_list (pv 3) (pv 6) (fun _ _ => rfl)) (pe_op op_mulX (pe_op op_sub (pe_callF G__law_pick (hr.mono (by decide)) rfl passE (pa_cons (pv 0) (pa_cons pe_int pa_nil))) pe_int) (pe_ix ix_tup (pe_tup (pa_cons pe_int (pa_cons pe_int (pa_cons pe_int (pa_cons (pe_op op_pow pe_int pe_int) pa_nil))))) (pe_callF G__law_pick (hr.mono (by decide)) rfl passE (pa_cons (pv 0) (pa_cons pe_int pa_nil))) (fun _ _ => rfl)))) (pg_sub (pv 3) (pv 6) set_list (fun _ => rfl))))) pss_nil))))
      (pss_cons (ps_if (pt_cmpR op_eq (pv 4) pe_int (nomark _)) (pss_one (ps_setC (i := 3) ["place", "pool"] [none, some 0] sc__law_near_row.nd rfl (Or.inl rfl) rfl rfl rfl (pi_range1 rfl T.b_range (pa_cons (pv 2) pa_nil)) (fun _ _ _ _ _ => (pg_name (i := 0) (show (["place", "pool"] : List Str).Nodup from by decide +kernel) rfl (Or.inl rfl))) (fun _ _ _ _ _ => pifs_nil) (fun _ _ _ _ _ => (pe_callF G__law_pick (hr.mono (by decide)) rfl passE (pa_cons (pv 1) (pa_cons pe_int pa_nil)))) only_name)) pss_nil)
      (pss_cons (ps_if (pt_cmpR op_eq (pv 4) pe_int (nomark _)) (pss_one (ps_setC (i := 3) ["place", "pool", "many"] [none, some 0, some 2] sc__law_near_row.nd rfl (Or.inl rfl) rfl rfl rfl (pi_range1 rfl T.b_range (pa_cons (pv 2) pa_nil)) (fun _ _ _ _ _ => (pg_name (i := 0) (show (["place", "pool", "many"] : List Str).Nodup from by decide +kernel) rfl (Or.inl rfl))) (fun _ _ _ _ _ => pifs_nil) (fun _ _ _ _ _ => (pe_op op_sub (pe_callF G__law_pick (hr.mono (by decide)) rfl passE (pa_cons (pv 1) (pa_cons (pe_op op_add (pv 2) pe_int) pa_nil))) pe_int)) only_name)) pss_nil)
      (pss_cons (ps_if (pt_cmpR op_eq (pv 4) pe_int (nomark _)) (pss_cons (ps_set (i := 7) sc__law_near_row.nd rfl (Or.inr rfl) (pe_op op_sub pe_int (pe_op op_mulX pe_int (pe_callF G__law_pick (hr.mono (by decide)) rfl passE (pa_cons (pv 0) (pa_cons pe_int pa_nil))))))
      (pss_one (ps_setC (i := 3) ["place", "turned", "pool"] [none, some 7, some 0] sc__law_near_row.nd rfl (Or.inl rfl) rfl rfl rfl (pi_range1 rfl T.b_range (pa_cons (pv 2) pa_nil)) (fun _ _ _ _ _ => (pg_name (i := 0) (show (["place", "turned", "pool"] : List Str).Nodup from by decide +kernel) rfl (Or.inl rfl))) (fun _ _ _ _ _ => pifs_nil) (fun _ _ _ _ _ => (pe_op op_fdiv (pe_op op_mulX (pv 1) (pv 0)) (pe_op op_add pe_int (pe_callF G__law_pick (hr.mono (by decide)) rfl passE (pa_cons (pv 2) (pa_cons pe_int pa_nil)))))) only_name))) pss_nil)
      (pss_one (ps_ret (pe_callTy (call_tupK (K := K) rfl) rfl T.b_tuple bt_tuple (pa_cons (pv 3) pa_nil))))))))))), ?_⟩
  have eL : (T'.map V.int).length = T'.length := List.length_map ..
  refine seqR (fun σ Hx => σ = [some (.ref p), some (.ref t), some (.int (T'.length : Int)), none, none, none, none, none] ∧ Hx = H) (fun R hR => ?_) ?_
  · walk_at "rd"
    exact ⟨_, .inr (SqT.of ht), hR _ _ ⟨by rw [eL], rfl⟩⟩
  rintro σ H0 ⟨rfl, rfl⟩
  refine seqR (fun σ Hx => ∃ (r : Addr) (ns : List Int), σ = [some (.ref p), some (.ref t), some (.int (T'.length : Int)), some (.ref r), none, none, none, none] ∧ H0 r = none ∧ ns.length = T'.length ∧ Hx r = some (.lst (ns.map V.int)) ∧ PoolAt Hx p ∧ Exc p H0 Hx) (fun R hR => ?_) ?_
  · walk_at "rd"
    refine ⟨p, t, T', rfl, hP, ht, hn, hT, fun r ms H1 zr hT1 hr1 P1 e1 => ⟨r, rfl, _, .inr (SqT.of hr1), fun l zl => hR _ _ ⟨l, ms, rfl, e1.free (P1.ne zl) zl, hT1.1.symm, upd_same, P1.upd zl, e1.same ((Same.refl H1).upd zl)⟩⟩⟩
  rintro σ H1 ⟨r, ns, rfl, zr, hns, hr1, P1, e1⟩
  refine seqR (fun σ Hx => ∃ (way : Int), σ = [some (.ref p), some (.ref t), some (.int (T'.length : Int)), some (.ref r), some (.int way), none, none, none] ∧ Hx r = some (.lst (ns.map V.int)) ∧ PoolAt Hx p ∧ Exc p H0 Hx) (fun R hR => ?_) ?_
  · walk_at "rd"
    exact ⟨p, _, rfl, by decide, by decide, P1, fun d H2 d0 d1 P2 e2 => hR _ _ ⟨d, rfl, e2 _ _ (hP.ne zr) hr1, P2, e1.trans e2⟩⟩
  clear hr1 P1 e1 H1
  rintro σ H1 ⟨way, rfl, hr1, P1, e1⟩
  refine seqR (NearI p t T'.length way H0) (fun R hR => ?_) ?_
  · walk_at "rd"
    have nrp : r ≠ p := hP.ne zr
    refine ⟨p, _, rfl, by decide, by decide, P1, fun d1 H2 _ _ P2 e2 => ⟨p, _, rfl, by omega, by omega, P2, fun d2 H3 _ _ P3 e3 => ⟨by decide, fun q hq => ⟨p, _, rfl, by decide, by decide, P3.upd hq, fun d3 H4 a0 a1 P4 e4 => ?_⟩⟩⟩⟩
    have hq4 := e4 _ _ (P3.ne hq) upd_same
    obtain ⟨v, hv, j, rfl, j0, j1⟩ := atI_all (xs := [V.int 0, V.int d1, V.int d2]) (i := d3) (fun v => ∃ n : Int, v = V.int n ∧ 0 ≤ n ∧ n < 100) a0 a1 (by
      intro x hx
      simp only [List.mem_cons, List.not_mem_nil, or_false] at hx
      rcases hx with rfl | rfl | rfl <;> exact ⟨_, rfl, by omega, by omega⟩)
    have s3 := (Same.refl H3).upd (o := .lst [V.int 0, V.int d1, V.int d2]) hq
    have e5 : Exc p H1 H4 := ((e2.trans e3).same s3).trans e4
    refine ⟨_, _, rfl, SqL.of hq4, _, hv, _, rfl, by omega, by omega, for_range (fun i σ Hx => NearI p t T'.length way H0 σ Hx) ⟨r, ns, none, none, none, rfl, zr, hns, e5 _ _ nrp hr1, P4, e1.trans e5⟩ ?_ ?_⟩
    · clear hr1 P1 e1 hns zr nrp e5 s3 e4 e3 e2 P4 P3 P2 hq4
      rintro i σ Hx hi ⟨r, ns, v5, v6, v7, rfl, zr, hns, hr1, P1, e1⟩
      have nrp : r ≠ p := hP.ne zr
      walk_at "rd"
      refine ite2 (fun c => ?_) fun _ => ⟨r, ns, _, v6, v7, rfl, zr, hns, hr1, P1, e1⟩
      refine ⟨p, _, rfl, by omega, by omega, P1, fun at_ H2 b0 b1 P2 e2 => ⟨_, at_, rfl, SqL.of (e2 _ _ nrp hr1), _, (congrArg (atI _) (Int.toNat_of_nonneg b0).symm).trans (nth_at (by omega)), p, _, rfl, by decide, by decide, P2, fun d H3 c0 c1 P3 e3 => ⟨d, rfl, cp57', by decide, fun q hq => ⟨p, _, rfl, by decide, by decide, P3.upd hq, fun u H4 u0 u1 P4 e4 => ?_⟩⟩⟩⟩
      have hq4 := e4 _ _ (P3.ne hq) upd_same
      obtain ⟨v, hv, z, rfl⟩ := atI_all (xs := [V.int 1, V.int 1, V.int 1, V.int (10 ^ Int.toNat 57)]) (i := u) (fun v => ∃ n : Int, v = V.int n) u0 u1 (by
        intro x hx
        simp only [List.mem_cons, List.not_mem_nil, or_false] at hx
        rcases hx with rfl | rfl | rfl | rfl <;> exact ⟨_, rfl⟩)
      have e5 : Exc p Hx H4 := ((e2.trans e3).same ((Same.refl H3).upd hq)).trans e4
      have hr4 := e5 _ _ nrp hr1
      refine ⟨_, u, rfl, SqT.of hq4, _, hv, z, rfl, mul_l (by omega) (by omega), _, rfl, _, _, rfl, hr4, at_.toNat, (congrArg (ixN _) (Int.toNat_of_nonneg b0).symm).trans (ixN_nat (by rw [List.length_map]; omega)), ?_⟩
      exact ⟨r, ns.set at_.toNat _, _, _, v7, rfl, zr, by simp [hns], by rw [upd_same, List.map_set], P4.updN nrp, (e1.trans e5).updN zr⟩
    · rintro σ Hx ⟨r, ns, v5, v6, v7, rfl, zr, hns, hr1, P1, e1⟩
      exact hR _ _ ⟨r, ns, v5, v6, v7, rfl, zr, hns, hr1, P1, e1⟩
  clear hr1 P1 e1 H1 zr hns
  rintro σ H1 ⟨r, ns, v5, v6, v7, rfl, zr, hns, hr1, P1, e1⟩
  refine seqR (NearI p t T'.length way H0) (fun R hR => ?_) ?_
  · walk_at "rd"
    refine ite2 (fun _ => ⟨by omega, by omega, ?_⟩) fun _ => hR _ _ ⟨r, ns, v5, v6, v7, rfl, zr, hns, hr1, P1, e1⟩
    rw [Int.toNat_natCast]
    refine comp_pool P1 (by omega) (fun j Hz R hj Pz hR2 => ?_) fun l bs Hz hbs Pz ez zl => hR _ _ ⟨l, bs, v5, v6, v7, rfl, (e1.trans ez).free (Pz.ne zl) zl, hbs, upd_same, Pz.upd zl, (e1.trans ez).same ((Same.refl Hz).upd zl)⟩
    walk_at "rd"
    exact ⟨p, _, rfl, by decide, by decide, Pz, fun z H4 z0 z1 P4 e4 => hR2 z H4 P4 e4⟩
  clear hr1 P1 e1 H1 zr hns
  rintro σ H1 ⟨r, ns, v5, v6, v7, rfl, zr, hns, hr1, P1, e1⟩
  refine seqR (NearI p t T'.length way H0) (fun R hR => ?_) ?_
  · walk_at "rd"
    refine ite2 (fun _ => ⟨by omega, by omega, ?_⟩) fun _ => hR _ _ ⟨r, ns, v5, v6, v7, rfl, zr, hns, hr1, P1, e1⟩
    rw [Int.toNat_natCast]
    refine comp_pool P1 (by omega) (fun j Hz R hj Pz hR2 => ?_) fun l bs Hz hbs Pz ez zl => hR _ _ ⟨l, bs, v5, v6, v7, rfl, (e1.trans ez).free (Pz.ne zl) zl, hbs, upd_same, Pz.upd zl, (e1.trans ez).same ((Same.refl Hz).upd zl)⟩
    walk_at "rd"
    exact ⟨p, _, rfl, by omega, by omega, Pz, fun z H4 z0 z1 P4 e4 => ⟨z, rfl, hR2 _ H4 P4 e4⟩⟩
  clear hr1 P1 e1 H1 zr hns
  rintro σ H1 ⟨r, ns, v5, v6, v7, rfl, zr, hns, hr1, P1, e1⟩
  refine seqR (NearI p t T'.length way H0) (fun R hR => ?_) ?_
  · walk_at "rd"
    refine ite2 (fun _ => ⟨p, _, rfl, by decide, by decide, P1, fun x H2 x0 x1 P2 e2 => ⟨x, rfl, mul_l (by omega) (by omega), by omega, by omega, ?_⟩⟩) fun _ => hR _ _ ⟨r, ns, v5, v6, v7, rfl, zr, hns, hr1, P1, e1⟩
    rw [Int.toNat_natCast]
    refine comp_pool P2 (by omega) (fun j Hz R hj Pz hR2 => ?_) fun l bs Hz hbs Pz ez zl => hR _ _ ⟨l, bs, v5, v6, _, rfl, (e1.trans (e2.trans ez)).free (Pz.ne zl) zl, hbs, upd_same, Pz.upd zl, (e1.trans (e2.trans ez)).same ((Same.refl Hz).upd zl)⟩
    walk_at "rd"
    refine ⟨mul_l (by omega) (by omega), p, _, rfl, by decide, by decide, Pz, fun z H4 z0 z1 P4 e4 => ⟨z, rfl, ⟨by omega, by omega⟩, hR2 _ H4 P4 e4⟩⟩
  clear hr1 P1 e1 H1 zr hns
  rintro σ H1 ⟨r, ns, v5, v6, v7, rfl, zr, hns, hr1, P1, e1⟩
  walk_at "rd"
  exact ⟨_, .inl ⟨SqL.of hr1, fun l zl => k1 l ns _ (e1.free (P1.ne zl) zl) hns upd_same (P1.upd zl) (e1.same ((Same.refl H1).upd zl))⟩⟩
theorem ok__law_clashes {f : Addr} {fd : FuncData} (F : Fun K "_law_clashes" "_law_clashes" s__law_clashes f fd) (G__law_over : Callee P w K mg base "_law_over" 1 ["tree", "place"] (sp__law_over K mg)) (G__law_flats : Callee P w K mg base "_law_flats" 2 ["tree"] (sp__law_flats K mg)) (T : Txt K mg) : FnOk P w K mg base (CXE P w) 3 f fd ["tree", "row"] (sp__law_clashes K mg) := by
  refine F.okX sc__law_clashes (fun vs H Q E h => ?_) (fun cdv A outer s H vs Q E hr h => ?_)
  · obtain ⟨t, r, T, ns, rfl, _⟩ := h; rfl
  obtain ⟨t, r, T', ns, rfl, ht, hr1, hn, hT, hl, k1⟩ := h
  refine ⟨_, (pss_cons (ps_set (i := 2) sc__law_clashes.nd rfl (Or.inl rfl) (pe_callF G__law_flats (hr.mono (by decide)) rfl passE (pa_cons (pv 0) pa_nil)))
      (pss_cons (ps_set (i := 3) sc__law_clashes.nd rfl (Or.inl rfl) (pe_lst pa_nil))
      (pss_cons (ps_nox (ps_for PassesOwn.never rfl (pi_range1 rfl T.b_range (pa_cons (pe_callB (call_lenK (K := K) rfl) rfl T.b_len PySem.boot_len (pa_cons (pv 0) pa_nil)) pa_nil)) (pg_name (i := 4) sc__law_clashes.nd rfl (Or.inl rfl)) (pss_one (ps_nox (ps_for PassesOwn.never rfl (pi_list (pe_callF G__law_over (hr.mono (by decide)) rfl passE (pa_cons (pv 0) (pa_cons (pv 4) pa_nil)))) (pg_name (i := 5) sc__law_clashes.nd rfl (Or.inl rfl)) (pss_one (ps_if (pt_cmpR op_gt (pe_op op_sub (pe_op op_add (pe_ix ix_tup (pv 1) (pv 5) (fun _ _ => rfl)) (pe_ix ix_tup (pv 2) (pv 4) (fun _ _ => rfl))) (pe_ix ix_tup (pv 2) (pv 5) (fun _ _ => rfl))) (pe_ix ix_tup (pv 1) (pv 4) (fun _ _ => rfl)) (nomark _)) (pss_one (ps_expr (pe_bm PySem.F.plainAttrs_list PySem.F.slot_list_append PySem.F.type_list_append mt_append (pv 3) (pa_cons (pe_tup (pa_cons (pv 5) (pa_cons (pv 4) pa_nil))) pa_nil)))) pss_nil)))))))
      (pss_one (ps_ret (pe_callB (call_sortedTB (K := K) rfl) rfl T.b_sorted bt_sorted (pa_cons (pv 3) pa_nil))))))), ?_⟩
  walk_at "rd"
  have eL : (T'.map V.int).length = T'.length := List.length_map ..
  have eF : (flatI T').length = T'.length := by simp [flatI]
  have enh : ∀ i, i < T'.length → nth (hgt (flatI T') ns) i = nth ns i - nth (flatI T') i := fun i hi => by
    unfold hgt nth
    simp [List.getD_eq_getElem?_getD, eF, hi]
  refine ⟨t, T', rfl, ht, by omega, fun _ u H1 s1 hu => ⟨Nat.zero_le _, fun q zq => ⟨_, .inr (SqT.of (((Same.refl H1).upd zq) _ _ (s1 _ _ ht))), by omega, by rw [eL]; omega, ?_⟩⟩, fun g => absurd hT g⟩
  rw [eL, Int.toNat_natCast]
  have zq0 : H q = none := s1.free zq
  have nuq : u ≠ q := fun z => by rw [z, zq] at hu; cases hu
  refine for_range (fun i σ Hx => ClI t r u q H (flatI T') ((List.range i).flatMap (pairsF T' (hgt (flatI T') ns))) σ Hx) ⟨_, _, rfl, TupsAt.nil upd_same, s1.upd' zq, by rw [upd_ne nuq]; exact hu⟩ ?_ ?_
  · rintro i σ Hx hi ⟨v4, v5, rfl, tx, sx, hux⟩
    have ei : ((0 : Int) + (i : Int)) = (i : Int) := by omega
    rw [ei]
    walk_at "rd"
    refine ⟨t, T', i, rfl, sx _ _ ht, by omega, hi, fun _ w H2 zw s2 hw => ⟨w, rfl, ⟨_, SqL.of hw⟩, ?_⟩, fun g => absurd hT g⟩
    have nwq : w ≠ q := fun z => by
      obtain ⟨as, e, _⟩ := tx
      rw [z, e] at zw; cases zw
    refine for_list (K := K) (a := w) (xs := (wayI T' i).map V.int) (fun j σ Hx => (∃ v5, σ = [some (.ref t), some (.ref r), some (.ref u), some (.ref q), some (.int (i : Int)), v5]) ∧ ClI t r u q H (flatI T') (pairsJ T' (hgt (flatI T') ns) i j) σ Hx ∧ Hx w = some (.lst ((wayI T' i).map V.int))) ⟨⟨_, rfl⟩, ⟨_, _, rfl, by unfold pairsJ; simpa using tx.same s2, sx.trans s2, s2 _ _ hux⟩, hw⟩ (fun j σ Hx _ h => SqL.of h.2.2) ?_ ?_
    · rintro j x σ H5 ex ⟨⟨v5, rfl⟩, ⟨_, _, e0, t5, s5, hu5⟩, hw5⟩
      cases e0
      have hj : j < (wayI T' i).length := by
        have := List.getElem?_eq_some_iff.mp ex
        simpa using this.1
      rw [List.getElem?_map, List.getElem?_eq_getElem hj] at ex
      cases ex
      have hm := wayI_mem (List.getElem_mem hj)
      have ea : ((wayI T' i)[j] : Int) = (((wayI T' i)[j].toNat : Nat) : Int) := by omega
      walk_at "rd"
      have hr5 := s5 _ _ hr1
      have g1 := enh i hi
      have g2 := enh (wayI T' i)[j].toNat (by omega)
      refine ⟨_, SqT.of hr5, _, (congrArg (atI _) ea).trans (nth_at (by omega)), _, SqT.of hu5, _, nth_at (by omega), _, rfl, _, rfl, _, SqT.of hu5, _, (congrArg (atI _) ea).trans (nth_at (by omega)), _, rfl, _, SqT.of hr5, _, nth_at (by omega), _, rfl, ite2 (fun c => ?_) (fun c => ?_)⟩
      · obtain ⟨as, a1, a2, a3⟩ := id t5
        refine ⟨tyV_list a1, by decide, fun z zz => ?_⟩
        have sz := (Same.refl H5).upd (o := .tup [V.int (wayI T' i)[j], V.int (i : Int)]) zz
        refine ⟨_, sz _ _ a1, Nat.lt_of_le_of_lt (show _ ≤ 2000 by rw [List.length_map, a2]; exact Nat.le_trans pairsJ_len (mul40 (by omega) hn)) (by decide), ⟨_, rfl⟩, ⟨_, _, rfl, ?_, (s5.trans sz).upd zq0, by rw [upd_ne nuq]; exact sz _ _ hu5⟩, by rw [upd_ne nwq]; exact sz _ _ hw5⟩
        rw [pairs_step hj, if_pos (by omega)]
        exact TupsAt.push (r := [(wayI T' i)[j], (i : Int)]) (sz _ _ a1) a2 (fun k k1 k2 => sz _ _ (a3 k k1 k2)) upd_same
      · refine ⟨⟨_, rfl⟩, ⟨_, _, rfl, ?_, s5, hu5⟩, hw5⟩
        rw [pairs_step hj, if_neg (by omega)]
        exact t5
    · rintro σ H5 ⟨⟨v5, rfl⟩, ⟨_, _, e0, t5, s5, hu5⟩, hw5⟩
      rw [List.length_map, pairs_end] at t5
      exact ⟨_, _, rfl, t5, s5, hu5⟩
  · rintro σ Hx ⟨v4, v5, rfl, tx, sx, hux⟩
    walk_at "rd"
    refine ⟨_, tx, fun x hx => ?_, Nat.le_trans (pairs_len T' _ _) (Nat.le_trans (mul40 (by omega) hn) (by decide)), fun rs' l2 H2 p1 p2 z2 s2 t2 => k1 l2 rs' H2 (sx.free z2) (sx.trans s2) t2 ⟨p1, p2⟩⟩
    obtain ⟨a, b, rfl, hb, _⟩ := pairs_mem hx
    exact ⟨a, b, rfl, by omega, by omega⟩
theorem ok_law {f : Addr} {fd : FuncData} (F : Fun K "law" "law" s_law f fd) (G_clashing : Callee P w K mg base "clashing" 6 ["tree", "row"] (sp_clashing K mg)) (G__law_pool : Callee P w K mg base "_law_pool" 1 ["script", "k"] (sp__law_pool K mg)) (G__law_tree : Callee P w K mg base "_law_tree" 3 ["pool", "most"] (sp__law_tree K mg)) (G__law_whole : Callee P w K mg base "_law_whole" 1 ["thing"] (sp__law_whole K mg)) (G__law_near_row : Callee P w K mg base "_law_near_row" 3 ["pool", "tree"] (sp__law_near_row K mg)) (G__law_clashes : Callee P w K mg base "_law_clashes" 3 ["tree", "row"] (sp__law_clashes K mg)) (T : Txt K mg) : FnOk P w K mg base (CXE P w) 7 f fd ["script"] (spLaw K) := by
  refine F.okX sc_law (fun vs H Q E h => ?_) (fun cdv A outer s H vs Q E hr h => ?_)
  · obtain ⟨a, ns, rfl, _⟩ := h; rfl
  obtain ⟨sc, ss, rfl, hsc, hss, k1⟩ := h
  refine ⟨_, (pss_cons (ps_nox (ps_for PassesOwn.never rfl (pi_range1 rfl T.b_range (pa_cons (pe_callB (call_max2 rfl) rfl T.b_max bt_max (pa_cons pe_int (pa_cons (pe_callB (call_min2 rfl) rfl T.b_min bt_min (pa_cons (pe_callB (call_lenK (K := K) rfl) rfl T.b_len PySem.boot_len (pa_cons (pv 0) pa_nil)) (pa_cons pe_int pa_nil))) pa_nil))) pa_nil)) (pg_name (i := 1) sc_law.nd rfl (Or.inl rfl)) (pss_cons (ps_set (i := 2) sc_law.nd rfl (Or.inl rfl) (pe_callF G__law_pool (hr.mono (by decide)) rfl passE (pa_cons (pv 0) (pa_cons (pv 1) pa_nil))))
      (pss_cons (ps_set (i := 3) sc_law.nd rfl (Or.inl rfl) (pe_callF G__law_tree (hr.mono (by decide)) rfl passE (pa_cons (pv 2) (pa_cons pe_int pa_nil))))
      (pss_cons (ps_set (i := 4) sc_law.nd rfl (Or.inl rfl) (pe_callF G__law_near_row (hr.mono (by decide)) rfl passE (pa_cons (pv 2) (pa_cons (pv 3) pa_nil))))
      (pss_cons (ps_set (i := 5) sc_law.nd rfl (Or.inl rfl) (pe_callF G__law_clashes (hr.mono (by decide)) rfl passE (pa_cons (pv 3) (pa_cons (pv 4) pa_nil))))
      (pss_cons (ps_set (i := 6) sc_law.nd rfl (Or.inl rfl) (pe_callTy (call_listK (K := K) rfl) rfl T.b_list bt_list (pa_cons (pv 4) pa_nil)))
      (pss_one (ps_nox (ps_for PassesOwn.never rfl (pi_tup (pe_tup (pa_cons (pv 6) (pa_cons (pv 4) (pa_cons (pv 6) pa_nil))))) (pg_name (i := 7) sc_law.nd rfl (Or.inl rfl)) (pss_cons (ps_set (i := 8) sc_law.nd rfl (Or.inl rfl) (pe_callF G_clashing (hr.mono (by decide)) rfl passE (pa_cons (pv 3) (pa_cons (pv 7) pa_nil))))
      (pss_cons (ps_if (PW.pt (pw_or (pt_not (pt_val (pe_callB (call_isiK (K := K) rfl) rfl T.b_isinstance bt_isinstance (pa_cons (pv 8) (pa_cons (pe_bltn (v := .ty "list") rfl T.b_list bt_list rfl) pa_nil))))) (pw_or (pt_cmpR (op_neD (K := K) rfl hr) (pv 8) (pv 5) (nomark _)) (pw_or1 (pt_cmpR (op_neD (K := K) rfl hr) (pe_callTy (call_tupK (K := K) rfl) rfl T.b_tuple bt_tuple (pa_cons (pv 6) pa_nil)) (pv 4) (nomark _)))))) (pss_one (ps_ret pe_bl)) pss_nil)
      (pss_cons (ps_nox (ps_for PassesOwn.never rfl (pi_list (pv 8)) (pg_name (i := 9) sc_law.nd rfl (Or.inl rfl)) (pss_one (ps_if (PW.pt (pw_or (pt_not (pt_val (pe_callB (call_isiK (K := K) rfl) rfl T.b_isinstance bt_isinstance (pa_cons (pv 9) (pa_cons (pe_bltn (v := .ty "tuple") rfl T.b_tuple bt_tuple rfl) pa_nil))))) (pw_or (pt_not (pt_val (pe_callF G__law_whole (hr.mono (by decide)) rfl passE (pa_cons (pe_ix ix_tup (pv 9) pe_int (fun _ _ => rfl)) pa_nil)))) (pw_or1 (pt_not (pt_val (pe_callF G__law_whole (hr.mono (by decide)) rfl passE (pa_cons (pe_ix ix_tup (pv 9) pe_int (fun _ _ => rfl)) pa_nil)))))))) (pss_one (ps_ret pe_bl)) pss_nil))))
      (pss_one (ps_expr (pe_bm PySem.F.plainAttrs_list PySem.F.slot_list_append PySem.F.type_list_append mt_append (pv 8) (pa_cons (pe_tup (pa_cons pe_int (pa_cons pe_int pa_nil))) pa_nil)))))))))))))))))
      (pss_one (ps_ret pe_bl))), ?_⟩
  walk_at "rd"
  refine ⟨_, .inl hsc, ?_, ?_, for_range (fun i σ H' => ∃ v1 v2 v3 v4 v5 v6 v7 v8 v9, σ = [some (.ref sc), v1, v2, v3, v4, v5, v6, v7, v8, v9] ∧ Same H H') ⟨_, _, _, _, _, _, _, _, _, rfl, Same.refl H⟩ ?_ ?_⟩
  · split <;> omega
  · split <;> omega
  · rintro i σ H' hi ⟨v1, v2, v3, v4, v5, v6, v7, v8, v9, rfl, hs⟩
    have hi8 : i < 16 := by
      revert hi
      split
      · split <;> omega
      · omega
    refine seqR (fun σ Hx => ∃ p, σ = [some (.ref sc), some (.int (0 + (i : Int))), some (.ref p), v3, v4, v5, v6, v7, v8, v9] ∧ H p = none ∧ PoolAt Hx p ∧ Same H Hx) (fun R hR => ?_) ?_
    · walk_at "rd"
      exact ⟨sc, ss, _, rfl, hs.seq hsc, by omega, by omega, fun p H1 hp s1 P1 => hR _ _ ⟨p, rfl, hs.free hp, P1, hs.trans s1⟩⟩
    rintro σ H1 ⟨p, rfl, zp, P1, s1⟩
    refine seqR (fun σ Hx => ∃ (t : Addr) (T' : List Int), σ = [some (.ref sc), some (.int (0 + (i : Int))), some (.ref p), some (.ref t), v4, v5, v6, v7, v8, v9] ∧ T'.length ≤ 40 ∧ (∃ ns, TreeIs ns T') ∧ Hx t = some (.tup (T'.map V.int)) ∧ PoolAt Hx p ∧ Same H Hx) (fun R hR => ?_) ?_
    · walk_at "rd"
      exact ⟨p, 40, rfl, by decide, P1, fun u es H3 zu hl hT hu P3 e3 => hR _ _ ⟨u, es, rfl, hl, hT, hu, P3, s1.exc zp e3⟩⟩
    clear s1 P1 H1
    rintro σ H1 ⟨t, T', rfl, hn, hTe, ht, P1, s1⟩
    have ntp : t ≠ p := fun z => by
      obtain ⟨x, y, e, _⟩ := P1
      rw [z, e] at ht; cases ht
    refine seqR (fun σ Hx => ∃ (r : Addr) (ns : List Int), σ = [some (.ref sc), some (.int (0 + (i : Int))), some (.ref p), some (.ref t), some (.ref r), v5, v6, v7, v8, v9] ∧ ns.length = T'.length ∧ Hx r = some (.tup (ns.map V.int)) ∧ Hx t = some (.tup (T'.map V.int)) ∧ Same H Hx) (fun R hR => ?_) ?_
    · walk_at "rd"
      exact ⟨p, t, T', rfl, P1, ht, hn, hTe, fun r ms H4 zr hl4 hr4 P4 e4 => hR _ _ ⟨r, ms, rfl, hl4, hr4, e4 _ _ ntp ht, s1.exc zp e4⟩⟩
    clear s1 P1 ht H1
    rintro σ H1 ⟨r, ns, rfl, hl, hr1, ht, s1⟩
    refine seqR (fun σ Hx => ∃ (d : Addr) (rs : List (List Int)), σ = [some (.ref sc), some (.int (0 + (i : Int))), some (.ref p), some (.ref t), some (.ref r), some (.ref d), v6, v7, v8, v9] ∧ TupsAt Hx d rs ∧ SortP rs (pairsU T' (hgt (flatI T') ns)) ∧ Same H1 Hx) (fun R hR => ?_) ?_
    · walk_at "rd"
      exact ⟨t, r, T', ns, rfl, ht, hr1, hn, hTe, hl, fun l rs H2 zl s2 t2 p2 => hR _ _ ⟨l, rs, rfl, t2, p2, s2⟩⟩
    rintro σ H2 ⟨d, rs, rfl, td, pd, s2⟩
    refine seqR (fun σ Hx => ∃ (h : Addr), σ = [some (.ref sc), some (.int (0 + (i : Int))), some (.ref p), some (.ref t), some (.ref r), some (.ref d), some (.ref h), v7, v8, v9] ∧ Hx h = some (.lst (ns.map V.int)) ∧ Same H2 Hx) (fun R hR => ?_) ?_
    · walk_at "rd"
      exact ⟨_, .inr (SqT.of (s2 _ _ hr1)), fun l zl => hR _ _ ⟨l, rfl, upd_same, (Same.refl H2).upd zl⟩⟩
    rintro σ H3 ⟨h, rfl, hh, s3⟩
    replace td := td.same s3
    replace hr1 := s3 _ _ (s2 _ _ hr1)
    replace ht := s3 _ _ (s2 _ _ ht)
    replace s1 := s1.trans (s2.trans s3)
    clear s2 s3 H1 H2
    walk_at "rd"
    refine ⟨by decide, fun z zz => ⟨⟨_, SqT.of upd_same⟩, ?_⟩⟩
    have s4 := (Same.refl H3).upd (o := .tup [V.ref h, V.ref r, V.ref h]) zz
    have hz4 : (upd H3 z (.tup [V.ref h, V.ref r, V.ref h])) z = some (.tup [V.ref h, V.ref r, V.ref h]) := upd_same
    generalize upd H3 z (.tup [V.ref h, V.ref r, V.ref h]) = H4 at s4 hz4 ⊢
    replace td := td.same s4
    replace hr1 := s4 _ _ hr1
    replace ht := s4 _ _ ht
    replace hh := s4 _ _ hh
    replace s1 := s1.trans s4
    clear s4 zz H3
    refine for_tup (K := K) (a := z) (xs := [V.ref h, V.ref r, V.ref h]) (fun j σ Hx => ∃ v7 v8 v9, σ = [some (.ref sc), some (.int (0 + (i : Int))), some (.ref p), some (.ref t), some (.ref r), some (.ref d), some (.ref h), v7, v8, v9] ∧ Same H4 Hx) ⟨_, _, _, rfl, Same.refl H4⟩ (fun j σ Hx _ ⟨_, _, _, _, s⟩ => SqT.of (s _ _ hz4)) ?_ ?_
    · rintro j x σ H5 ex ⟨v7, v8, v9, rfl, s5⟩
      obtain ⟨a, rfl, ha⟩ : ∃ a, x = V.ref a ∧ (SqL K H5 a (ns.map V.int) ∨ SqT K H5 a (ns.map V.int)) := by
        match j, ex with
        | 0, ex => cases ex; exact ⟨h, rfl, .inl (SqL.of (s5 _ _ hh))⟩
        | 1, ex => cases ex; exact ⟨r, rfl, .inr (SqT.of (s5 _ _ hr1))⟩
        | 2, ex => cases ex; exact ⟨h, rfl, .inl (SqL.of (s5 _ _ hh))⟩
        | j + 3, ex => simp at ex
      refine seqR (fun σ Hx => ∃ l, σ = [some (.ref sc), some (.int (0 + (i : Int))), some (.ref p), some (.ref t), some (.ref r), some (.ref d), some (.ref h), some (.ref a), some (.ref l), v9] ∧ H4 l = none ∧ TupsAt Hx l rs ∧ Same H4 Hx) (fun R hR => ?_) ?_
      · walk_at "rd"
        exact ⟨t, a, T', ns, rfl, s5 _ _ ht, ha, ⟨hn, hTe⟩, hl, fun l rs' H6 zl s6 t6 p6 => hR _ _ ⟨l, rfl, s5.free zl, sortP_one hn p6 pd ▸ t6, s5.trans s6⟩⟩
      clear ha s5 H5
      rintro σ H5 ⟨l, rfl, zl, tl, s5⟩
      obtain ⟨as, l1, l2, l3⟩ := id tl
      refine seqR (fun σ Hx => σ = [some (.ref sc), some (.int (0 + (i : Int))), some (.ref p), some (.ref t), some (.ref r), some (.ref d), some (.ref h), some (.ref a), some (.ref l), v9] ∧ Same H5 Hx) (fun R hR => ?_) ?_
      · walk_at "rd"
        refine ⟨true, .inl ⟨_, .lst l1, by with_unfolding_all rfl⟩, ite2 (fun z => nomatch z) fun _ => ⟨_, eqp_lst (n := 2) (K := K) (eqp_tup (n := 1) eqp_int) _ _ _ _ tl.isL (td.same s5).isL, ite2 (fun z => absurd z (by simp)) fun _ => ⟨_, .inl ⟨SqL.of (s5 _ _ hh), fun y zy => ?_⟩⟩⟩⟩
        have g := (Same.refl H5).upd (o := .tup (ns.map V.int)) zy
        exact ⟨_, eqp_tup (n := 2) (K := K) eqp_int _ _ _ _ (isT_ints (SqT.of upd_same)) (isT_ints (SqT.of (g _ _ (s5 _ _ hr1)))), ite2 (fun z => absurd z (by simp)) fun _ => hR _ _ ⟨rfl, g⟩⟩
      rintro σ H6 ⟨rfl, s6⟩
      replace tl := tl.same s6
      replace s5 := s5.trans s6
      clear s6 l1 l2 l3 H5
      obtain ⟨as, l1, l2, l3⟩ := id tl
      refine seqR (fun σ Hx => ∃ v9, σ = [some (.ref sc), some (.int (0 + (i : Int))), some (.ref p), some (.ref t), some (.ref r), some (.ref d), some (.ref h), some (.ref a), some (.ref l), v9] ∧ Same H6 Hx) (fun R hR => ?_) ?_
      · walk_at "rd"
        obtain ⟨w1, w2, w3⟩ := tl.walk (K := K)
        refine ⟨tl.sq, for_it (n := rs.length) (fun j σ Hx => ∃ v9 : Option V, σ = [some (.ref sc), some (.int (0 + (i : Int))), some (.ref p), some (.ref t), some (.ref r), some (.ref d), some (.ref h), some (.ref a), some (.ref l), v9] ∧ Same H6 Hx) ⟨_, rfl, Same.refl H6⟩ (fun j σ Hx hj ⟨_, _, sx⟩ => w1 j Hx sx hj) (fun σ Hx ⟨_, _, sx⟩ => w2 Hx sx) ?_ ?_⟩
        · rintro j x σ Hx Hx' hj ⟨v2, rfl, sx⟩ y
          obtain ⟨rfl, a, rfl, ha⟩ := w3 j x Hx Hx' hj sx y
          obtain ⟨x0, x1, hx2, _⟩ := pairs_mem (show rs[j] ∈ (List.range T'.length).flatMap (pairsF T' (hgt (flatI T') ns)) from (List.Perm.mem_iff pd.1).mp (List.getElem_mem hj))
          rw [hx2] at ha
          walk_at "rd"
          exact ⟨true, .inl ⟨_, .tup ha, by with_unfolding_all rfl⟩, ite2 (fun z => nomatch z) fun _ => ⟨_, SqT.of ha, _, rfl, _, rfl, true, rfl, ite2 (fun z => nomatch z) fun _ => ⟨_, SqT.of ha, _, rfl, _, rfl, true, rfl, ite2 (fun z => nomatch z) fun _ => sx⟩⟩⟩
        · rintro σ Hx ⟨v2, rfl, sx⟩
          exact hR _ _ ⟨_, rfl, sx⟩
      rintro σ H7 ⟨v9, rfl, s7⟩
      walk_at "rd"
      refine ⟨tyV_list (s7 _ _ l1), by decide, fun y zy => ?_⟩
      have g := (Same.refl H7).upd (o := .tup [V.int 0, V.int 0]) zy
      have hlen : rs.length ≤ 2000 := sortP_len hn pd
      exact ⟨_, g _ _ (s7 _ _ l1), Nat.lt_of_le_of_lt (show _ ≤ 2000 by rw [List.length_map]; omega) (by decide), (s5.trans (s7.trans g)).upd zl⟩
    · rintro σ H5 ⟨v7, v8, v9, rfl, s5⟩
      exact ⟨_, _, _, _, _, _, _, _, _, rfl, s1.trans s5⟩
  · rintro σ H' ⟨v1, v2, v3, v4, v5, v6, v7, v8, v9, rfl, hs⟩
    walk_at "rd"
    exact k1 H'

end
theorem all_mk {l : PySem.W.OpenLaw} {w : World} {K : PySem.W.Frag} {h : Heap} {mg : Str → Option Value} {fa : Addr} (X : K.In h) (G : h.Ns mainGlobals mg) (hfa : mg "law" = some (.ref fa))
    {f_settle : Addr} {od_settle an_settle : Option Addr} {sl_settle : Array (Option Value)} {oc_settle kV_settle dc_settle pm_settle cd_settle ct_settle : Value}
    (a_settle : PySem.W.nsIn K mainGlobals "settle" = some (some (.ref f_settle))) (l_settle : K.lookup f_settle = some ⟨oc_settle, od_settle, .func (PySem.W.fnOf "settle" "settle" (defArgs s_settle) (defBody s_settle) (defScope s_settle) .none kV_settle dc_settle pm_settle an_settle cd_settle ct_settle), sl_settle⟩) (c_settle : PySem.W.codeIn K cd_settle "settle" = true) (k_settle : PySem.W.keepIn K (.ref f_settle) = true)
    {f_tree_of : Addr} {od_tree_of an_tree_of : Option Addr} {sl_tree_of : Array (Option Value)} {oc_tree_of kV_tree_of dc_tree_of pm_tree_of cd_tree_of ct_tree_of : Value}
    (a_tree_of : PySem.W.nsIn K mainGlobals "tree_of" = some (some (.ref f_tree_of))) (l_tree_of : K.lookup f_tree_of = some ⟨oc_tree_of, od_tree_of, .func (PySem.W.fnOf "tree_of" "tree_of" (defArgs s_tree_of) (defBody s_tree_of) (defScope s_tree_of) .none kV_tree_of dc_tree_of pm_tree_of an_tree_of cd_tree_of ct_tree_of), sl_tree_of⟩) (c_tree_of : PySem.W.codeIn K cd_tree_of "tree_of" = true) (k_tree_of : PySem.W.keepIn K (.ref f_tree_of) = true)
    {f_way_up : Addr} {od_way_up an_way_up : Option Addr} {sl_way_up : Array (Option Value)} {oc_way_up kV_way_up dc_way_up pm_way_up cd_way_up ct_way_up : Value}
    (a_way_up : PySem.W.nsIn K mainGlobals "way_up" = some (some (.ref f_way_up))) (l_way_up : K.lookup f_way_up = some ⟨oc_way_up, od_way_up, .func (PySem.W.fnOf "way_up" "way_up" (defArgs s_way_up) (defBody s_way_up) (defScope s_way_up) .none kV_way_up dc_way_up pm_way_up an_way_up cd_way_up ct_way_up), sl_way_up⟩) (c_way_up : PySem.W.codeIn K cd_way_up "way_up" = true) (k_way_up : PySem.W.keepIn K (.ref f_way_up) = true)
    {f_is_tree : Addr} {od_is_tree an_is_tree : Option Addr} {sl_is_tree : Array (Option Value)} {oc_is_tree kV_is_tree dc_is_tree pm_is_tree cd_is_tree ct_is_tree : Value}
    (a_is_tree : PySem.W.nsIn K mainGlobals "is_tree" = some (some (.ref f_is_tree))) (l_is_tree : K.lookup f_is_tree = some ⟨oc_is_tree, od_is_tree, .func (PySem.W.fnOf "is_tree" "is_tree" (defArgs s_is_tree) (defBody s_is_tree) (defScope s_is_tree) .none kV_is_tree dc_is_tree pm_is_tree an_is_tree cd_is_tree ct_is_tree), sl_is_tree⟩) (c_is_tree : PySem.W.codeIn K cd_is_tree "is_tree" = true) (k_is_tree : PySem.W.keepIn K (.ref f_is_tree) = true)
    {f_need_tree : Addr} {od_need_tree an_need_tree : Option Addr} {sl_need_tree : Array (Option Value)} {oc_need_tree kV_need_tree dc_need_tree pm_need_tree cd_need_tree ct_need_tree : Value}
    (a_need_tree : PySem.W.nsIn K mainGlobals "need_tree" = some (some (.ref f_need_tree))) (l_need_tree : K.lookup f_need_tree = some ⟨oc_need_tree, od_need_tree, .func (PySem.W.fnOf "need_tree" "need_tree" (defArgs s_need_tree) (defBody s_need_tree) (defScope s_need_tree) .none kV_need_tree dc_need_tree pm_need_tree an_need_tree cd_need_tree ct_need_tree), sl_need_tree⟩) (c_need_tree : PySem.W.codeIn K cd_need_tree "need_tree" = true) (k_need_tree : PySem.W.keepIn K (.ref f_need_tree) = true)
    {f_flat_number : Addr} {od_flat_number an_flat_number : Option Addr} {sl_flat_number : Array (Option Value)} {oc_flat_number kV_flat_number dc_flat_number pm_flat_number cd_flat_number ct_flat_number : Value}
    (a_flat_number : PySem.W.nsIn K mainGlobals "flat_number" = some (some (.ref f_flat_number))) (l_flat_number : K.lookup f_flat_number = some ⟨oc_flat_number, od_flat_number, .func (PySem.W.fnOf "flat_number" "flat_number" (defArgs s_flat_number) (defBody s_flat_number) (defScope s_flat_number) .none kV_flat_number dc_flat_number pm_flat_number an_flat_number cd_flat_number ct_flat_number), sl_flat_number⟩) (c_flat_number : PySem.W.codeIn K cd_flat_number "flat_number" = true) (k_flat_number : PySem.W.keepIn K (.ref f_flat_number) = true)
    {f_flattest : Addr} {od_flattest an_flattest : Option Addr} {sl_flattest : Array (Option Value)} {oc_flattest kV_flattest dc_flattest pm_flattest cd_flattest ct_flattest : Value}
    (a_flattest : PySem.W.nsIn K mainGlobals "flattest" = some (some (.ref f_flattest))) (l_flattest : K.lookup f_flattest = some ⟨oc_flattest, od_flattest, .func (PySem.W.fnOf "flattest" "flattest" (defArgs s_flattest) (defBody s_flattest) (defScope s_flattest) .none kV_flattest dc_flattest pm_flattest an_flattest cd_flattest ct_flattest), sl_flattest⟩) (c_flattest : PySem.W.codeIn K cd_flattest "flattest" = true) (k_flattest : PySem.W.keepIn K (.ref f_flattest) = true)
    {f_heights_of : Addr} {od_heights_of an_heights_of : Option Addr} {sl_heights_of : Array (Option Value)} {oc_heights_of kV_heights_of dc_heights_of pm_heights_of cd_heights_of ct_heights_of : Value}
    (a_heights_of : PySem.W.nsIn K mainGlobals "heights_of" = some (some (.ref f_heights_of))) (l_heights_of : K.lookup f_heights_of = some ⟨oc_heights_of, od_heights_of, .func (PySem.W.fnOf "heights_of" "heights_of" (defArgs s_heights_of) (defBody s_heights_of) (defScope s_heights_of) .none kV_heights_of dc_heights_of pm_heights_of an_heights_of cd_heights_of ct_heights_of), sl_heights_of⟩) (c_heights_of : PySem.W.codeIn K cd_heights_of "heights_of" = true) (k_heights_of : PySem.W.keepIn K (.ref f_heights_of) = true)
    {f_higher_pairs : Addr} {od_higher_pairs an_higher_pairs : Option Addr} {sl_higher_pairs : Array (Option Value)} {oc_higher_pairs kV_higher_pairs dc_higher_pairs pm_higher_pairs cd_higher_pairs ct_higher_pairs : Value}
    (a_higher_pairs : PySem.W.nsIn K mainGlobals "higher_pairs" = some (some (.ref f_higher_pairs))) (l_higher_pairs : K.lookup f_higher_pairs = some ⟨oc_higher_pairs, od_higher_pairs, .func (PySem.W.fnOf "higher_pairs" "higher_pairs" (defArgs s_higher_pairs) (defBody s_higher_pairs) (defScope s_higher_pairs) .none kV_higher_pairs dc_higher_pairs pm_higher_pairs an_higher_pairs cd_higher_pairs ct_higher_pairs), sl_higher_pairs⟩) (c_higher_pairs : PySem.W.codeIn K cd_higher_pairs "higher_pairs" = true) (k_higher_pairs : PySem.W.keepIn K (.ref f_higher_pairs) = true)
    {f_clashing : Addr} {od_clashing an_clashing : Option Addr} {sl_clashing : Array (Option Value)} {oc_clashing kV_clashing dc_clashing pm_clashing cd_clashing ct_clashing : Value}
    (a_clashing : PySem.W.nsIn K mainGlobals "clashing" = some (some (.ref f_clashing))) (l_clashing : K.lookup f_clashing = some ⟨oc_clashing, od_clashing, .func (PySem.W.fnOf "clashing" "clashing" (defArgs s_clashing) (defBody s_clashing) (defScope s_clashing) .none kV_clashing dc_clashing pm_clashing an_clashing cd_clashing ct_clashing), sl_clashing⟩) (c_clashing : PySem.W.codeIn K cd_clashing "clashing" = true) (k_clashing : PySem.W.keepIn K (.ref f_clashing) = true)
    {f__law_pool : Addr} {od__law_pool an__law_pool : Option Addr} {sl__law_pool : Array (Option Value)} {oc__law_pool kV__law_pool dc__law_pool pm__law_pool cd__law_pool ct__law_pool : Value}
    (a__law_pool : PySem.W.nsIn K mainGlobals "_law_pool" = some (some (.ref f__law_pool))) (l__law_pool : K.lookup f__law_pool = some ⟨oc__law_pool, od__law_pool, .func (PySem.W.fnOf "_law_pool" "_law_pool" (defArgs s__law_pool) (defBody s__law_pool) (defScope s__law_pool) .none kV__law_pool dc__law_pool pm__law_pool an__law_pool cd__law_pool ct__law_pool), sl__law_pool⟩) (c__law_pool : PySem.W.codeIn K cd__law_pool "_law_pool" = true) (k__law_pool : PySem.W.keepIn K (.ref f__law_pool) = true)
    {f__law_pick : Addr} {od__law_pick an__law_pick : Option Addr} {sl__law_pick : Array (Option Value)} {oc__law_pick kV__law_pick dc__law_pick pm__law_pick cd__law_pick ct__law_pick : Value}
    (a__law_pick : PySem.W.nsIn K mainGlobals "_law_pick" = some (some (.ref f__law_pick))) (l__law_pick : K.lookup f__law_pick = some ⟨oc__law_pick, od__law_pick, .func (PySem.W.fnOf "_law_pick" "_law_pick" (defArgs s__law_pick) (defBody s__law_pick) (defScope s__law_pick) .none kV__law_pick dc__law_pick pm__law_pick an__law_pick cd__law_pick ct__law_pick), sl__law_pick⟩) (c__law_pick : PySem.W.codeIn K cd__law_pick "_law_pick" = true) (k__law_pick : PySem.W.keepIn K (.ref f__law_pick) = true)
    {f__law_size : Addr} {od__law_size an__law_size : Option Addr} {sl__law_size : Array (Option Value)} {oc__law_size kV__law_size dc__law_size pm__law_size cd__law_size ct__law_size : Value}
    (a__law_size : PySem.W.nsIn K mainGlobals "_law_size" = some (some (.ref f__law_size))) (l__law_size : K.lookup f__law_size = some ⟨oc__law_size, od__law_size, .func (PySem.W.fnOf "_law_size" "_law_size" (defArgs s__law_size) (defBody s__law_size) (defScope s__law_size) .none kV__law_size dc__law_size pm__law_size an__law_size cd__law_size ct__law_size), sl__law_size⟩) (c__law_size : PySem.W.codeIn K cd__law_size "_law_size" = true) (k__law_size : PySem.W.keepIn K (.ref f__law_size) = true)
    {f__law_drops : Addr} {od__law_drops an__law_drops : Option Addr} {sl__law_drops : Array (Option Value)} {oc__law_drops kV__law_drops dc__law_drops pm__law_drops cd__law_drops ct__law_drops : Value}
    (a__law_drops : PySem.W.nsIn K mainGlobals "_law_drops" = some (some (.ref f__law_drops))) (l__law_drops : K.lookup f__law_drops = some ⟨oc__law_drops, od__law_drops, .func (PySem.W.fnOf "_law_drops" "_law_drops" (defArgs s__law_drops) (defBody s__law_drops) (defScope s__law_drops) .none kV__law_drops dc__law_drops pm__law_drops an__law_drops cd__law_drops ct__law_drops), sl__law_drops⟩) (c__law_drops : PySem.W.codeIn K cd__law_drops "_law_drops" = true) (k__law_drops : PySem.W.keepIn K (.ref f__law_drops) = true)
    {f__law_hung : Addr} {od__law_hung an__law_hung : Option Addr} {sl__law_hung : Array (Option Value)} {oc__law_hung kV__law_hung dc__law_hung pm__law_hung cd__law_hung ct__law_hung : Value}
    (a__law_hung : PySem.W.nsIn K mainGlobals "_law_hung" = some (some (.ref f__law_hung))) (l__law_hung : K.lookup f__law_hung = some ⟨oc__law_hung, od__law_hung, .func (PySem.W.fnOf "_law_hung" "_law_hung" (defArgs s__law_hung) (defBody s__law_hung) (defScope s__law_hung) .none kV__law_hung dc__law_hung pm__law_hung an__law_hung cd__law_hung ct__law_hung), sl__law_hung⟩) (c__law_hung : PySem.W.codeIn K cd__law_hung "_law_hung" = true) (k__law_hung : PySem.W.keepIn K (.ref f__law_hung) = true)
    {f__law_tree : Addr} {od__law_tree an__law_tree : Option Addr} {sl__law_tree : Array (Option Value)} {oc__law_tree kV__law_tree dc__law_tree pm__law_tree cd__law_tree ct__law_tree : Value}
    (a__law_tree : PySem.W.nsIn K mainGlobals "_law_tree" = some (some (.ref f__law_tree))) (l__law_tree : K.lookup f__law_tree = some ⟨oc__law_tree, od__law_tree, .func (PySem.W.fnOf "_law_tree" "_law_tree" (defArgs s__law_tree) (defBody s__law_tree) (defScope s__law_tree) .none kV__law_tree dc__law_tree pm__law_tree an__law_tree cd__law_tree ct__law_tree), sl__law_tree⟩) (c__law_tree : PySem.W.codeIn K cd__law_tree "_law_tree" = true) (k__law_tree : PySem.W.keepIn K (.ref f__law_tree) = true)
    {f__law_over : Addr} {od__law_over an__law_over : Option Addr} {sl__law_over : Array (Option Value)} {oc__law_over kV__law_over dc__law_over pm__law_over cd__law_over ct__law_over : Value}
    (a__law_over : PySem.W.nsIn K mainGlobals "_law_over" = some (some (.ref f__law_over))) (l__law_over : K.lookup f__law_over = some ⟨oc__law_over, od__law_over, .func (PySem.W.fnOf "_law_over" "_law_over" (defArgs s__law_over) (defBody s__law_over) (defScope s__law_over) .none kV__law_over dc__law_over pm__law_over an__law_over cd__law_over ct__law_over), sl__law_over⟩) (c__law_over : PySem.W.codeIn K cd__law_over "_law_over" = true) (k__law_over : PySem.W.keepIn K (.ref f__law_over) = true)
    {f__law_flats : Addr} {od__law_flats an__law_flats : Option Addr} {sl__law_flats : Array (Option Value)} {oc__law_flats kV__law_flats dc__law_flats pm__law_flats cd__law_flats ct__law_flats : Value}
    (a__law_flats : PySem.W.nsIn K mainGlobals "_law_flats" = some (some (.ref f__law_flats))) (l__law_flats : K.lookup f__law_flats = some ⟨oc__law_flats, od__law_flats, .func (PySem.W.fnOf "_law_flats" "_law_flats" (defArgs s__law_flats) (defBody s__law_flats) (defScope s__law_flats) .none kV__law_flats dc__law_flats pm__law_flats an__law_flats cd__law_flats ct__law_flats), sl__law_flats⟩) (c__law_flats : PySem.W.codeIn K cd__law_flats "_law_flats" = true) (k__law_flats : PySem.W.keepIn K (.ref f__law_flats) = true)
    {f__law_kin_row : Addr} {od__law_kin_row an__law_kin_row : Option Addr} {sl__law_kin_row : Array (Option Value)} {oc__law_kin_row kV__law_kin_row dc__law_kin_row pm__law_kin_row cd__law_kin_row ct__law_kin_row : Value}
    (a__law_kin_row : PySem.W.nsIn K mainGlobals "_law_kin_row" = some (some (.ref f__law_kin_row))) (l__law_kin_row : K.lookup f__law_kin_row = some ⟨oc__law_kin_row, od__law_kin_row, .func (PySem.W.fnOf "_law_kin_row" "_law_kin_row" (defArgs s__law_kin_row) (defBody s__law_kin_row) (defScope s__law_kin_row) .none kV__law_kin_row dc__law_kin_row pm__law_kin_row an__law_kin_row cd__law_kin_row ct__law_kin_row), sl__law_kin_row⟩) (c__law_kin_row : PySem.W.codeIn K cd__law_kin_row "_law_kin_row" = true) (k__law_kin_row : PySem.W.keepIn K (.ref f__law_kin_row) = true)
    {f__law_whole : Addr} {od__law_whole an__law_whole : Option Addr} {sl__law_whole : Array (Option Value)} {oc__law_whole kV__law_whole dc__law_whole pm__law_whole cd__law_whole ct__law_whole : Value}
    (a__law_whole : PySem.W.nsIn K mainGlobals "_law_whole" = some (some (.ref f__law_whole))) (l__law_whole : K.lookup f__law_whole = some ⟨oc__law_whole, od__law_whole, .func (PySem.W.fnOf "_law_whole" "_law_whole" (defArgs s__law_whole) (defBody s__law_whole) (defScope s__law_whole) .none kV__law_whole dc__law_whole pm__law_whole an__law_whole cd__law_whole ct__law_whole), sl__law_whole⟩) (c__law_whole : PySem.W.codeIn K cd__law_whole "_law_whole" = true) (k__law_whole : PySem.W.keepIn K (.ref f__law_whole) = true)
    {f__law_near_row : Addr} {od__law_near_row an__law_near_row : Option Addr} {sl__law_near_row : Array (Option Value)} {oc__law_near_row kV__law_near_row dc__law_near_row pm__law_near_row cd__law_near_row ct__law_near_row : Value}
    (a__law_near_row : PySem.W.nsIn K mainGlobals "_law_near_row" = some (some (.ref f__law_near_row))) (l__law_near_row : K.lookup f__law_near_row = some ⟨oc__law_near_row, od__law_near_row, .func (PySem.W.fnOf "_law_near_row" "_law_near_row" (defArgs s__law_near_row) (defBody s__law_near_row) (defScope s__law_near_row) .none kV__law_near_row dc__law_near_row pm__law_near_row an__law_near_row cd__law_near_row ct__law_near_row), sl__law_near_row⟩) (c__law_near_row : PySem.W.codeIn K cd__law_near_row "_law_near_row" = true) (k__law_near_row : PySem.W.keepIn K (.ref f__law_near_row) = true)
    {f__law_clashes : Addr} {od__law_clashes an__law_clashes : Option Addr} {sl__law_clashes : Array (Option Value)} {oc__law_clashes kV__law_clashes dc__law_clashes pm__law_clashes cd__law_clashes ct__law_clashes : Value}
    (a__law_clashes : PySem.W.nsIn K mainGlobals "_law_clashes" = some (some (.ref f__law_clashes))) (l__law_clashes : K.lookup f__law_clashes = some ⟨oc__law_clashes, od__law_clashes, .func (PySem.W.fnOf "_law_clashes" "_law_clashes" (defArgs s__law_clashes) (defBody s__law_clashes) (defScope s__law_clashes) .none kV__law_clashes dc__law_clashes pm__law_clashes an__law_clashes cd__law_clashes ct__law_clashes), sl__law_clashes⟩) (c__law_clashes : PySem.W.codeIn K cd__law_clashes "_law_clashes" = true) (k__law_clashes : PySem.W.keepIn K (.ref f__law_clashes) = true)
    {f_law : Addr} {od_law an_law : Option Addr} {sl_law : Array (Option Value)} {oc_law kV_law dc_law pm_law cd_law ct_law : Value}
    (a_law : PySem.W.nsIn K mainGlobals "law" = some (some (.ref f_law))) (l_law : K.lookup f_law = some ⟨oc_law, od_law, .func (PySem.W.fnOf "law" "law" (defArgs s_law) (defBody s_law) (defScope s_law) .none kV_law dc_law pm_law an_law cd_law ct_law), sl_law⟩) (c_law : PySem.W.codeIn K cd_law "law" = true) (k_law : PySem.W.keepIn K (.ref f_law) = true)
    {C_DipError : Addr} (n_DipError : PySem.W.nsIn K mainGlobals "DipError" = some (some (.ref C_DipError))) (x_DipError : PySem.W.excIn K C_DipError bmV newV = true) (d_DipError : PySem.W.hasDictIn K C_DipError = true) (y_DipError : PySem.W.typeIn K (.ref C_DipError) = some (.type "type"))
    {C_Unlike : Addr} (n_Unlike : PySem.W.nsIn K mainGlobals "Unlike" = some (some (.ref C_Unlike))) (x_Unlike : PySem.W.excIn K C_Unlike bmV newV = true) (d_Unlike : PySem.W.hasDictIn K C_Unlike = true) (y_Unlike : PySem.W.typeIn K (.ref C_Unlike) = some (.type "type"))
    {C_NoTree : Addr} (n_NoTree : PySem.W.nsIn K mainGlobals "NoTree" = some (some (.ref C_NoTree))) (x_NoTree : PySem.W.excIn K C_NoTree bmV newV = true) (d_NoTree : PySem.W.hasDictIn K C_NoTree = true) (y_NoTree : PySem.W.typeIn K (.ref C_NoTree) = some (.type "type"))
    (b_bool : PySem.W.nsIn K mainGlobals "bool" = some none)
    (b_enumerate : PySem.W.nsIn K mainGlobals "enumerate" = some none)
    (b_int : PySem.W.nsIn K mainGlobals "int" = some none)
    (b_isinstance : PySem.W.nsIn K mainGlobals "isinstance" = some none)
    (b_len : PySem.W.nsIn K mainGlobals "len" = some none)
    (b_list : PySem.W.nsIn K mainGlobals "list" = some none)
    (b_max : PySem.W.nsIn K mainGlobals "max" = some none)
    (b_min : PySem.W.nsIn K mainGlobals "min" = some none)
    (b_range : PySem.W.nsIn K mainGlobals "range" = some none)
    (b_sorted : PySem.W.nsIn K mainGlobals "sorted" = some none)
    (b_tuple : PySem.W.nsIn K mainGlobals "tuple" = some none)
    (b_zip : PySem.W.nsIn K mainGlobals "zip" = some none)
    {t_MOST_PLACES : Tok} (m_MOST_PLACES : PySem.W.nsIn K mainGlobals "MOST_PLACES" = some (some (.int 40 t_MOST_PLACES)))
    : ∃ fd : FuncData, (∀ (s : Shared) (v : Value), BindsTo s fd ⟨[v], []⟩ [("script", v)]) ∧ ∀ base : Heap, K.In base → base.Ns mainGlobals mg → FnOk l.prog w K mg base (CXE l.prog w) 7 fa fd ["script"] (spLaw K) := by
  have e := hfa.symm.trans (PySem.W.mg_of X G a_law)
  cases e
  have q_DipError : clsAt mg "DipError" = C_DipError := by unfold clsAt; rw [PySem.W.mg_of X G n_DipError]
  have q_Unlike : clsAt mg "Unlike" = C_Unlike := by unfold clsAt; rw [PySem.W.mg_of X G n_Unlike]
  have q_NoTree : clsAt mg "NoTree" = C_NoTree := by unfold clsAt; rw [PySem.W.mg_of X G n_NoTree]
  have q_MOST_PLACES : tokAt mg "MOST_PLACES" = t_MOST_PLACES := by unfold tokAt; rw [PySem.W.mg_of X G m_MOST_PLACES]
  have T : Txt K mg := {
    b_bool := PySem.W.mg_none_of X G b_bool
    b_enumerate := PySem.W.mg_none_of X G b_enumerate
    b_int := PySem.W.mg_none_of X G b_int
    b_isinstance := PySem.W.mg_none_of X G b_isinstance
    b_len := PySem.W.mg_none_of X G b_len
    b_list := PySem.W.mg_none_of X G b_list
    b_max := PySem.W.mg_none_of X G b_max
    b_min := PySem.W.mg_none_of X G b_min
    b_range := PySem.W.mg_none_of X G b_range
    b_sorted := PySem.W.mg_none_of X G b_sorted
    b_tuple := PySem.W.mg_none_of X G b_tuple
    b_zip := PySem.W.mg_none_of X G b_zip
    c_DipError := by rw [q_DipError]; exact PySem.W.mg_of X G n_DipError
    x_DipError := by rw [q_DipError]; exact x_DipError
    c_Unlike := by rw [q_Unlike]; exact PySem.W.mg_of X G n_Unlike
    x_Unlike := by rw [q_Unlike]; exact x_Unlike
    c_NoTree := by rw [q_NoTree]; exact PySem.W.mg_of X G n_NoTree
    x_NoTree := by rw [q_NoTree]; exact x_NoTree
    m_MOST_PLACES := by rw [q_MOST_PLACES]; exact PySem.W.mg_of X G m_MOST_PLACES
  }
  have F_settle := fun_mk (st := s_settle) l_settle c_settle k_settle
  have B_settle := F_settle.binds (ps := ["elders", "spine", "place", "keep"]) fun _ _ _ _ _ _ us hl => match us, hl with | [_, _, _, _], _ => rfl
  have F_tree_of := fun_mk (st := s_tree_of) l_tree_of c_tree_of k_tree_of
  have B_tree_of := F_tree_of.binds (ps := ["row"]) fun _ _ _ _ _ _ us hl => match us, hl with | [_], _ => rfl
  have F_way_up := fun_mk (st := s_way_up) l_way_up c_way_up k_way_up
  have B_way_up := F_way_up.binds (ps := ["tree", "place"]) fun _ _ _ _ _ _ us hl => match us, hl with | [_, _], _ => rfl
  have F_is_tree := fun_mk (st := s_is_tree) l_is_tree c_is_tree k_is_tree
  have B_is_tree := F_is_tree.binds (ps := ["tree"]) fun _ _ _ _ _ _ us hl => match us, hl with | [_], _ => rfl
  have F_need_tree := fun_mk (st := s_need_tree) l_need_tree c_need_tree k_need_tree
  have B_need_tree := F_need_tree.binds (ps := ["tree"]) fun _ _ _ _ _ _ us hl => match us, hl with | [_], _ => rfl
  have F_flat_number := fun_mk (st := s_flat_number) l_flat_number c_flat_number k_flat_number
  have B_flat_number := F_flat_number.binds (ps := ["tree", "place"]) fun _ _ _ _ _ _ us hl => match us, hl with | [_, _], _ => rfl
  have F_flattest := fun_mk (st := s_flattest) l_flattest c_flattest k_flattest
  have B_flattest := F_flattest.binds (ps := ["tree"]) fun _ _ _ _ _ _ us hl => match us, hl with | [_], _ => rfl
  have F_heights_of := fun_mk (st := s_heights_of) l_heights_of c_heights_of k_heights_of
  have B_heights_of := F_heights_of.binds (ps := ["flat", "row"]) fun _ _ _ _ _ _ us hl => match us, hl with | [_, _], _ => rfl
  have F_higher_pairs := fun_mk (st := s_higher_pairs) l_higher_pairs c_higher_pairs k_higher_pairs
  have B_higher_pairs := F_higher_pairs.binds (ps := ["tree", "heights"]) fun _ _ _ _ _ _ us hl => match us, hl with | [_, _], _ => rfl
  have F_clashing := fun_mk (st := s_clashing) l_clashing c_clashing k_clashing
  have B_clashing := F_clashing.binds (ps := ["tree", "row"]) fun _ _ _ _ _ _ us hl => match us, hl with | [_, _], _ => rfl
  have F__law_pool := fun_mk (st := s__law_pool) l__law_pool c__law_pool k__law_pool
  have B__law_pool := F__law_pool.binds (ps := ["script", "k"]) fun _ _ _ _ _ _ us hl => match us, hl with | [_, _], _ => rfl
  have F__law_pick := fun_mk (st := s__law_pick) l__law_pick c__law_pick k__law_pick
  have B__law_pick := F__law_pick.binds (ps := ["pool", "many"]) fun _ _ _ _ _ _ us hl => match us, hl with | [_, _], _ => rfl
  have F__law_size := fun_mk (st := s__law_size) l__law_size c__law_size k__law_size
  have B__law_size := F__law_size.binds (ps := ["pool", "most"]) fun _ _ _ _ _ _ us hl => match us, hl with | [_, _], _ => rfl
  have F__law_drops := fun_mk (st := s__law_drops) l__law_drops c__law_drops k__law_drops
  have B__law_drops := F__law_drops.binds (ps := ["pool", "many"]) fun _ _ _ _ _ _ us hl => match us, hl with | [_, _], _ => rfl
  have F__law_hung := fun_mk (st := s__law_hung) l__law_hung c__law_hung k__law_hung
  have B__law_hung := F__law_hung.binds (ps := ["drops"]) fun _ _ _ _ _ _ us hl => match us, hl with | [_], _ => rfl
  have F__law_tree := fun_mk (st := s__law_tree) l__law_tree c__law_tree k__law_tree
  have B__law_tree := F__law_tree.binds (ps := ["pool", "most"]) fun _ _ _ _ _ _ us hl => match us, hl with | [_, _], _ => rfl
  have F__law_over := fun_mk (st := s__law_over) l__law_over c__law_over k__law_over
  have B__law_over := F__law_over.binds (ps := ["tree", "place"]) fun _ _ _ _ _ _ us hl => match us, hl with | [_, _], _ => rfl
  have F__law_flats := fun_mk (st := s__law_flats) l__law_flats c__law_flats k__law_flats
  have B__law_flats := F__law_flats.binds (ps := ["tree"]) fun _ _ _ _ _ _ us hl => match us, hl with | [_], _ => rfl
  have F__law_kin_row := fun_mk (st := s__law_kin_row) l__law_kin_row c__law_kin_row k__law_kin_row
  have B__law_kin_row := F__law_kin_row.binds (ps := ["pool", "tree"]) fun _ _ _ _ _ _ us hl => match us, hl with | [_, _], _ => rfl
  have F__law_whole := fun_mk (st := s__law_whole) l__law_whole c__law_whole k__law_whole
  have B__law_whole := F__law_whole.binds (ps := ["thing"]) fun _ _ _ _ _ _ us hl => match us, hl with | [_], _ => rfl
  have F__law_near_row := fun_mk (st := s__law_near_row) l__law_near_row c__law_near_row k__law_near_row
  have B__law_near_row := F__law_near_row.binds (ps := ["pool", "tree"]) fun _ _ _ _ _ _ us hl => match us, hl with | [_, _], _ => rfl
  have F__law_clashes := fun_mk (st := s__law_clashes) l__law_clashes c__law_clashes k__law_clashes
  have B__law_clashes := F__law_clashes.binds (ps := ["tree", "row"]) fun _ _ _ _ _ _ us hl => match us, hl with | [_, _], _ => rfl
  have F_law := fun_mk (st := s_law) l_law c_law k_law
  refine ⟨PySem.W.fnOf "law" "law" (defArgs s_law) (defBody s_law) (defScope s_law) .none kV_law dc_law pm_law an_law cd_law ct_law, fun s v => .of_eq rfl, fun base _ _ => ?_⟩
  have G_settle : Callee l.prog w K mg base "settle" 1 ["elders", "spine", "place", "keep"] (sp_settle K mg) := ⟨_, _, PySem.W.mg_of X G a_settle, k_settle, B_settle, ok_settle F_settle  T⟩
  have G_tree_of : Callee l.prog w K mg base "tree_of" 2 ["row"] (sp_tree_of K mg) := ⟨_, _, PySem.W.mg_of X G a_tree_of, k_tree_of, B_tree_of, ok_tree_of F_tree_of G_settle T⟩
  have G_way_up : Callee l.prog w K mg base "way_up" 1 ["tree", "place"] (sp_way_up K mg) := ⟨_, _, PySem.W.mg_of X G a_way_up, k_way_up, B_way_up, ok_way_up F_way_up  T⟩
  have G_is_tree : Callee l.prog w K mg base "is_tree" 3 ["tree"] (sp_is_tree K mg) := ⟨_, _, PySem.W.mg_of X G a_is_tree, k_is_tree, B_is_tree, ok_is_tree F_is_tree G_tree_of G_way_up T⟩
  have G_need_tree : Callee l.prog w K mg base "need_tree" 4 ["tree"] (sp_need_tree K mg) := ⟨_, _, PySem.W.mg_of X G a_need_tree, k_need_tree, B_need_tree, ok_need_tree F_need_tree G_is_tree T⟩
  have G_flat_number : Callee l.prog w K mg base "flat_number" 2 ["tree", "place"] (sp_flat_number K mg) := ⟨_, _, PySem.W.mg_of X G a_flat_number, k_flat_number, B_flat_number, ok_flat_number F_flat_number G_way_up T⟩
  have G_flattest : Callee l.prog w K mg base "flattest" 5 ["tree"] (sp_flattest K mg) := ⟨_, _, PySem.W.mg_of X G a_flattest, k_flattest, B_flattest, ok_flattest F_flattest G_need_tree G_flat_number T⟩
  have G_heights_of : Callee l.prog w K mg base "heights_of" 1 ["flat", "row"] (sp_heights_of K mg) := ⟨_, _, PySem.W.mg_of X G a_heights_of, k_heights_of, B_heights_of, ok_heights_of F_heights_of  T⟩
  have G_higher_pairs : Callee l.prog w K mg base "higher_pairs" 2 ["tree", "heights"] (sp_higher_pairs K mg) := ⟨_, _, PySem.W.mg_of X G a_higher_pairs, k_higher_pairs, B_higher_pairs, ok_higher_pairs F_higher_pairs G_way_up T⟩
  have G_clashing : Callee l.prog w K mg base "clashing" 6 ["tree", "row"] (sp_clashing K mg) := ⟨_, _, PySem.W.mg_of X G a_clashing, k_clashing, B_clashing, ok_clashing F_clashing G_flattest G_heights_of G_higher_pairs T⟩
  have G__law_pool : Callee l.prog w K mg base "_law_pool" 1 ["script", "k"] (sp__law_pool K mg) := ⟨_, _, PySem.W.mg_of X G a__law_pool, k__law_pool, B__law_pool, ok__law_pool F__law_pool  T⟩
  have G__law_pick : Callee l.prog w K mg base "_law_pick" 1 ["pool", "many"] (sp__law_pick K mg) := ⟨_, _, PySem.W.mg_of X G a__law_pick, k__law_pick, B__law_pick, ok__law_pick F__law_pick  T⟩
  have G__law_size : Callee l.prog w K mg base "_law_size" 2 ["pool", "most"] (sp__law_size K mg) := ⟨_, _, PySem.W.mg_of X G a__law_size, k__law_size, B__law_size, ok__law_size F__law_size G__law_pick T⟩
  have G__law_drops : Callee l.prog w K mg base "_law_drops" 2 ["pool", "many"] (sp__law_drops K mg) := ⟨_, _, PySem.W.mg_of X G a__law_drops, k__law_drops, B__law_drops, ok__law_drops F__law_drops G__law_pick T⟩
  have G__law_hung : Callee l.prog w K mg base "_law_hung" 1 ["drops"] (sp__law_hung K mg) := ⟨_, _, PySem.W.mg_of X G a__law_hung, k__law_hung, B__law_hung, ok__law_hung F__law_hung  T⟩
  have G__law_tree : Callee l.prog w K mg base "_law_tree" 3 ["pool", "most"] (sp__law_tree K mg) := ⟨_, _, PySem.W.mg_of X G a__law_tree, k__law_tree, B__law_tree, ok__law_tree F__law_tree G__law_size G__law_drops G__law_hung T⟩
  have G__law_whole : Callee l.prog w K mg base "_law_whole" 1 ["thing"] (sp__law_whole K mg) := ⟨_, _, PySem.W.mg_of X G a__law_whole, k__law_whole, B__law_whole, ok__law_whole F__law_whole  T⟩
  have G__law_over : Callee l.prog w K mg base "_law_over" 1 ["tree", "place"] (sp__law_over K mg) := ⟨_, _, PySem.W.mg_of X G a__law_over, k__law_over, B__law_over, ok__law_over F__law_over  T⟩
  have G__law_kin_row : Callee l.prog w K mg base "_law_kin_row" 2 ["pool", "tree"] (sp__law_kin_row K mg) := ⟨_, _, PySem.W.mg_of X G a__law_kin_row, k__law_kin_row, B__law_kin_row, ok__law_kin_row F__law_kin_row G__law_pick G__law_over T⟩
  have G__law_near_row : Callee l.prog w K mg base "_law_near_row" 3 ["pool", "tree"] (sp__law_near_row K mg) := ⟨_, _, PySem.W.mg_of X G a__law_near_row, k__law_near_row, B__law_near_row, ok__law_near_row F__law_near_row G__law_pick G__law_kin_row T⟩
  have G__law_flats : Callee l.prog w K mg base "_law_flats" 2 ["tree"] (sp__law_flats K mg) := ⟨_, _, PySem.W.mg_of X G a__law_flats, k__law_flats, B__law_flats, ok__law_flats F__law_flats G__law_over T⟩
  have G__law_clashes : Callee l.prog w K mg base "_law_clashes" 3 ["tree", "row"] (sp__law_clashes K mg) := ⟨_, _, PySem.W.mg_of X G a__law_clashes, k__law_clashes, B__law_clashes, ok__law_clashes F__law_clashes G__law_over G__law_flats T⟩
  exact ok_law F_law G_clashing G__law_pool G__law_tree G__law_whole G__law_near_row G__law_clashes T
theorem walk {l : PySem.W.OpenLaw} {q : Program} {loose : List Str} {XP : (Str → Option Value) → Heap → Prop} {YP : World → Heap → Prop} {d : DefRec} {K : Params → PySem.W.Frag} (hn : l.most = some 63) (hdf : d.params.defaults = [])
    (hY : ∀ (w : World) (h : Heap), YP w h → (K w.params).In h)
    (F : ∀ (w : World) (mg : Str → Option Value) (fa : Addr) (h : Heap), (K w.params).In h → h.Ns mainGlobals mg → mg d.name = some (.ref fa) →
      ∃ fd : FuncData, (∀ (s : Shared) (u : Value), BindsTo s fd ⟨[u], []⟩ [("script", u)]) ∧ ∀ base : Heap, (K w.params).In base → base.Ns mainGlobals mg → FnOk l.prog w (K w.params) mg base (CXE l.prog w) 7 fa fd ["script"] (spLaw (K w.params))) :
    PySem.W.WalkO q loose XP YP l.row.toRowW d [] (fun f vs => PySem.call f vs) :=
  L2.walk_of (n := 63) (k := 7) (x := "script") (CX := fun w => CXE l.prog w) (sp := fun w => spLaw (K w.params)) hn (by decide) hdf ⟨rfl, by decide, by decide⟩ hY F (fun _ _ a ns hl _ hS => ⟨a, ns, rfl, hS, hl, fun _ => rfl⟩) fun _ _ _ _ _ ⟨_, _, _, _, _, _, _, z⟩ => z
end K64
def PySem.W.Fast.tw7041561219274415082 : Unit := ()
def PySem.W.Fast.tw13667104421410433855 : Unit := ()
def PySem.W.Fast.tw7727185720694841271 : Unit := ()
def PySem.W.Fast.tw11582728578283364880 : Unit := ()
def PySem.W.Fast.tw16131905805211159383 : Unit := ()
def PySem.W.Fast.tw18440934837699249145 : Unit := ()
def PySem.W.Fast.tw11705689533024018316 : Unit := ()
def PySem.W.Fast.tw10463664723375579024 : Unit := ()
def PySem.W.Fast.tw6828020404538531138 : Unit := ()
def PySem.W.Fast.tw11877473168360554491 : Unit := ()
def PySem.W.Fast.tw15422993159459930332 : Unit := ()
def PySem.W.Fast.tw8154865089785213729 : Unit := ()
def PySem.W.Fast.tw18327796043777201394 : Unit := ()
def PySem.W.Fast.tw18440890960825459551 : Unit := ()
def PySem.W.Fast.tw16712839565901064805 : Unit := ()
def PySem.W.Fast.tw4853932632715178270 : Unit := ()
def PySem.W.Fast.tw13461885599906864272 : Unit := ()
def PySem.W.Fast.tw9945982197907004291 : Unit := ()
def PySem.W.Fast.tw766737024844739196 : Unit := ()
def PySem.W.Fast.tw11407500142038176002 : Unit := ()
def PySem.W.Fast.tw16630818915344746652 : Unit := ()
def PySem.W.Fast.tw2997571361114557231 : Unit := ()
def PySem.W.Fast.tw5043178343942678289 : Unit := ()
def PySem.W.Fast.tw15402250296989369858 : Unit := ()
def PySem.W.Fast.tw14972249746991966296 : Unit := ()
def PySem.W.Fast.tw14764203580832072966 : Unit := ()
def PySem.W.Fast.tw13926703062532706347 : Unit := ()
def PySem.W.Fast.tw11595589923096663316 : Unit := ()
def PySem.W.Fast.tw11050130086039387340 : Unit := ()
def PySem.W.Fast.tw10585117008669079059 : Unit := ()
def PySem.W.Fast.tw14408445906321723121 : Unit := ()
def PySem.W.Fast.tw13185112748397595277 : Unit := ()
def PySem.W.Fast.tw16892893295138767836 : Unit := ()
def PySem.W.Fast.tw17786965711622973838 : Unit := ()
def PySem.W.Fast.tw14409941964903819368 : Unit := ()
def PySem.W.Fast.tw8393772024455204261 : Unit := ()
def PySem.W.Fast.tw1218997299228174345 : Unit := ()
def PySem.W.Fast.tw16391363749557241285 : Unit := ()
def PySem.W.Fast.tw9859724007857761896 : Unit := ()
def PySem.W.Fast.tw16647522360570407336 : Unit := ()
def PySem.W.Fast.tw11256430845528852205 : Unit := ()
def PySem.W.Fast.tw8577465880683344018 : Unit := ()
def PySem.W.Fast.tw10065353271422830683 : Unit := ()
def PySem.W.Fast.tw5167100120566302447 : Unit := ()
def PySem.W.Fast.tw10819297327402094339 : Unit := ()
def PySem.W.Fast.tw5700796234328657128 : Unit := ()
def PySem.W.Fast.tw12776836416677769442 : Unit := ()
def PySem.W.Fast.tw148764394585469700 : Unit := ()
def PySem.W.Fast.tw11708801467257659646 : Unit := ()
def PySem.W.Fast.tw5675806073517805592 : Unit := ()
def PySem.W.Fast.tw1256899815139428078 : Unit := ()
def PySem.W.Fast.tw10248961605766976782 : Unit := ()
def PySem.W.Fast.tw16602405040054741095 : Unit := ()
def PySem.W.Fast.tw14139460560737653641 : Unit := ()
def PySem.W.Fast.tw11951792778485889559 : Unit := ()
def PySem.W.Fast.tw18237318151977709372 : Unit := ()
def PySem.W.Fast.tw15911017600612783508 : Unit := ()
def PySem.W.Fast.tw150904092268212700 : Unit := ()
def PySem.W.Fast.tw8661281214821498215 : Unit := ()
def PySem.W.Fast.tw5945597791313104519 : Unit := ()
def PySem.W.Fast.tw2695302014409619028 : Unit := ()
def PySem.W.Fast.tw15837556235309795888 : Unit := ()
def PySem.W.Fast.tw16386961202808615638 : Unit := ()
def PySem.W.Fast.tw8012517679887051346 : Unit := ()
def PySem.W.Fast.tw16884481884375773220 : Unit := ()
def PySem.W.Fast.tw8432416478756176267 : Unit := ()
def PySem.W.Fast.tw5990017154243373126 : Unit := ()
def PySem.W.Fast.tw16363945773362997889 : Unit := ()

open PySem PySem.W PyProof.Rows
set_option maxRecDepth 100000 in
set_option maxHeartbeats 0 in
theorem PySem.Challenge.cw_dipkin_k64_clashing_told_holds : PySem.Challenge.rw_dipkin_k64_clashing_told.Holds := by
  w_on; o_law; k_head; (case hw => w_witness2)
  k_fill
  refine K64.walk (l := PySem.Challenge.rw_dipkin_k64_clashing_told) rfl rfl (fun w h Y => PySem.W.kIn_of Y) ?F
  case F =>
    intro w mg fa h KX G hmg
    refine' K64.all_mk KX G hmg ?a_settle ?l_settle ?c_settle ?k_settle ?a_tree_of ?l_tree_of ?c_tree_of ?k_tree_of ?a_way_up ?l_way_up ?c_way_up ?k_way_up ?a_is_tree ?l_is_tree ?c_is_tree ?k_is_tree ?a_need_tree ?l_need_tree ?c_need_tree ?k_need_tree ?a_flat_number ?l_flat_number ?c_flat_number ?k_flat_number ?a_flattest ?l_flattest ?c_flattest ?k_flattest ?a_heights_of ?l_heights_of ?c_heights_of ?k_heights_of ?a_higher_pairs ?l_higher_pairs ?c_higher_pairs ?k_higher_pairs ?a_clashing ?l_clashing ?c_clashing ?k_clashing ?a__law_pool ?l__law_pool ?c__law_pool ?k__law_pool ?a__law_pick ?l__law_pick ?c__law_pick ?k__law_pick ?a__law_size ?l__law_size ?c__law_size ?k__law_size ?a__law_drops ?l__law_drops ?c__law_drops ?k__law_drops ?a__law_hung ?l__law_hung ?c__law_hung ?k__law_hung ?a__law_tree ?l__law_tree ?c__law_tree ?k__law_tree ?a__law_over ?l__law_over ?c__law_over ?k__law_over ?a__law_flats ?l__law_flats ?c__law_flats ?k__law_flats ?a__law_kin_row ?l__law_kin_row ?c__law_kin_row ?k__law_kin_row ?a__law_whole ?l__law_whole ?c__law_whole ?k__law_whole ?a__law_near_row ?l__law_near_row ?c__law_near_row ?k__law_near_row ?a__law_clashes ?l__law_clashes ?c__law_clashes ?k__law_clashes ?a_law ?l_law ?c_law ?k_law ?n_DipError ?x_DipError ?d_DipError ?y_DipError ?n_Unlike ?x_Unlike ?d_Unlike ?y_Unlike ?n_NoTree ?x_NoTree ?d_NoTree ?y_NoTree ?b_bool ?b_enumerate ?b_int ?b_isinstance ?b_len ?b_list ?b_max ?b_min ?b_range ?b_sorted ?b_tuple ?b_zip ?m_MOST_PLACES
    (case a_settle => k_is)
    (case l_settle => k_is)
    (case c_settle => k_is)
    (case k_settle => k_is)
    (case a_tree_of => k_is)
    (case l_tree_of => k_is)
    (case c_tree_of => k_is)
    (case k_tree_of => k_is)
    (case a_way_up => k_is)
    (case l_way_up => k_is)
    (case c_way_up => k_is)
    (case k_way_up => k_is)
    (case a_is_tree => k_is)
    (case l_is_tree => k_is)
    (case c_is_tree => k_is)
    (case k_is_tree => k_is)
    (case a_need_tree => k_is)
    (case l_need_tree => k_is)
    (case c_need_tree => k_is)
    (case k_need_tree => k_is)
    (case a_flat_number => k_is)
    (case l_flat_number => k_is)
    (case c_flat_number => k_is)
    (case k_flat_number => k_is)
    (case a_flattest => k_is)
    (case l_flattest => k_is)
    (case c_flattest => k_is)
    (case k_flattest => k_is)
    (case a_heights_of => k_is)
    (case l_heights_of => k_is)
    (case c_heights_of => k_is)
    (case k_heights_of => k_is)
    (case a_higher_pairs => k_is)
    (case l_higher_pairs => k_is)
    (case c_higher_pairs => k_is)
    (case k_higher_pairs => k_is)
    (case a_clashing => k_is)
    (case l_clashing => k_is)
    (case c_clashing => k_is)
    (case k_clashing => k_is)
    (case a__law_pool => k_is)
    (case l__law_pool => k_is)
    (case c__law_pool => k_is)
    (case k__law_pool => k_is)
    (case a__law_pick => k_is)
    (case l__law_pick => k_is)
    (case c__law_pick => k_is)
    (case k__law_pick => k_is)
    (case a__law_size => k_is)
    (case l__law_size => k_is)
    (case c__law_size => k_is)
    (case k__law_size => k_is)
    (case a__law_drops => k_is)
    (case l__law_drops => k_is)
    (case c__law_drops => k_is)
    (case k__law_drops => k_is)
    (case a__law_hung => k_is)
    (case l__law_hung => k_is)
    (case c__law_hung => k_is)
    (case k__law_hung => k_is)
    (case a__law_tree => k_is)
    (case l__law_tree => k_is)
    (case c__law_tree => k_is)
    (case k__law_tree => k_is)
    (case a__law_over => k_is)
    (case l__law_over => k_is)
    (case c__law_over => k_is)
    (case k__law_over => k_is)
    (case a__law_flats => k_is)
    (case l__law_flats => k_is)
    (case c__law_flats => k_is)
    (case k__law_flats => k_is)
    (case a__law_kin_row => k_is)
    (case l__law_kin_row => k_is)
    (case c__law_kin_row => k_is)
    (case k__law_kin_row => k_is)
    (case a__law_whole => k_is)
    (case l__law_whole => k_is)
    (case c__law_whole => k_is)
    (case k__law_whole => k_is)
    (case a__law_near_row => k_is)
    (case l__law_near_row => k_is)
    (case c__law_near_row => k_is)
    (case k__law_near_row => k_is)
    (case a__law_clashes => k_is)
    (case l__law_clashes => k_is)
    (case c__law_clashes => k_is)
    (case k__law_clashes => k_is)
    (case a_law => k_is)
    (case l_law => k_is)
    (case c_law => k_is)
    (case k_law => k_is)
    (case n_DipError => k_is)
    (case x_DipError => k_exc)
    (case d_DipError => k_is)
    (case y_DipError => k_is)
    (case n_Unlike => k_is)
    (case x_Unlike => k_exc)
    (case d_Unlike => k_is)
    (case y_Unlike => k_is)
    (case n_NoTree => k_is)
    (case x_NoTree => k_exc)
    (case d_NoTree => k_is)
    (case y_NoTree => k_is)
    (case b_bool => k_is)
    (case b_enumerate => k_is)
    (case b_int => k_is)
    (case b_isinstance => k_is)
    (case b_len => k_is)
    (case b_list => k_is)
    (case b_max => k_is)
    (case b_min => k_is)
    (case b_range => k_is)
    (case b_sorted => k_is)
    (case b_tuple => k_is)
    (case b_zip => k_is)
    (case m_MOST_PLACES => k_is)

