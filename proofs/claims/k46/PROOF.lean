import PyProof.Rows.All
import Wide.All
import OpenK.AllK
import Wide.FinOn
import Lean
import PyProof.EqAt
import PyProof.EqKinds
import PyProof.TupleCall
import PyProof.MeetsSeq
import PyProof.NeKinds
import PyProof.TupleOfSeq
import PyProof.ListRange
import PyProof.TupleOfGen
import PyProof.ZipIter
import KE.KRevIter
import PyProof.StrWalks
import PyProof.StrBlock2
import PyProof.MeetsStr
import PyProof.StrCalls2
import PyProof.StrLawsIn
import KE.KIntText
import PyProof.StrLawsTight
import PyProof.StrLawsChain
import PyProof.StrLawsAffix
import PyProof.Rows.StrItems
import PyProof.Rows.ReprOcc
import KE.KDictSum
import PyProof.Rows.SeqMore
import KE.KDictList
import PySem.Challenge.RW_dipkin_k46_groups_told
set_option Elab.async false
set_option linter.all false
set_option maxRecDepth 100000

namespace L2
open PySem PySem.Spec PyProof.Rows


abbrev Key := Sum Int Str
def keyIs : Key → Value → Bool
  | .inl k, v => Value.isInt k v
  | .inr x, v => Value.isStrOf x v
def keyH (w : World) : Key → Int
  | .inl k => hashInt k
  | .inr x => hashStr w x
theorem keyIs_shape : ∀ {k : Key} {v : Value}, keyIs k v = true → (∃ i t, k = Sum.inl i ∧ v = Value.int i t) ∨ (∃ x t, k = Sum.inr x ∧ v = Value.str x t)
  | .inl i, v, h => by
    obtain ⟨t, e⟩ := Value.isInt_shape (k := i) (v := v) h
    exact .inl ⟨i, t, rfl, e⟩
  | .inr x, v, h => by
    obtain ⟨t, e⟩ := Value.isStrOf_shape (x := x) (v := v) h
    exact .inr ⟨x, t, rfl, e⟩
theorem keyIs_int (i : Int) (t : Tok) : keyIs (.inl i) (.int i t) = true := by simp [keyIs, Value.isInt]
theorem keyIs_str (x : Str) (t : Tok) : keyIs (.inr x) (.str x t) = true := by simp [keyIs, Value.isStrOf]
theorem key_ll (a b : Int) : decide ((Sum.inl a : Key) = Sum.inl b) = (a == b) := by
  by_cases e : a = b
  · subst e; simp
  · have h : ¬ (Sum.inl a : Key) = Sum.inl b := fun q => e (Sum.inl.inj q)
    rw [decide_eq_false h]
    exact (beq_eq_false_iff_ne.mpr e).symm
theorem key_rr (a b : Str) : decide ((Sum.inr a : Key) = Sum.inr b) = decide (a = b) := by
  by_cases e : a = b
  · subst e; simp
  · have h : ¬ (Sum.inr a : Key) = Sum.inr b := fun q => e (Sum.inr.inj q)
    rw [decide_eq_false h, decide_eq_false e]
theorem key_lr (a : Int) (b : Str) : decide ((Sum.inl a : Key) = Sum.inr b) = false := decide_eq_false (fun q => nomatch q)
theorem key_rl (a : Str) (b : Int) : decide ((Sum.inr a : Key) = Sum.inl b) = false := decide_eq_false (fun q => nomatch q)

def mixKind (prog : Program) (w : World) : PySem.KeyKind prog w Key where
  is := keyIs
  hash := keyH w
  inj := fun v a b ha hb => by
    rcases keyIs_shape ha with ⟨i, t, rfl, rfl⟩ | ⟨x, t, rfl, rfl⟩
    · rcases keyIs_shape hb with ⟨j, u, rfl, e⟩ | ⟨y, u, rfl, e⟩
      · injection e with e1 _; rw [e1]
      · exact nomatch e
    · rcases keyIs_shape hb with ⟨j, u, rfl, e⟩ | ⟨y, u, rfl, e⟩
      · exact nomatch e
      · injection e with e1 _; rw [e1]
  byValue := fun k v h => by
    rcases keyIs_shape h with ⟨i, t, rfl, rfl⟩ | ⟨x, t, rfl, rfl⟩ <;> rfl
  pyHash := fun hv h => by
    rcases keyIs_shape hv with ⟨i, t, rfl, rfl⟩ | ⟨x, t, rfl, rfl⟩
    · exact wpAny_pyHash_int h
    · exact wpAny_pyHash_str h
  eqBool := fun hu hv h => by
    rcases keyIs_shape hu with ⟨i, t, rfl, rfl⟩ | ⟨x, t, rfl, rfl⟩
    · rcases keyIs_shape hv with ⟨j, u, rfl, rfl⟩ | ⟨y, u, rfl, rfl⟩
      · rw [key_ll] at h; exact wpAny_eqBool_int h
      · rw [key_lr] at h; exact SeqAt.EqAt.int_str i t y u _ _ _ _ h
    · rcases keyIs_shape hv with ⟨j, u, rfl, rfl⟩ | ⟨y, u, rfl, rfl⟩
      · rw [key_rl] at h; exact SeqAt.EqAt.str_int x t j u _ _ _ _ h
      · rw [key_rr] at h; exact wpAny_eqBool_str h
  «strs» := fun k x t v h => by
    rcases keyIs_shape h with ⟨i, u, rfl, e⟩ | ⟨y, u, rfl, e⟩
    · exact nomatch e
    · injection e with e1 _
      subst e1
      cases v <;> rfl

theorem mixKind_int (prog : Program) (w : World) (i : Int) (t : Tok) : (mixKind prog w).is (.inl i) (.int i t) = true := keyIs_int i t
theorem mixKind_str (prog : Program) (w : World) (x : Str) (t : Tok) : (mixKind prog w).is (.inr x) (.str x t) = true := keyIs_str x t
end L2

namespace L2
open PySem PySem.Spec PyProof.Rows


inductive V where
  | non | bl (b : Bool) | int (i : Int) | str (x : Str) | byt (b : Array UInt8) | flt (b : UInt64) | ref (a : Addr) | ty (n : String)
  deriving DecidableEq

def RelV : V → Value → Prop
  | .non, u => u = Value.none
  | .bl b, u => u = Value.bool b
  | .int i, u => ∃ t, u = Value.int i t
  | .str x, u => ∃ t, u = Value.str x t
  | .byt b, u => ∃ t, u = Value.bytes b t
  | .flt b, u => ∃ t, u = Value.float b t
  | .ref a, u => u = Value.ref a
  | .ty n, u => u = Value.type n

abbrev Vals : List V → List Value → Prop := Paired RelV
theorem Vals.length {xs : List V} {us : List Value} (r : Vals xs us) : xs.length = us.length := Paired.length r
theorem Vals.get : ∀ {xs : List V} {us : List Value} {i : Nat} {x : V}, Vals xs us → xs[i]? = some x → ∃ u, us[i]? = some u ∧ RelV x u
  | _, _, _, _, .nil, e => by simp at e
  | _, _, 0, _, .cons r _, e => by simp at e; subst e; exact ⟨_, rfl, r⟩
  | _, _, i + 1, x, .cons _ t, e => by
    obtain ⟨u, h1, h2⟩ := Vals.get (i := i) (x := x) t (by simpa using e)
    exact ⟨u, by simpa using h1, h2⟩
theorem Vals.set {x : V} {u : Value} (r : RelV x u) : ∀ {xs : List V} {us : List Value} (i : Nat), Vals xs us → Vals (xs.set i x) (us.set i u)
  | _, _, _, .nil => .nil
  | _, _, 0, .cons _ t => .cons r t
  | _, _, i + 1, .cons q t => .cons q (Vals.set r i t)
theorem Vals.append : ∀ {xs ys : List V} {us ws : List Value}, Vals xs us → Vals ys ws → Vals (xs ++ ys) (us ++ ws)
  | _, _, _, _, .nil, s => s
  | _, _, _, _, .cons r t, s => .cons r (Vals.append t s)
theorem Vals.take : ∀ {xs : List V} {us : List Value} (n : Nat), Vals xs us → Vals (xs.take n) (us.take n)
  | _, _, 0, _ => .nil
  | _, _, _ + 1, .nil => .nil
  | _, _, n + 1, .cons r t => .cons r (Vals.take n t)
theorem Vals.drop : ∀ {xs : List V} {us : List Value} (n : Nat), Vals xs us → Vals (xs.drop n) (us.drop n)
  | _, _, 0, r => r
  | _, _, _ + 1, .nil => .nil
  | _, _, n + 1, .cons _ t => Vals.drop n t
def RelO : Option V → Option Value → Prop
  | some v, some u => RelV v u
  | none, none => True
  | _, _ => False
def KV {κ : Type} : List (κ × V) → List (κ × Value) → Prop := Paired fun (p : κ × V) (q : κ × Value) => p.1 = q.1 ∧ RelV p.2 q.2


def kV : Key → V
  | .inl i => .int i
  | .inr x => .str x


inductive HO where
  
  | lst (xs : List V)
  
  | tup (xs : List V)
  
  | dK (kvs : List (Key × V)) | dT (kvs : List (List Key × V))
  
  | set (S : Int → Bool) (n : Nat)
  
  | ins (C dx : Addr) (fs : List (Str × V))
  
  | own (x : Addr)
  
  | xd (fs : List (Str × V))
  
  | met (f x : Addr)
  
  | rng (lo hi : Int)
  
  | frz (o : Obj) (u : HO)
  
  | tbl (ps : Array Value)
  
  | ext (φ : Heap → Prop)

abbrev Hp := Addr → Option HO
def upd (H : Hp) (a : Addr) (o : HO) : Hp := fun b => if b = a then some o else H b
theorem upd_same {H : Hp} {a : Addr} {o : HO} : upd H a o a = some o := by unfold upd; rw [if_pos rfl]
theorem upd_ne {H : Hp} {a b : Addr} {o : HO} (h : b ≠ a) : upd H a o b = H b := by unfold upd; rw [if_neg h]
theorem ne_of {H : Hp} {a b : Addr} {o u : HO} (h : H a = some o) (h' : H b = some u) (d : o ≠ u) : a ≠ b := by
  intro e; subst e; rw [h] at h'; exact d (Option.some.inj h')
theorem ne_of_none {H : Hp} {a b : Addr} {o : HO} (h : H a = some o) (h' : H b = none) : a ≠ b := by
  intro e; subst e; rw [h] at h'; cases h'

section
variable (P : Program) (w : World)
def ObjOk (H : Hp) (h : Heap) (a : Addr) : HO → Prop
  | .lst xs => xs.length ≤ sizeLine ∧ ∃ (its : List Value) (n : Nat), Vals xs its ∧ h.get? a = some { cls := .type "list", data := .seq its.toArray n }
  | .tup xs => xs.length ≤ sizeLine ∧ ∃ its : List Value, Vals xs its ∧ IsTup h a its.toArray
  | .dK kvs => kvs.length ≤ sizeLine ∧ (a == sysModules) = false ∧ ∃ vs, KV kvs vs ∧ h.DictOf (mixKind P w) a vs
  | .dT kvs => kvs.length ≤ sizeLine ∧ (a == sysModules) = false ∧ ∃ xs : List (List Key × Addr × Value),
      Paired (fun (p : List Key × V) (q : List Key × Addr × Value) => p.1 = q.1 ∧ H q.2.1 = some (.tup (p.1.map kV)) ∧ RelV p.2 q.2.2) kvs xs ∧
      ∃ o es ep, h.get? a = some o ∧ o.ExactDict ∧ o.data = .dict es ep ∧ es.toList = xs.map (entryOfKey (tupleKind (mixKind P w))) ∧ (xs.map (·.1)).Nodup
  | .set S n => h.SetOf (intKind P w) a S n
  | .ins C dx fs => H dx = some (.own a) ∧ fs.length ≤ 1000 ∧ dx ≠ a ∧ h.get? a = some (PySem.W.instObj C dx) ∧
      ∃ mA, h.Ns1 dx mA ∧ (∀ f, RelO (fs.lookup f) (mA f)) ∧ PySem.Within mA (fs.map (·.1))
  | .own _ => ∃ o, h.get? a = some o
  | .xd fs => ∃ mA, h.Ns1 a mA ∧ ∀ f, RelO (fs.lookup f) (mA f)
  | .rng lo hi => ∃ t u v, h.get? a = some { cls := .type "range", data := .fields #[.int lo t, .int hi u, .int 1 v] }
  | .frz o u => h.get? a = some o ∧ ObjOk H h a u
  | .tbl ps => h.get? a = some { cls := .none, data := .fields ps }
  | .met f x => h.get? a = some (PySem.W.methodObj (.ref f) (.ref x))
  | .ext φ => φ h ∧ (∃ o, h.get? a = some o) ∧ ∀ h1 h2 : Heap, φ h1 → (∀ o, h1.get? a = some o → h2.get? a = some o) → φ h2

def HOk (H : Hp) (h : Heap) : Prop := ∀ a o, H a = some o → ObjOk P w H h a o
end

section
variable {P : Program} {w : World} {H H' : Hp} {h h' : Heap} {a : Addr} {o : HO}
theorem ObjOk.lt (x : ObjOk P w H h a o) : a < h.objs.size := by
  cases o with
  | lst xs => obtain ⟨_, _, _, _, e⟩ := x; exact Heap.lt_size e
  | tup xs => obtain ⟨_, _, _, p⟩ := x; exact p.lt
  | dK kvs => obtain ⟨_, _, _, _, o, _, _, e, _⟩ := x; exact Heap.lt_size e
  | dT kvs => obtain ⟨_, _, _, _, o, _, _, e, _⟩ := x; exact Heap.lt_size e
  | set S n => obtain ⟨o, _, _, _, e, _⟩ := x; exact Heap.lt_size e
  | ins C dx fs => obtain ⟨_, _, _, e, _⟩ := x; exact Heap.lt_size e
  | own y => obtain ⟨_, e⟩ := x; exact Heap.lt_size e
  | xd fs => obtain ⟨_, ⟨_, _, _, e, _⟩, _⟩ := x; exact Heap.lt_size e
  | rng lo hi => obtain ⟨_, _, _, e⟩ := x; exact Heap.lt_size e
  | frz ob u => obtain ⟨e, _⟩ := x; exact Heap.lt_size e
  | tbl ps => exact Heap.lt_size (show h.get? a = some _ from x)
  | met f y => exact Heap.lt_size (show h.get? a = some _ from x)
  | ext φ => obtain ⟨_, ⟨_, e⟩, _⟩ := x; exact Heap.lt_size e
theorem Paired.mapP {α β : Type} {F G : α → β → Prop} : ∀ {l₁ : List α} {l₂ : List β}, Paired F l₁ l₂ → (∀ a b, F a b → G a b) → Paired G l₁ l₂
  | _, _, .nil, _ => .nil
  | _, _, .cons r t, f => .cons (f _ _ r) (Paired.mapP t f)
theorem ObjOk.stay (x : ObjOk P w H h a o) (k : ∀ b u, (b = a ∨ H b = some (.own a)) → h.get? b = some u → h'.get? b = some u)
    (ho : ∀ b, H b = some (.own a) → H' b = some (.own a)) (ht : ∀ b xs, H b = some (.tup xs) → H' b = some (.tup xs)) : ObjOk P w H' h' a o := by
  induction o with
  | lst xs => obtain ⟨z, its, n, r, e⟩ := x; exact ⟨z, its, n, r, k _ _ (.inl rfl) e⟩
  | tup xs => obtain ⟨z, its, r, ob, e, c⟩ := x; exact ⟨z, its, r, ob, k _ _ (.inl rfl) e, c⟩
  | dK kvs => obtain ⟨z, y, vs, r, ob, es, ep, e, c⟩ := x; exact ⟨z, y, vs, r, ob, es, ep, k _ _ (.inl rfl) e, c⟩
  | dT kvs =>
    obtain ⟨z, y, xs, r, ob, es, ep, e, c⟩ := x
    exact ⟨z, y, xs, Paired.mapP r fun p q z => ⟨z.1, ht _ _ z.2.1, z.2.2⟩, ob, es, ep, k _ _ (.inl rfl) e, c⟩
  | set S n => obtain ⟨ob, es, ep, t, e, c⟩ := x; exact ⟨ob, es, ep, t, k _ _ (.inl rfl) e, c⟩
  | ins C dx fs =>
    obtain ⟨d, z, ne, e, mA, ⟨od, es, ep, e2, c⟩, r⟩ := x
    exact ⟨ho _ d, z, ne, k _ _ (.inl rfl) e, mA, ⟨od, es, ep, k _ _ (.inr d) e2, c⟩, r⟩
  | own y => obtain ⟨ob, e⟩ := x; exact ⟨ob, k _ _ (.inl rfl) e⟩
  | xd fs => obtain ⟨mA, ⟨od, es, ep, e, c⟩, r⟩ := x; exact ⟨mA, ⟨od, es, ep, k _ _ (.inl rfl) e, c⟩, r⟩
  | rng lo hi => obtain ⟨t, u, v, e⟩ := x; exact ⟨t, u, v, k _ _ (.inl rfl) e⟩
  | frz ob u ih => obtain ⟨e, q⟩ := x; exact ⟨k _ _ (.inl rfl) e, ih q⟩
  | tbl ps =>
    have e : h.get? a = some { cls := .none, data := .fields ps } := x
    show h'.get? a = some { cls := .none, data := .fields ps }
    exact k a _ (.inl rfl) e
  | met f y =>
    have e : h.get? a = some (PySem.W.methodObj (.ref f) (.ref y)) := x
    show h'.get? a = some (PySem.W.methodObj (.ref f) (.ref y))
    exact k a _ (.inl rfl) e
  | ext φ => obtain ⟨p, ⟨o, e⟩, st⟩ := x; exact ⟨st _ _ p fun o q => k _ _ (.inl rfl) q, ⟨o, k _ _ (.inl rfl) e⟩, st⟩
theorem HOk.lt (x : HOk P w H h) (e : H a = some o) : a < h.objs.size := (x a o e).lt
theorem HOk.fresh (x : HOk P w H h) (e : h.objs.size ≤ a) : H a = none := by
  cases q : H a with
  | none => rfl
  | some u => exact absurd (Nat.lt_of_lt_of_le (x.lt q) e) (Nat.lt_irrefl _)

theorem HOk.kept (x : HOk P w H h) (k : ∀ b u, h.get? b = some u → h'.get? b = some u) : HOk P w H h' := fun a o e =>
  (x a o e).stay (fun b u _ q => k b u q) (fun _ q => q) fun _ _ q => q

theorem HOk.laid (x : HOk P w H h) (k : ∀ b u, h.get? b = some u → h'.get? b = some u) (hp : h.objs.size ≤ a) (new : ObjOk P w (upd H a o) h' a o) : HOk P w (upd H a o) h' := fun b u e => by
  have hn := x.fresh hp
  by_cases hb : b = a
  · subst hb; rw [upd_same] at e; cases e; exact new
  · rw [upd_ne hb] at e
    exact (x b u e).stay (fun c v _ q => k c v q) (fun c q => by rw [upd_ne (ne_of_none q hn)]; exact q) fun c xs q => by rw [upd_ne (ne_of_none q hn)]; exact q
end


def Rd (H : Hp) (a : Addr) (u : HO) : Prop := H a = some u ∨ ∃ o, H a = some (.frz o u)
theorem Rd.of {H : Hp} {a : Addr} {u : HO} (h : H a = some u) : Rd H a u := .inl h
theorem Rd.ok {P : Program} {w : World} {H : Hp} {h : Heap} {a : Addr} {u : HO} (r : Rd H a u) (x : HOk P w H h) : ObjOk P w H h a u := by
  rcases r with r | ⟨o, r⟩
  · exact x a u r
  · obtain ⟨_, q⟩ := x a _ r
    exact q

def Mut : Option HO → Prop
  | some (.lst _) => True
  | some (.dK _) => True
  | some (.dT _) => True
  | some (.set _ _) => True
  | some (.ins _ _ _) => True
  | some (.ext _) => True
  | _ => False
section
variable {P : Program} {w : World} {H : Hp} {h h' : Heap} {x e : Addr} {o' : HO}

theorem HOk.write (ok : HOk P w H h) (mu : Mut (H x)) (he : e = x ∨ H e = some (.own x)) (k : ∀ b u, b ≠ e → h.get? b = some u → h'.get? b = some u) (heo : ∃ u, h'.get? e = some u)
    (new : ObjOk P w (upd H x o') h' x o') : HOk P w (upd H x o') h' := fun b u q => by
  have nown : ∀ c y, H c = some (.own y) → c ≠ x := fun c y r z => by subst z; rw [r] at mu; exact mu
  have ntup : ∀ c xs, H c = some (.tup xs) → c ≠ x := fun c xs r z => by subst z; rw [r] at mu; exact mu
  by_cases hb : b = x
  · subst hb; rw [upd_same] at q; cases q; exact new
  · rw [upd_ne hb] at q
    by_cases hbe : b = e
    · have q' : H b = some (.own x) := by
        rcases he with z | z
        · exact absurd (hbe.trans z) hb
        · rw [hbe]; exact z
      rw [q] at q'; cases q'
      obtain ⟨v, hv⟩ := heo
      exact ⟨v, by rw [hbe]; exact hv⟩
    · refine (ok b u q).stay (fun c v hc r => k c v ?_ r) (fun c r => by rw [upd_ne (nown c b r)]; exact r) fun c xs r => by rw [upd_ne (ntup c xs r)]; exact r
      rcases hc with rfl | hc
      · exact hbe
      · rintro rfl
        rcases he with z | z
        · exact nown c b hc z
        · rw [hc] at z; cases z; exact hb rfl
end


structure Un (fs ex : List Addr) (H H' : Hp) (h h' : Heap) : Prop where
  keep : ∀ b o, h.get? b = some o → H b = none → b ∉ fs → b ∉ ex → h'.get? b = some o
  slot : ∀ b o, h.get? b = some o → H b = none → b ∈ fs → b ∉ ex → ∃ sl, h'.get? b = some { o with slots := sl }
  free : ∀ b o, h.get? b = some o → H b = none → b ∉ ex → H' b = none
  there : ∀ b o, h.get? b = some o → b ∉ ex → ∃ o', h'.get? b = some o'
  tups : ∀ b xs, H b = some (.tup xs) → H' b = some (.tup xs)
  frzs : ∀ b o u, H b = some (.frz o u) → H' b = some (.frz o u)
  tbls : ∀ b ps, H b = some (.tbl ps) → ∃ more, H' b = some (.tbl (ps ++ more))
section
variable {fs fs' ex ex' : List Addr} {H H1 H2 : Hp} {h h1 h2 h' : Heap} {a x e : Addr} {o : HO}
theorem Un.any (u : Un fs ex H H1 h h1) {b : Addr} {ob : Obj} (q : h.get? b = some ob) (n : H b = none) (hx : b ∉ ex) : ∃ sl, h1.get? b = some { ob with slots := sl } := by
  by_cases hb : b ∈ fs
  · exact u.slot b ob q n hb hx
  · exact ⟨ob.slots, u.keep b ob q n hb hx⟩
theorem Un.trans (a : Un fs ex H H1 h h1) (b : Un fs ex H1 H2 h1 h2) : Un fs ex H H2 h h2 where
  keep := fun c ob q n hc hx => b.keep c ob (a.keep c ob q n hc hx) (a.free c ob q n hx) hc hx
  slot := fun c ob q n hc hx => by
    obtain ⟨sl, e1⟩ := a.slot c ob q n hc hx
    obtain ⟨sl', e2⟩ := b.slot c _ e1 (a.free c ob q n hx) hc hx
    exact ⟨sl', e2⟩
  free := fun c ob q n hx => by
    obtain ⟨o', e1⟩ := a.there c ob q hx
    exact b.free c o' e1 (a.free c ob q n hx) hx
  there := fun c ob q hx => by
    obtain ⟨o', e1⟩ := a.there c ob q hx
    exact b.there c o' e1 hx
  tups := fun c xs q => b.tups c xs (a.tups c xs q)
  frzs := fun c ob xs q => b.frzs c ob xs (a.frzs c ob xs q)
  tbls := fun c ps q => by
    obtain ⟨m1, e1⟩ := a.tbls c ps q
    obtain ⟨m2, e2⟩ := b.tbls c _ e1
    exact ⟨m1 ++ m2, by rw [e2, Array.append_assoc]⟩
theorem Un.kept (k : ∀ b u, h.get? b = some u → h'.get? b = some u) : Un fs ex H H h h' :=
  ⟨fun b ob q _ _ _ => k b ob q, fun b ob q _ _ _ => ⟨ob.slots, k b ob q⟩, fun _ _ _ n _ => n, fun b ob q _ => ⟨ob, k b ob q⟩, fun _ _ q => q, fun _ _ _ q => q, fun _ ps q => ⟨#[], by rw [q]; simp⟩⟩
theorem Un.refl : Un fs ex H H h h := Un.kept fun _ _ q => q
theorem Un.laid (k : ∀ b u, h.get? b = some u → h'.get? b = some u) (hp : h.objs.size ≤ a) (hn : H a = none) : Un fs ex H (upd H a o) h h' where
  keep := fun b u q _ _ _ => k b u q
  slot := fun b u q _ _ _ => ⟨u.slots, k b u q⟩
  free := fun b u q n _ => by rw [upd_ne (Nat.ne_of_lt (Nat.lt_of_lt_of_le (Heap.lt_size q) hp))]; exact n
  there := fun b u q _ => ⟨u, k b u q⟩
  tups := fun b xs q => by rw [upd_ne (ne_of_none q hn)]; exact q
  frzs := fun b u xs q => by rw [upd_ne (ne_of_none q hn)]; exact q
  tbls := fun b ps q => ⟨#[], by rw [upd_ne (ne_of_none q hn), q]; simp⟩
theorem Un.write (mu : Mut (H x)) (he : e = x ∨ H e = some (.own x)) (k : ∀ b u, b ≠ e → h.get? b = some u → h'.get? b = some u) (heo : ∃ u, h'.get? e = some u) : Un fs ex H (upd H x o) h h' := by
  have hx : ∀ b, H b = none → b ≠ x := fun b n z => by subst z; rw [n] at mu; exact mu
  have hb : ∀ b, H b = none → b ≠ e := fun b n z => by
    subst z
    rcases he with r | r
    · exact hx b n r
    · rw [n] at r; cases r
  have hm : ∀ b u, H b = some u → ¬ Mut (some u) → b ≠ x := fun b u q nm z => by subst z; rw [q] at mu; exact nm mu
  refine ⟨fun b u q n _ _ => k b u (hb b n) q, fun b u q n _ _ => ⟨u.slots, k b u (hb b n) q⟩, fun b u q n _ => by rw [upd_ne (hx b n)]; exact n, fun b u q _ => ?_,
    fun b xs q => by rw [upd_ne (hm b _ q fun z => z)]; exact q, fun b u xs q => by rw [upd_ne (hm b _ q fun z => z)]; exact q, fun b ps q => ⟨#[], by rw [upd_ne (hm b _ q fun z => z), q]; simp⟩⟩
  by_cases hbe : b = e
  · subst hbe; exact heo
  · exact ⟨u, k b u hbe q⟩
theorem Un.mono (u : Un fs ex H H1 h h1) (hs : ∀ b ∈ fs, b ∈ fs') (hx : ∀ b ∈ ex, b ∈ ex') : Un fs' ex' H H1 h h1 :=
  ⟨fun b ob q n hb he => u.keep b ob q n (fun z => hb (hs b z)) fun z => he (hx b z), fun _ _ q n _ he => u.any q n fun z => he (hx _ z), fun b ob q n he => u.free b ob q n fun z => he (hx b z), fun b ob q he => u.there b ob q fun z => he (hx b z), u.tups, u.frzs, u.tbls⟩
end


def trk (h : Heap) (H : Hp) : List Addr := (List.range h.objs.size).filter fun a => (H a).isSome
def hidT (h : Heap) (H : Hp) : Heap := PySem.W.hideAll h (trk h H)
theorem hidT_size (h : Heap) (H : Hp) : (hidT h H).objs.size = h.objs.size := PySem.W.hideAll_size _ _
theorem hidT_get {h : Heap} {H : Hp} {b : Addr} {o : Obj} (e : h.get? b = some o) (n : H b = none) : (hidT h H).get? b = some o :=
  PySem.W.hideAll_get _ e fun hm => by
    have q : (H b).isSome = true := (List.mem_filter.mp hm).2
    rw [n] at q; simp at q
theorem of_hidT {h : Heap} {H : Hp} {b : Addr} {o : Obj} (e : (hidT h H).get? b = some o) : h.get? b = some o ∧ H b = none := by
  have e' : h.get? b = some o := PySem.W.of_hideAll (trk h H) e
  refine ⟨e', ?_⟩
  cases q : H b with
  | none => rfl
  | some x =>
    have hm : b ∈ trk h H := List.mem_filter.mpr ⟨List.mem_range.mpr (Heap.lt_size e'), by simp [q]⟩
    have z : (hidT h H).get? b = none := PySem.W.hideAll_none (trk h H) hm
    rw [z] at e; cases e


def allNews (g h : Heap) (L : Addr) : List (Addr × Obj) := (List.range h.objs.size).filterMap fun a => if a = L ∨ (g.get? a).isSome = true then none else (h.get? a).map fun o => (a, o)
def rest (g h : Heap) (L d : Addr) : List (Addr × Obj) := (allNews g h L).filter fun p => decide (p.1 ≠ d)
end L2

namespace L2
open PySem PySem.Spec PyProof.Rows


structure Mod (K : PySem.W.Frag) (mg : Str → Option Value) (base : Heap) : Prop where
  kin : K.In base
  glob : base.Ns mainGlobals mg
  blt : ∃ mb, base.Ns builtinsNs mb ∧ ∀ x : Str, x ≠ "__name__" → mb x = bootBuiltins x
  nolimit : base.NoLimit


structure Cx where
  prog : Program
  w : World
  K : PySem.W.Frag
  mg : Str → Option Value
  base : Heap
  A : Around
  N : List Str
  s₀ : Shared
  H₀ : Hp
  env : Env
  outer : List Env
  stack : List Env
  ex : List Addr
  fn : Str → Bool
  calm : Bool
  pn : List (Addr × Obj)
  xe : Value → Shared → Prop

def frs (l : List Env) : List Addr := l.filterMap (·.frame)
abbrev Cx.fs (X : Cx) : List Addr := frs X.outer

def Vis (sc : Scope) (x : Str) : Prop := sc.names.lookup x = some .local ∨ sc.names.lookup x = some .cell ∨ sc.names.lookup x = some .free
def Loc (sc : Scope) (x : Str) : Prop := sc.names.lookup x = some .local ∨ sc.names.lookup x = some .cell
def Look (env : Env) (h : Heap) (m : Str → Option Value) (x : Str) (u : Value) : Prop :=
  (env.kindOf x = some .local ∧ m x = some u) ∨ ((env.kindOf x = some .cell ∨ env.kindOf x = some .free) ∧ ∃ c, env.cells.lookup x = some c ∧ h.IsCell c (some u))

structure Cx.Ok (X : Cx) : Prop where
  mod : Mod X.K X.mg X.base
  kind : X.env.scope.kind = .function
  glob : X.env.globals = mainGlobals
  blt : X.env.builtins = builtinsNs
  above : X.s₀.heap.objs.size ≤ X.env.locals
  inj : ∀ x y c, X.env.cells.lookup x = some c → X.env.cells.lookup y = some c → x = y
  has : ∀ x, (X.env.kindOf x = some .cell ∨ X.env.kindOf x = some .free) → ∃ c, X.env.cells.lookup x = some c
  cab : ∀ x c, X.fn x = true → X.env.cells.lookup x = some c → X.s₀.heap.objs.size ≤ c
  hd : X.calm = true → X.A.handled = none
  frames : X.A.frames = some X.stack
  stk : X.stack = X.outer ∨ (X.stack = X.env :: X.outer ∧ X.env.frame = some X.env.locals)
  exf : ∀ b ∈ X.ex, b ≠ X.env.locals ∧ ∀ x c, X.env.cells.lookup x = some c → c ≠ b
  bs : ∀ b o, X.base.get? b = some o → X.s₀.heap.get? b = some o ∧ X.H₀ b = none
  bsz : X.base.objs.size ≤ X.s₀.heap.objs.size
  noex : ∀ b o, X.base.get? b = some o → b ∉ X.ex
  exfs : ∀ b ∈ X.ex, b ∉ X.fs
  funs : X.s₀.heap.FunFrames X.base X.outer
  frf : ∀ b ∈ X.fs, X.H₀ b = none

structure Inv (X : Cx) (pins : List (Addr × Obj)) (σ : List (Option V)) (H : Hp) (s : Shared) : Prop where
  ok : X.Ok
  os : s.os = X.s₀.os
  bare : AllBare s.gens
  base : Un X.fs X.ex X.H₀ H X.s₀.heap s.heap
  loc : ∃ m, s.heap.Ns X.env.locals m ∧ ∀ (i : Nat) (x : Str) (v : V), X.N[i]? = some x → σ[i]? = some (some v) → Vis X.env.scope x → ∃ u, RelV v u ∧ Look X.env s.heap m x u
  cell : ∀ x c, X.env.cells.lookup x = some c → ∃ v, s.heap.IsCell c v
  free : H X.env.locals = none
  freeC : ∀ x c, X.env.cells.lookup x = some c → H c = none
  pin : ∀ p ∈ X.pn ++ pins, s.heap.get? p.1 = some p.2 ∧ H p.1 = none ∧ p.1 ≠ X.env.locals ∧ p.1 ∉ X.fs ∧ ∀ v, p.2.data ≠ .cell v
  hok : HOk X.prog X.w H s.heap
  len : σ.length = X.N.length

section
variable {X : Cx} {pins : List (Addr × Obj)} {σ : List (Option V)} {H H' : Hp} {s : Shared} {h' : Heap}

theorem Cx.Ok.nofr (ok : X.Ok) {b : Addr} {o : Obj} (e : X.base.get? b = some o) : b ∉ X.fs := fun hb => by
  have := (ok.funs.mem hb).1
  rw [e] at this; cases this
theorem Inv.bs (I : Inv X pins σ H s) : ∀ b o, X.base.get? b = some o → s.heap.get? b = some o ∧ H b = none := fun b o e =>
  ⟨I.base.keep b o (I.ok.bs b o e).1 (I.ok.bs b o e).2 (I.ok.nofr e) (I.ok.noex b o e), I.base.free b o (I.ok.bs b o e).1 (I.ok.bs b o e).2 (I.ok.noex b o e)⟩
theorem Inv.bk (I : Inv X pins σ H s) : ∀ b o, X.base.get? b = some o → s.heap.get? b = some o := fun b o e => (I.bs b o e).1
theorem Inv.mod (I : Inv X pins σ H s) : Mod X.K X.mg X.base := I.ok.mod
theorem Inv.kIn (I : Inv X pins σ H s) : X.K.In s.heap := I.ok.mod.kin.keeps I.bk
theorem Inv.nolimit (I : Inv X pins σ H s) : s.heap.NoLimit := I.ok.mod.nolimit.keeps I.bk

theorem Inv.lt (I : Inv X pins σ H s) : X.env.locals < s.heap.objs.size := let ⟨_, hn, _⟩ := I.loc; hn.lt
theorem Inv.sz (I : Inv X pins σ H s) : X.s₀.heap.objs.size ≤ s.heap.objs.size := Nat.le_trans I.ok.above (Nat.le_of_lt I.lt)
theorem Inv.nofs (I : Inv X pins σ H s) {a : Addr} (h : s.heap.objs.size ≤ a) : a ∉ X.fs := fun hb => by
  obtain ⟨_, o, ho, _⟩ := I.ok.funs.mem hb
  exact absurd (Nat.lt_of_lt_of_le (Heap.lt_size ho) (Nat.le_trans I.sz h)) (Nat.lt_irrefl _)
theorem Inv.cne (I : Inv X pins σ H s) : ∀ x c, X.env.cells.lookup x = some c → c ≠ X.env.locals := fun x c e z => by
  obtain ⟨v, o, ho, hd⟩ := I.cell x c e
  obtain ⟨m, ⟨o', es, ep, ho', hd', _⟩, _⟩ := I.loc
  rw [z, ho'] at ho; cases ho; rw [hd'] at hd; cases hd
theorem Inv.funs (I : Inv X pins σ H s) : s.heap.FunFrames X.base X.outer := by
  have all : ∀ (l : List Env), (∀ b ∈ frs l, b ∈ X.fs) → X.s₀.heap.FunFrames X.base l → s.heap.FunFrames X.base l := by
    intro l
    induction l with
    | nil => intro _ _; trivial
    | cons env r ih =>
      intro hs hl
      obtain ⟨hk, ⟨L, o, hf, hn, ho, hd⟩, hr⟩ := hl
      have hL : L ∈ X.fs := hs L (by unfold frs; rw [List.filterMap_cons, hf]; exact List.mem_cons_self)
      obtain ⟨sl, e⟩ := I.base.slot L o ho (I.ok.frf L hL) hL fun z => I.ok.exfs L z hL
      exact ⟨hk, ⟨L, _, hf, hn, e, hd⟩, ih (fun b hb => hs b (by unfold frs; rw [List.filterMap_cons, hf]; exact List.mem_cons_of_mem _ hb)) hr⟩
  exact all X.outer (fun _ hb => hb) I.ok.funs


theorem Inv.stack (I : Inv X pins σ H s) : s.heap.FunFrames X.base X.stack := by
  rcases I.ok.stk with e | ⟨e, hf⟩
  · rw [e]; exact I.funs
  · rw [e]
    obtain ⟨m, hn, _⟩ := I.loc
    refine .cons (by rw [I.ok.kind]; decide) hf hn ?_ I.funs
    exact Heap.get?_none_of_le (Nat.le_trans I.ok.bsz I.ok.above)
theorem Inv.stkSub (I : Inv X pins σ H s) : ∀ b ∈ frs X.stack, b ∈ X.env.locals :: X.fs := fun b hb => by
  rcases I.ok.stk with e | ⟨e, hf⟩
  · rw [e] at hb; exact List.mem_cons_of_mem _ hb
  · rw [e] at hb
    unfold frs at hb
    rw [List.filterMap_cons, hf] at hb
    exact hb
theorem Inv.stkFree (I : Inv X pins σ H s) : ∀ b ∈ frs X.stack, H b = none := fun b hb => by
  rcases List.mem_cons.mp (I.stkSub b hb) with e | hb
  · rw [e]; exact I.free
  · obtain ⟨_, o, ho, _⟩ := I.ok.funs.mem hb
    exact I.base.free b o ho (I.ok.frf b hb) fun z => I.ok.exfs b z hb


theorem Inv.step {g' : Array GenState} {t' : Nat} {d' : Drawn} {ch : List Addr} (I : Inv X pins σ H s)
    (hch : ∀ b ∈ ch, (b ∈ X.ex ∨ X.s₀.heap.objs.size ≤ b) ∧ b ≠ X.env.locals ∧ (∀ x c, X.env.cells.lookup x = some c → c ≠ b) ∧ ∀ p ∈ X.pn ++ pins, p.1 ≠ b)
    (keep : ∀ b o, b ≠ X.env.locals → b ∉ X.fs → b ∉ ch → s.heap.get? b = some o → H b = none → h'.get? b = some o)
    (slot : ∀ b o, b ≠ X.env.locals → b ∈ X.fs → b ∉ ch → s.heap.get? b = some o → H b = none → ∃ sl, h'.get? b = some { o with slots := sl }) (free : ∀ b o, b ∉ ch → s.heap.get? b = some o → H b = none → H' b = none)
    (there : ∀ b o, b ∉ ch → s.heap.get? b = some o → ∃ o', h'.get? b = some o')
    (tups : ∀ b xs, H b = some (.tup xs) → H' b = some (.tup xs)) (frzs : ∀ b o u, H b = some (.frz o u) → H' b = some (.frz o u)) (tbls : ∀ b ps, H b = some (.tbl ps) → ∃ more, H' b = some (.tbl (ps ++ more)))
    (ns : ∀ m, s.heap.Ns X.env.locals m → h'.Ns X.env.locals m) (hok : HOk X.prog X.w H' h') (hg : AllBare g') :
    Inv X pins σ H' { s with heap := h', gens := g', drawn := d', toks := t' } := by
  have neL : ∀ b o, X.s₀.heap.get? b = some o → b ≠ X.env.locals := fun b o e => Nat.ne_of_lt (Nat.lt_of_lt_of_le (Heap.lt_size e) I.ok.above)
  have neC : ∀ b o, X.s₀.heap.get? b = some o → b ∉ X.ex → b ∉ ch := fun b o e hx hb => by
    rcases (hch b hb).1 with z | z
    · exact hx z
    · exact absurd (Nat.lt_of_lt_of_le (Heap.lt_size e) z) (Nat.lt_irrefl _)
  have cellK : ∀ x c, X.env.cells.lookup x = some c → ∀ v, s.heap.IsCell c v → h'.IsCell c v := fun x c e v ⟨o, ho, hd⟩ => by
    have nch : c ∉ ch := fun z => (hch c z).2.2.1 x c e rfl
    by_cases hc : c ∈ X.fs
    · obtain ⟨sl, q⟩ := slot c o (I.cne x c e) hc nch ho (I.freeC x c e)
      exact ⟨_, q, hd⟩
    · exact ⟨o, keep c o (I.cne x c e) hc nch ho (I.freeC x c e), hd⟩
  refine ⟨I.ok, I.os, hg, ⟨fun b o e n hb hx => ?_, fun b o e n hb hx => ?_, fun b o e n hx => ?_, fun b o e hx => ?_, fun b xs e => tups b xs (I.base.tups b xs e), fun b o xs e => frzs b o xs (I.base.frzs b o xs e), fun b ps e => ?_⟩, ?_, fun x c e => ?_, ?_, fun x c e => ?_, fun p hp => ?_, hok, I.len⟩
  · exact keep b o (neL b o e) hb (neC b o e hx) (I.base.keep b o e n hb hx) (I.base.free b o e n hx)
  · obtain ⟨sl, e1⟩ := I.base.slot b o e n hb hx
    obtain ⟨sl', e2⟩ := slot b _ (neL b o e) hb (neC b o e hx) e1 (I.base.free b o e n hx)
    exact ⟨sl', e2⟩
  · obtain ⟨o', e1⟩ := I.base.there b o e hx
    exact free b o' (neC b o e hx) e1 (I.base.free b o e n hx)
  · obtain ⟨o', e1⟩ := I.base.there b o e hx
    exact there b o' (neC b o e hx) e1
  · obtain ⟨m1, e1⟩ := I.base.tbls b ps e
    obtain ⟨m2, e2⟩ := tbls b _ e1
    exact ⟨m1 ++ m2, by rw [e2, Array.append_assoc]⟩
  · obtain ⟨m, hn, hl⟩ := I.loc
    refine ⟨m, ns m hn, fun i x v e1 e2 e3 => ?_⟩
    obtain ⟨u, r, l⟩ := hl i x v e1 e2 e3
    refine ⟨u, r, ?_⟩
    rcases l with l | ⟨k, c, e, z⟩
    · exact .inl l
    · exact .inr ⟨k, c, e, cellK x c e _ z⟩
  · obtain ⟨v, z⟩ := I.cell x c e
    exact ⟨v, cellK x c e v z⟩
  · obtain ⟨m, ⟨o, _, _, ho, _⟩, _⟩ := I.loc
    exact free _ o (fun z => (hch _ z).2.1 rfl) ho I.free
  · obtain ⟨v, o, ho, hd⟩ := I.cell x c e
    exact free c o (fun z => (hch c z).2.2.1 x c e rfl) ho (I.freeC x c e)
  · obtain ⟨e, n, ne, nf, d⟩ := I.pin p hp
    have nch : p.1 ∉ ch := fun z => (hch p.1 z).2.2.2 p hp rfl
    exact ⟨keep p.1 p.2 ne nf nch e n, free p.1 p.2 nch e n, ne, nf, d⟩

theorem Inv.un {t' : Nat} (I : Inv X pins σ H s) (u : Un X.fs [] H H' s.heap h') (hok : HOk X.prog X.w H' h') : Inv X pins σ H' { s with heap := h', toks := t' } := by
  obtain ⟨m, ⟨o, es, ep, ho, r⟩, _⟩ := id I.loc
  obtain ⟨sl, hL⟩ := u.any ho I.free (by simp)
  exact I.step (g' := s.gens) (d' := s.drawn) (ch := []) (fun _ z => nomatch z) (fun b o _ hb _ e n => u.keep b o e n hb (by simp)) (fun b o _ hb _ e n => u.slot b o e n hb (by simp)) (fun b o _ e n => u.free b o e n (by simp)) (fun b o _ e => u.there b o e (by simp)) u.tups u.frzs u.tbls (fun m' hm => by
    obtain ⟨o', es', ep', ho', r'⟩ := hm
    rw [ho] at ho'; cases ho'
    exact ⟨_, es', ep', hL, r'⟩) hok I.bare

theorem Inv.call {g' : Array GenState} {t' : Nat} {d' : Drawn} {ch : List Addr} (I : Inv X pins σ H s) (u : Un (frs X.stack) ch H H' s.heap h') (hok : HOk X.prog X.w H' h') (hg : AllBare g')
    (hch : ∀ b ∈ ch, (b ∈ X.ex ∨ X.s₀.heap.objs.size ≤ b) ∧ b ≠ X.env.locals ∧ (∀ x c, X.env.cells.lookup x = some c → c ≠ b) ∧ ∀ p ∈ X.pn ++ pins, p.1 ≠ b) :
    Inv X pins σ H' { s with heap := h', gens := g', drawn := d', toks := t' } := by
  obtain ⟨m, ⟨o, es, ep, ho, r⟩, _⟩ := id I.loc
  obtain ⟨sl, hL⟩ := u.any ho I.free fun z => (hch _ z).2.1 rfl
  exact I.step (ch := ch) hch (fun b o hL hb hc e n => u.keep b o e n (fun z => (List.mem_cons.mp (I.stkSub b z)).elim hL hb) hc) (fun b o _ _ hc e n => u.any e n hc) (fun b o hc e n => u.free b o e n hc) (fun b o hc e => u.there b o e hc) u.tups u.frzs u.tbls (fun m' hm => by
    obtain ⟨o', es', ep', ho', r'⟩ := hm
    rw [ho] at ho'; cases ho'
    exact ⟨_, es', ep', hL, r'⟩) hok hg

theorem Inv.turned {t' : Nat} {it : Addr} (I : Inv X pins σ H s) (k : ∀ b o, b ≠ it → s.heap.get? b = some o → h'.get? b = some o) (hn : H it = none) (hL : it ≠ X.env.locals)
    (h1 : it ∈ X.ex ∨ X.s₀.heap.objs.size ≤ it) (h2 : ∀ x c, X.env.cells.lookup x = some c → c ≠ it) (h3 : ∀ p ∈ X.pn ++ pins, p.1 ≠ it) : Inv X pins σ H { s with heap := h', toks := t' } := by
  have nit : ∀ b u, H b = some u → b ≠ it := fun b u e z => by rw [z, hn] at e; cases e
  refine I.step (g' := s.gens) (d' := s.drawn) (ch := [it]) (fun b hb => ?_) (fun b o _ _ hc e _ => k b o (fun z => hc (by simp [z])) e) (fun b o _ _ hc e _ => ⟨o.slots, k b o (fun z => hc (by simp [z])) e⟩) (fun _ _ _ _ n => n)
    (fun b o hc e => ⟨o, k b o (fun z => hc (by simp [z])) e⟩) (fun _ _ e => e) (fun _ _ _ e => e) (fun b ps e => ⟨#[], by rw [e]; simp⟩) (fun m hm => ?_) (fun b u e => ?_) I.bare
  · have e : b = it := by simpa using hb
    subst e
    exact ⟨h1, hL, h2, h3⟩
  · obtain ⟨o, es, ep, ho, r⟩ := hm
    exact ⟨o, es, ep, k _ o (Ne.symm hL) ho, r⟩
  · refine (I.hok b u e).stay (fun c v hc q => k c v ?_ q) (fun _ q => q) fun _ _ q => q
    rcases hc with z | z
    · rw [z]; exact nit b u e
    · exact nit c _ z
theorem Inv.tok (I : Inv X pins σ H s) (t : Nat) : Inv X pins σ H { s with toks := t } := I.un (h' := s.heap) (t' := t) Un.refl I.hok

theorem Inv.kept {t' : Nat} (I : Inv X pins σ H s) (k : ∀ b u, s.heap.get? b = some u → h'.get? b = some u) : Inv X pins σ H { s with heap := h', toks := t' } := I.un (Un.kept k) (I.hok.kept k)

theorem Inv.laid {a : Addr} {o : HO} {t' : Nat} (I : Inv X pins σ H s) (k : ∀ b u, s.heap.get? b = some u → h'.get? b = some u) (hp : s.heap.objs.size ≤ a) (new : ObjOk X.prog X.w (upd H a o) h' a o) :
    Inv X pins σ (upd H a o) { s with heap := h', toks := t' } := I.un (Un.laid k hp (I.hok.fresh hp)) (I.hok.laid k hp new)

theorem Inv.write {x e : Addr} {o : HO} {t' : Nat} (I : Inv X pins σ H s) (mu : Mut (H x)) (he : e = x ∨ H e = some (.own x)) (k : ∀ b u, b ≠ e → s.heap.get? b = some u → h'.get? b = some u) (heo : ∃ u, h'.get? e = some u)
    (new : ObjOk X.prog X.w (upd H x o) h' x o) : Inv X pins σ (upd H x o) { s with heap := h', toks := t' } := I.un (Un.write mu he k heo) (I.hok.write mu he k heo new)

theorem Inv.weak {σ' : List (Option V)} (I : Inv X pins σ H s) (hl : σ'.length = σ.length) (w : ∀ (i : Nat) v, σ'[i]? = some (some v) → σ[i]? = some (some v)) : Inv X pins σ' H s :=
  ⟨I.ok, I.os, I.bare, I.base, let ⟨m, hn, hl'⟩ := I.loc; ⟨m, hn, fun i x v e1 e2 e3 => hl' i x v e1 (w i v e2) e3⟩, I.cell, I.free, I.freeC, I.pin, I.hok, hl.trans I.len⟩
theorem Inv.pins_of {pins' : List (Addr × Obj)} (I : Inv X pins σ H s) (h : ∀ p ∈ pins', s.heap.get? p.1 = some p.2 ∧ H p.1 = none ∧ p.1 ≠ X.env.locals ∧ p.1 ∉ X.fs ∧ ∀ v, p.2.data ≠ .cell v) : Inv X pins' σ H s :=
  ⟨I.ok, I.os, I.bare, I.base, I.loc, I.cell, I.free, I.freeC, fun p hp => (List.mem_append.mp hp).elim (fun z => I.pin p (List.mem_append_left _ z)) (h p), I.hok, I.len⟩

theorem nodup_ix {N : List Str} (hN : N.Nodup) {i j : Nat} {x : Str} (a : N[i]? = some x) (b : N[j]? = some x) : i = j := by
  obtain ⟨h1, e1⟩ := List.getElem?_eq_some_iff.mp a
  obtain ⟨h2, e2⟩ := List.getElem?_eq_some_iff.mp b
  exact (List.getElem_inj hN).mp (e1.trans e2.symm)


theorem store_ok2 {M : Model} {A : Around} {E : Value → Shared → Prop} {i : Nat} {x : Str} {v : V} {u : Value} {Q : Unit → Shared → Prop} (I : Inv X pins σ H s) (hN : X.N.Nodup) (hi : X.N[i]? = some x) (hx : Loc X.env.scope x) (r : RelV v u)
    (h : ∀ s', Inv X pins (σ.set i (some v)) H s' → (∃ a, Heap.SameBut a s.heap s'.heap ∧ (a = X.env.locals ∨ X.env.cells.lookup x = some a)) → Q () s') (hf : X.fn x = true ∨ X.env.scope.names.lookup x = some .local := by first | exact .inl rfl | exact .inr rfl | assumption) : wpAny M A (storeName X.env x u) Q E s := by
  obtain ⟨m, hn, hl⟩ := id I.loc
  have hcls : (X.env.scope.kind == .class || (X.env.scope.kind == .module && X.env.locals != X.env.globals)) = false := by rw [I.ok.kind]; rfl
  have hiσ : i < σ.length := by rw [I.len]; exact (List.getElem?_eq_some_iff.mp hi).1
  have cne := I.cne
  have tracked : ∀ {a : Addr} {h' : Heap}, (∃ o, s.heap.get? a = some o ∧ H a = none) → Heap.SameBut a s.heap h' → HOk X.prog X.w H h' := fun {a h'} ha hs b ob e => by
    obtain ⟨_, _, hfree⟩ := ha
    refine (I.hok b ob e).stay (fun c w' hc q => (hs.2 c ?_).trans q) (fun _ q => q) fun _ _ q => q
    rintro rfl
    rcases hc with rfl | hc
    · rw [hfree] at e; cases e
    · rw [hfree] at hc; cases hc
  rcases hx with hk | hk
  · refine wpAny_storeName_local hk hn (fun h' hn' hs => ?_) hcls
    obtain ⟨oL, _, _, hoL, _⟩ := id hn
    refine h _ ⟨I.ok, I.os, I.bare, ⟨fun b o e n hb hx => ?_, fun b o e n hb hx => ?_, I.base.free, fun b o e hx => ?_, I.base.tups, I.base.frzs, I.base.tbls⟩, ⟨_, hn', fun j y v' e1 e2 e3 => ?_⟩, fun y c e => ?_, I.free, I.freeC, fun p hp => ?_, tracked ⟨oL, hoL, I.free⟩ hs, by simpa using I.len⟩ ⟨_, hs, .inl rfl⟩
    · exact (hs.2 b (Nat.ne_of_lt (Nat.lt_of_lt_of_le (Heap.lt_size e) I.ok.above))).trans (I.base.keep b o e n hb hx)
    · obtain ⟨sl, e1⟩ := I.base.slot b o e n hb hx
      exact ⟨sl, (hs.2 b (Nat.ne_of_lt (Nat.lt_of_lt_of_le (Heap.lt_size e) I.ok.above))).trans e1⟩
    · obtain ⟨o', e1⟩ := I.base.there b o e hx
      exact ⟨o', (hs.2 b (Nat.ne_of_lt (Nat.lt_of_lt_of_le (Heap.lt_size e) I.ok.above))).trans e1⟩
    · by_cases hj : j = i
      · subst hj
        rw [hi] at e1; cases e1
        rw [List.getElem?_set_self hiσ] at e2
        cases e2
        exact ⟨u, r, .inl ⟨hk, by simp⟩⟩
      · rw [List.getElem?_set_ne (Ne.symm hj)] at e2
        obtain ⟨u', r', q⟩ := hl j y v' e1 e2 e3
        refine ⟨u', r', ?_⟩
        rcases q with ⟨k, e⟩ | ⟨k, c, e, z⟩
        · refine .inl ⟨k, ?_⟩
          have : y ≠ x := fun e => hj (nodup_ix hN e1 (e ▸ hi))
          simp [this, e]
        · exact .inr ⟨k, c, e, z.sameBut hs (cne y c e)⟩
    · obtain ⟨w', z⟩ := I.cell y c e
      exact ⟨w', z.sameBut hs (cne y c e)⟩
    · obtain ⟨e, n, ne, nf, d⟩ := I.pin p hp
      exact ⟨(hs.2 p.1 ne).trans e, n, ne, nf, d⟩
  · have hfn : X.fn x = true := by
      rcases hf with z | z
      · exact z
      · rw [z] at hk; cases hk
    obtain ⟨c, hc⟩ := I.ok.has x (.inl hk)
    obtain ⟨w', z⟩ := I.cell x c hc
    refine wpAny_storeName_cell I.ok.kind hk hc z (fun h' hc' hs => ?_)
    obtain ⟨oc, hoc, hocd⟩ := id z
    refine h { s with heap := h' } ⟨I.ok, I.os, I.bare, ⟨fun b o e n hb hx => ?_, fun b o e n hb hx => ?_, I.base.free, fun b o e hx => ?_, I.base.tups, I.base.frzs, I.base.tbls⟩, ⟨m, hn.sameBut hs (Ne.symm (cne x c hc)), fun j y v' e1 e2 e3 => ?_⟩, fun y c' e => ?_, I.free, I.freeC, fun p hp => ?_, tracked ⟨oc, hoc, I.freeC x c hc⟩ hs, by simpa using I.len⟩ ⟨c, hs, .inr hc⟩
    · exact (hs.2 b (Nat.ne_of_lt (Nat.lt_of_lt_of_le (Heap.lt_size e) (I.ok.cab x c hfn hc)))).trans (I.base.keep b o e n hb hx)
    · obtain ⟨sl, e1⟩ := I.base.slot b o e n hb hx
      exact ⟨sl, (hs.2 b (Nat.ne_of_lt (Nat.lt_of_lt_of_le (Heap.lt_size e) (I.ok.cab x c hfn hc)))).trans e1⟩
    · obtain ⟨o', e1⟩ := I.base.there b o e hx
      exact ⟨o', (hs.2 b (Nat.ne_of_lt (Nat.lt_of_lt_of_le (Heap.lt_size e) (I.ok.cab x c hfn hc)))).trans e1⟩
    · by_cases hj : j = i
      · subst hj
        rw [hi] at e1; cases e1
        rw [List.getElem?_set_self hiσ] at e2
        cases e2
        exact ⟨u, r, .inr ⟨.inl hk, c, hc, hc'⟩⟩
      · rw [List.getElem?_set_ne (Ne.symm hj)] at e2
        obtain ⟨u', r', q⟩ := hl j y v' e1 e2 e3
        refine ⟨u', r', ?_⟩
        rcases q with q | ⟨k, c', e, z'⟩
        · exact .inl q
        · refine .inr ⟨k, c', e, z'.sameBut hs ?_⟩
          rintro rfl
          exact hj (nodup_ix hN e1 (I.ok.inj _ _ _ e hc ▸ hi))
    · by_cases hcc : c' = c
      · subst hcc; exact ⟨_, hc'⟩
      · obtain ⟨w2, z2⟩ := I.cell y c' e
        exact ⟨w2, z2.sameBut hs hcc⟩
    · obtain ⟨e, n, ne, nf, d⟩ := I.pin p hp
      refine ⟨(hs.2 p.1 ?_).trans e, n, ne, nf, d⟩
      intro q
      rw [q, hoc] at e
      have q' : oc = p.2 := Option.some.inj e
      exact d w' (by rw [← q']; exact hocd)
theorem store_ok {M : Model} {A : Around} {E : Value → Shared → Prop} {i : Nat} {x : Str} {v : V} {u : Value} {Q : Unit → Shared → Prop} (I : Inv X pins σ H s) (hN : X.N.Nodup) (hi : X.N[i]? = some x) (hx : Loc X.env.scope x) (r : RelV v u)
    (h : ∀ s', Inv X pins (σ.set i (some v)) H s' → Q () s') (hf : X.fn x = true ∨ X.env.scope.names.lookup x = some .local := by first | exact .inl rfl | exact .inr rfl | assumption) : wpAny M A (storeName X.env x u) Q E s :=
  store_ok2 I hN hi hx r (fun s' I' _ => h s' I') hf

theorem Inv.call' {s' : Shared} {ch : List Addr} (I : Inv X pins σ H s) (ho : s'.os = s.os) (u : Un (frs X.stack) ch H H' s.heap s'.heap) (hok : HOk X.prog X.w H' s'.heap) (hg : AllBare s'.gens)
    (hch : ∀ b ∈ ch, (b ∈ X.ex ∨ X.s₀.heap.objs.size ≤ b) ∧ b ≠ X.env.locals ∧ (∀ x c, X.env.cells.lookup x = some c → c ≠ b) ∧ ∀ p ∈ X.pn ++ pins, p.1 ≠ b) : Inv X pins σ H' s' := by
  obtain ⟨h', g', d', t', o'⟩ := s'
  have e : o' = s.os := ho
  subst e
  exact I.call (g' := g') (t' := t') (d' := d') u hok hg hch
end



abbrev XK := Value → Option Addr → Hp → Prop
abbrev St := List (Option V)
abbrev VK := V → Hp → Prop

abbrev TE := St → Hp → VK → Prop
abbrev TT := St → Hp → (Bool → Hp → Prop) → Prop
abbrev TA := St → Hp → (List V → Hp → Prop) → Prop

structure Ends where
  nx : St → Hp → Prop
  rt : VK
  bk : St → Hp → Prop := fun _ _ => False
  ct : St → Hp → Prop := fun _ _ => False
abbrev TS := Ends → St → Hp → Prop

def EP (X : Cx) (pins : List (Addr × Obj)) (σ : St) (Q : VK) (u : Value) (s' : Shared) : Prop := ∃ v H', Inv X pins σ H' s' ∧ RelV v u ∧ Q v H'
def TP (X : Cx) (pins : List (Addr × Obj)) (σ : St) (Q : Bool → Hp → Prop) (b : Bool) (s' : Shared) : Prop := ∃ H', Inv X pins σ H' s' ∧ Q b H'
def AP (X : Cx) (pins : List (Addr × Obj)) (σ : St) (Q : List V → Hp → Prop) (us : List Value) (s' : Shared) : Prop := ∃ vs H', Inv X pins σ H' s' ∧ Vals vs us ∧ Q vs H'
def SP (X : Cx) (pins : List (Addr × Obj)) (D : Ends) (f : Flow) (s' : Shared) : Prop :=
  match f with
  | .next => ∃ σ' H', Inv X pins σ' H' s' ∧ D.nx σ' H'
  | .brk => ∃ σ' H', Inv X pins σ' H' s' ∧ D.bk σ' H'
  | .cont => ∃ σ' H', Inv X pins σ' H' s' ∧ D.ct σ' H'
  | .ret u => ∃ v σ' H', Inv X pins σ' H' s' ∧ RelV v u ∧ D.rt v H'

def PE (X : Cx) (e : Expr) (t : TE) : Prop :=
  ∀ (pins : List (Addr × Obj)) (s : Shared) (σ : St) (H : Hp) (Q : VK), Inv X pins σ H s → t σ H Q → wpAny (model X.prog X.w) X.A (eval e X.env) (EP X pins σ Q) X.xe s
def PT (X : Cx) (e : Expr) (t : TT) : Prop :=
  ∀ (pins : List (Addr × Obj)) (s : Shared) (σ : St) (H : Hp) (Q : Bool → Hp → Prop), Inv X pins σ H s → t σ H Q → wpAny (model X.prog X.w) X.A (isTrue e X.env (eval e X.env)) (TP X pins σ Q) X.xe s

def PW (X : Cx) (e : Expr) (t : TT) : Prop :=
  ∀ (whole : Sem Value) (pins : List (Addr × Obj)) (s : Shared) (σ : St) (H : Hp) (Q : Bool → Hp → Prop), Inv X pins σ H s → t σ H Q → wpAny (model X.prog X.w) X.A (isTrue e X.env whole) (TP X pins σ Q) X.xe s
theorem PW.pt {X : Cx} {e : Expr} {t : TT} (h : PW X e t) : PT X e t := h _

def PA (X : Cx) (es : List Expr) (t : TA) : Prop :=
  ∀ (pos : Pos) (pins : List (Addr × Obj)) (s : Shared) (σ : St) (H : Hp) (Q : List V → Hp → Prop), Inv X pins σ H s → t σ H Q → wpAny (model X.prog X.w) X.A (spliced (backTo pos (starEach es X.env))) (AP X pins σ Q) X.xe s
def PS (X : Cx) (st : Stmt) (t : TS) : Prop :=
  ∀ (pins : List (Addr × Obj)) (s : Shared) (σ : St) (H : Hp) (D : Ends), Inv X pins σ H s → t D σ H → wpAny (model X.prog X.w) X.A (exec st X.env) (SP X pins D) X.xe s
def PSs (X : Cx) (st : List Stmt) (t : TS) : Prop :=
  ∀ (pins : List (Addr × Obj)) (s : Shared) (σ : St) (H : Hp) (D : Ends), Inv X pins σ H s → t D σ H → wpAny (model X.prog X.w) X.A (execs st X.env) (SP X pins D) X.xe s

theorem thn {α : Type} {t : Sem α} {Q Q' : α → Shared → Prop} {M : Model} {A : Around} {E : Value → Shared → Prop} {s : Shared} (h : wpAny M A t Q E s) (hQ : ∀ a s, Q a s → Q' a s) : wpAny M A t Q' E s := wpAny_mono h hQ fun _ _ x => x
end L2

namespace L2
open PySem PySem.Spec PyProof.Rows
section
variable {X : Cx}


def tVar (i : Nat) : TE := fun σ H Q => ∃ v, σ[i]? = some (some v) ∧ Q v H
def tC (v : V) : TE := fun _ H Q => Q v H
theorem pe_var {i : Nat} {x : Str} {pos : Pos} (hN : X.N[i]? = some x) (hv : Vis X.env.scope x) (hd : (x == ("__debug__" : Str)) = false := by decide) (hcd : (x == ("__classdict__" : Str)) = false := by decide) : PE X (.Name x pos) (tVar i) := by
  intro pins s σ H Q I h
  obtain ⟨v, e, h⟩ := h
  obtain ⟨m, hn, hl⟩ := I.loc
  obtain ⟨u, r, l⟩ := hl i x v hN e hv
  have fin : EP X pins σ Q u s := ⟨v, H, I, r, h⟩
  rcases l with ⟨hk, hm⟩ | ⟨hk, c, hc, hcell⟩
  · exact wpAny_Name (wpAny_loadName_local I.ok.kind hk hn hm fin) hd
  · rcases hk with hk | hk
    · exact wpAny_Name (wpAny_loadName_cell I.ok.kind hk hc hcell fin) hd
    · exact wpAny_Name (wpAny_loadName_free I.ok.kind hk hc hcell fin hcd) hd
theorem pe_int {i j pos} : PE X (.Constant (.int i) j pos) (tC (.int i)) := fun _ _ _ H _ I h => wpAny_Constant_int ⟨.int i, H, I.tok _, ⟨_, rfl⟩, h⟩
theorem pe_bl {b j pos} : PE X (.Constant (.bool b) j pos) (tC (.bl b)) := fun _ _ _ H _ I h => Constant_bool ⟨.bl b, H, I, rfl, h⟩
def Gl (X : Cx) (x : Str) : Prop := X.env.kindOf x = some .globalImplicit
theorem ld_glob {E : Value → Shared → Prop} {pins : List (Addr × Obj)} {s : Shared} {σ : St} {H : Hp} {x : Str} {u : Value} {pos : Pos} {Q : Value → Shared → Prop} (I : Inv X pins σ H s) (hg : Gl X x) (hm : X.mg x = some u) (h : Q u s)
    (hd : (x == ("__debug__" : Str)) = false := by decide) : wpAny (model X.prog X.w) X.A (eval (.Name x pos) X.env) Q E s :=
  Calls.Name_function_global I.ok.kind hg (Calls.loadGlobal_global (by rw [I.ok.glob]; exact I.mod.glob.keeps I.bk) hm h) hd
theorem ld_blt {E : Value → Shared → Prop} {pins : List (Addr × Obj)} {s : Shared} {σ : St} {H : Hp} {x : Str} {u : Value} {pos : Pos} {Q : Value → Shared → Prop} (I : Inv X pins σ H s) (hg : Gl X x) (hm : X.mg x = none) (hv : bootBuiltins x = some u) (h : Q u s)
    (hn : x ≠ "__name__" := by decide) (hd : (x == ("__debug__" : Str)) = false := by decide) : wpAny (model X.prog X.w) X.A (eval (.Name x pos) X.env) Q E s := by
  obtain ⟨mb, h1, h2⟩ := I.mod.blt
  exact Calls.Name_function_global I.ok.kind hg (Calls.loadGlobal_builtin (by rw [I.ok.glob]; exact I.mod.glob.keeps I.bk) hm (by rw [I.ok.blt]; exact h1.keeps I.bk) ((h2 x hn).trans hv) h) hd

theorem pe_bltn {x : Str} {v : V} {u : Value} {pos : Pos} (hg : Gl X x) (hm : X.mg x = none) (hv : bootBuiltins x = some u) (r : RelV v u) (hn : x ≠ "__name__" := by decide) (hd : (x == ("__debug__" : Str)) = false := by decide) : PE X (.Name x pos) (tC v) :=
  fun _ _ _ H _ I h => ld_blt I hg hm hv ⟨v, H, I, r, h⟩ hn hd



variable {a b : Expr} {ta tb : TE} {pos : Pos}
def tB (t : TE) : TT := fun σ H Q => t σ H fun x H1 => ∃ c, x = .bl c ∧ Q c H1
theorem pt_val {e : Expr} {t : TE} (h : PE X e t) (he : ∀ whole, isTrue e X.env whole = (do let v ← whole; standAt e.pos; holding [v] (truthy v)) := by intro _; rfl) : PT X e (tB t) := by
  intro pins s σ H Q I hw
  refine isTrue_plain (thn (h pins s σ H _ I hw) fun v s1 ⟨x, H1, I1, r1, q1⟩ => ?_) (he _)
  obtain ⟨d, rfl, q⟩ := q1
  cases r1
  exact wpAny_truthy_bool ⟨H1, I1, q⟩


variable {tA tB' : TT} {rest : List Expr}
def tAnd (t u : TT) : TT := fun σ H Q => t σ H fun c H1 => if c = true then u σ H1 Q else Q false H1
def tOr (t u : TT) : TT := fun σ H Q => t σ H fun c H1 => if c = true then Q true H1 else u σ H1 Q
def tNot (t : TT) : TT := fun σ H Q => t σ H fun c H1 => Q (!c) H1
theorem pw_and1 (ha : PT X a tA) : PW X (.BoolOp .And [a] pos) tA := by
  intro wh pins s σ H Q I h
  refine isTrue_and (thn (ha pins s σ H Q I h) fun c s1 e => ?_)
  cases c with
  | true => exact isTrue_and_nil e
  | false => exact e
theorem pw_or1 (ha : PT X a tA) : PW X (.BoolOp .Or [a] pos) tA := by
  intro wh pins s σ H Q I h
  refine isTrue_or (thn (ha pins s σ H Q I h) fun c s1 e => ?_)
  cases c with
  | false => exact isTrue_or_nil e
  | true => exact e
theorem pw_and (ha : PT X a tA) (hb : PW X (.BoolOp .And (b :: rest) pos) tB') : PW X (.BoolOp .And (a :: b :: rest) pos) (tAnd tA tB') := by
  intro wh pins s σ H Q I h
  refine isTrue_and (thn (ha pins s σ H _ I h) fun c s1 ⟨H1, I1, q1⟩ => ?_)
  cases c with
  | true => exact hb wh pins s1 σ H1 Q I1 q1
  | false => exact ⟨H1, I1, q1⟩
theorem pw_or (ha : PT X a tA) (hb : PW X (.BoolOp .Or (b :: rest) pos) tB') : PW X (.BoolOp .Or (a :: b :: rest) pos) (tOr tA tB') := by
  intro wh pins s σ H Q I h
  refine isTrue_or (thn (ha pins s σ H _ I h) fun c s1 ⟨H1, I1, q1⟩ => ?_)
  cases c with
  | true => exact ⟨H1, I1, q1⟩
  | false => exact hb wh pins s1 σ H1 Q I1 q1
theorem pt_not (ha : PT X a tA) : PT X (.UnaryOp .Not a pos) (tNot tA) := by
  intro pins s σ H Q I h
  exact isTrue_not (ha pins s σ H (fun c H1 => Q (!c) H1) I h)

def tAndV (ta tb : TE) : TE := fun σ H Q => ta σ H fun x H1 => ∃ c, x = .bl c ∧ if c = true then tb σ H1 Q else Q (.bl false) H1
def tOrV (ta tb : TE) : TE := fun σ H Q => ta σ H fun x H1 => ∃ c, x = .bl c ∧ if c = true then Q (.bl true) H1 else tb σ H1 Q
def tNotV (ta : TE) : TE := fun σ H Q => ta σ H fun x H1 => ∃ c, x = .bl c ∧ Q (.bl (!c)) H1
theorem pe_one {op} {t : TE} (h : PE X a t) : PE X (.BoolOp op [a] pos) t := fun pins s σ H Q I hw => BoolOp_one (h pins s σ H Q I hw)
theorem pe_and (ha : PE X a ta) (hb : PE X (.BoolOp .And (b :: rest) pos) tb) : PE X (.BoolOp .And (a :: b :: rest) pos) (tAndV ta tb) := by
  intro pins s σ H Q I h
  refine BoolOp_and (thn (ha pins s σ H _ I h) fun v s1 ⟨x, H1, I1, r1, q1⟩ => ?_)
  obtain ⟨c, rfl, q1⟩ := q1
  cases r1
  refine wpAny_truthy_bool ?_
  cases c with
  | true => exact hb pins s1 σ H1 Q I1 q1
  | false => exact ⟨.bl false, H1, I1, rfl, q1⟩
theorem pe_not (ha : PE X a ta) : PE X (.UnaryOp .Not a pos) (tNotV ta) := by
  intro pins s σ H Q I h
  refine UnaryOp_ (thn (ha pins s σ H _ I h) fun v s1 ⟨x, H1, I1, r1, q1⟩ => ?_)
  obtain ⟨c, rfl, q1⟩ := q1
  cases r1
  exact not_of (wpAny_truthy_bool ⟨.bl (!c), H1, I1, rfl, q1⟩)

def tIf (t : TT) (ta tb : TE) : TE := fun σ H Q => t σ H fun c H1 => if c = true then ta σ H1 Q else tb σ H1 Q
theorem pe_ifExp {c : Expr} (hc : PT X c tA) (ha : PE X a ta) (hb : PE X b tb) : PE X (.IfExp c a b pos) (tIf tA ta tb) := by
  intro pins s σ H Q I h
  refine wpAny_IfExp (thn (hc pins s σ H _ I h) fun d s1 ⟨H1, I1, q1⟩ => ?_)
  cases d with
  | true => exact ha pins s1 σ H1 Q I1 q1
  | false => exact hb pins s1 σ H1 Q I1 q1
end
end L2

namespace L2
open PySem PySem.Spec PyProof.Rows


def SqL (K : PySem.W.Frag) (H : Hp) (a : Addr) (xs : List V) : Prop :=
  Rd H a (.lst xs) ∨
    ∃ (o : Obj) (its : Array Value) (n : Nat), K.lookup a = some o ∧ o.cls = .type "list" ∧ o.dict = none ∧ o.data = .seq its n ∧ its.size ≤ sizeLine ∧ Vals xs its.toList
def SqT (K : PySem.W.Frag) (H : Hp) (a : Addr) (xs : List V) : Prop :=
  Rd H a (.tup xs) ∨
    ∃ (o : Obj) (its : Array Value) (n : Nat), K.lookup a = some o ∧ o.cls = .type "tuple" ∧ o.data = .seq its n ∧ its.size ≤ sizeLine ∧ Vals xs its.toList
def absV : Value → Option V
  | .none => some .non
  | .bool b => some (.bl b)
  | .int i _ => some (.int i)
  | .str x _ => some (.str x)
  | .bytes b _ => some (.byt b)
  | .float b _ => some (.flt b)
  | .ref a => some (.ref a)
  | .type n => some (.ty n)
  | _ => none
theorem RelV.abs {x : V} {u : Value} (r : RelV x u) : absV u = some x := by
  cases x with
  | non => cases r; rfl
  | bl _ => cases r; rfl
  | int _ => obtain ⟨t, rfl⟩ := r; rfl
  | str _ => obtain ⟨t, rfl⟩ := r; rfl
  | byt _ => obtain ⟨t, rfl⟩ := r; rfl
  | flt _ => obtain ⟨t, rfl⟩ := r; rfl
  | ref _ => cases r; rfl
  | ty _ => cases r; rfl
theorem RelV.inj {x y : V} {u : Value} (r : RelV x u) (q : RelV y u) : x = y := Option.some.inj (r.abs.symm.trans q.abs)
theorem Vals.inj : ∀ {xs ys : List V} {us : List Value}, Vals xs us → Vals ys us → xs = ys
  | _, _, _, .nil, .nil => rfl
  | _, _, _, .cons r t, .cons r' t' => by rw [r.inj r', Vals.inj t t']
section
variable {X : Cx} {pins : List (Addr × Obj)} {σ : St} {H : Hp} {s : Shared} {a : Addr} {xs ys : List V}
theorem SqL.of {K : PySem.W.Frag} (h : H a = some (.lst xs)) : SqL K H a xs := .inl (.inl h)
theorem SqT.of {K : PySem.W.Frag} (h : H a = some (.tup xs)) : SqT K H a xs := .inl (.inl h)
theorem Inv.list (I : Inv X pins σ H s) (h : SqL X.K H a xs) : ∃ its : List Value, Vals xs its ∧ PlainL s.heap a its.toArray ∧ xs.length ≤ sizeLine := by
  rcases h with h | ⟨o, its, n, hk, hc, hd, hs, hz, r⟩
  · obtain ⟨z, its, n, r, e⟩ := h.ok I.hok
    exact ⟨its, r, ⟨_, n, e, rfl, rfl, rfl⟩, z⟩
  · refine ⟨its.toList, r, ⟨o, n, I.kIn a o hk, hc, hd, by simpa using hs⟩, ?_⟩
    have e := r.length
    simp only [Array.length_toList] at e
    omega
theorem Inv.tuple (I : Inv X pins σ H s) (h : SqT X.K H a xs) : ∃ its : List Value, Vals xs its ∧ IsTup s.heap a its.toArray ∧ xs.length ≤ sizeLine := by
  rcases h with h | ⟨o, its, n, hk, hc, hs, hz, r⟩
  · obtain ⟨z, its, r, p⟩ := h.ok I.hok
    exact ⟨its, r, p, z⟩
  · refine ⟨its.toList, r, ⟨o, I.kIn a o hk, hc, n, by simpa using hs⟩, ?_⟩
    have e := r.length
    simp only [Array.length_toList] at e
    omega
theorem Inv.list_inj (I : Inv X pins σ H s) (h : SqL X.K H a xs) (h' : SqL X.K H a ys) : xs = ys := by
  obtain ⟨its, r, ⟨o, n, e, _, _, d⟩, _⟩ := I.list h
  obtain ⟨its', r', ⟨o', n', e', _, _, d'⟩, _⟩ := I.list h'
  rw [e] at e'; cases e'
  rw [d] at d'
  injection d' with d1 _
  have : its = its' := by simpa using congrArg Array.toList d1
  subst this
  exact r.inj r'
theorem Inv.tuple_inj (I : Inv X pins σ H s) (h : SqT X.K H a xs) (h' : SqT X.K H a ys) : xs = ys := by
  obtain ⟨its, r, ⟨o, e, _, n, d⟩, _⟩ := I.tuple h
  obtain ⟨its', r', ⟨o', e', _, n', d'⟩, _⟩ := I.tuple h'
  rw [e] at e'; cases e'
  rw [d] at d'
  injection d' with d1 _
  have : its = its' := by simpa using congrArg Array.toList d1
  subst this
  exact r.inj r'
end


abbrev Cx.wish (X : Cx) (E : Value → Shared → Prop) : Cx := { X with xe := E }

abbrev Cx.nox (X : Cx) : Cx := X.wish fun _ _ => False
theorem Cx.Ok.wish {X : Cx} (ok : X.Ok) (E : Value → Shared → Prop) : (X.wish E).Ok :=
  ⟨ok.mod, ok.kind, ok.glob, ok.blt, ok.above, ok.inj, ok.has, ok.cab, ok.hd, ok.frames, ok.stk, ok.exf, ok.bs, ok.bsz, ok.noex, ok.exfs, ok.funs, ok.frf⟩
theorem Cx.Ok.unwish {X : Cx} {E : Value → Shared → Prop} (ok : (X.wish E).Ok) : X.Ok :=
  ⟨ok.mod, ok.kind, ok.glob, ok.blt, ok.above, ok.inj, ok.has, ok.cab, ok.hd, ok.frames, ok.stk, ok.exf, ok.bs, ok.bsz, ok.noex, ok.exfs, ok.funs, ok.frf⟩
section
variable {X : Cx} {pins : List (Addr × Obj)} {σ : St} {H : Hp} {s : Shared} {E : Value → Shared → Prop}
theorem Inv.wish (I : Inv X pins σ H s) (E : Value → Shared → Prop) : Inv (X.wish E) pins σ H s := ⟨I.ok.wish E, I.os, I.bare, I.base, I.loc, I.cell, I.free, I.freeC, I.pin, I.hok, I.len⟩
theorem Inv.unwish (I : Inv (X.wish E) pins σ H s) : Inv X pins σ H s := ⟨I.ok.unwish, I.os, I.bare, I.base, I.loc, I.cell, I.free, I.freeC, I.pin, I.hok, I.len⟩
theorem SP.unwish {D : Ends} {f : Flow} {s' : Shared} (h : SP (X.wish E) pins D f s') : SP X pins D f s' := by
  cases f with
  | next => obtain ⟨σ', H', I, q⟩ := h; exact ⟨σ', H', I.unwish, q⟩
  | brk => obtain ⟨σ', H', I, q⟩ := h; exact ⟨σ', H', I.unwish, q⟩
  | cont => obtain ⟨σ', H', I, q⟩ := h; exact ⟨σ', H', I.unwish, q⟩
  | ret u => obtain ⟨v, σ', H', I, r, q⟩ := h; exact ⟨v, σ', H', I.unwish, r, q⟩
theorem PE.nox {e : Expr} {t : TE} (h : PE X.nox e t) : PE X e t := fun pins s σ H Q I hw =>
  wpAny_mono (h pins s σ H Q (I.wish _) hw) (fun _ _ ⟨v, H', I', r, q⟩ => ⟨v, H', I'.unwish, r, q⟩) fun _ _ z => False.elim z
theorem PT.nox {e : Expr} {t : TT} (h : PT X.nox e t) : PT X e t := fun pins s σ H Q I hw =>
  wpAny_mono (h pins s σ H Q (I.wish _) hw) (fun _ _ ⟨H', I', q⟩ => ⟨H', I'.unwish, q⟩) fun _ _ z => False.elim z
theorem PSs.nox {st : List Stmt} {t : TS} (h : PSs X.nox st t) : PSs X st t := fun pins s σ H D I hw =>
  wpAny_mono (h pins s σ H D (I.wish _) hw) (fun _ _ q => q.unwish) fun _ _ z => False.elim z
end


section
variable {X : Cx} {st : Stmt} {rest : List Stmt} {t u : TS} {e : Expr} {te : TE} {pos : Pos}
def tNext : TS := fun D σ H => D.nx σ H
def tSeq (t u : TS) : TS := fun D σ H => t { D with nx := u D } σ H
theorem pss_nil : PSs X [] tNext := fun _ _ σ H _ I h => wpAny_execs_nil ⟨σ, H, I, h⟩
theorem pss_cons (h1 : PS X st t) (h2 : PSs X rest u) : PSs X (st :: rest) (tSeq t u) := by
  intro pins s σ H D I h
  refine wpAny_execs_cons (thn (h1 pins s σ H { D with nx := u D } I h) fun f s1 q => ?_)
  cases f with
  | next =>
    obtain ⟨σ', H', I', q⟩ := q
    exact h2 pins s1 σ' H' D I' q
  | ret v => exact q
  | brk => exact q
  | cont => exact q
theorem pss_one (h1 : PS X st t) : PSs X [st] t := by
  intro pins s σ H D I h
  refine wpAny_execs_cons (thn (h1 pins s σ H D I h) fun f s1 q => ?_)
  cases f with
  | next => exact wpAny_execs_nil q
  | ret v => exact q
  | brk => exact q
  | cont => exact q
theorem Inv.quiet {pins : List (Addr × Obj)} {σ : St} {H : Hp} {s : Shared} (I : Inv X pins σ H s) : interactive X.env = false := by simp [interactive, I.ok.kind]

def tDrop (te : TE) : TS := fun D σ H => te σ H fun _ H1 => D.nx σ H1
theorem ps_expr (he : PE X e te) (hs : swapsWith e none pos.line X.env = pure false := by rfl) : PS X (.Expr e pos) (tDrop te) := by
  intro pins s σ H D I h
  exact wpAny_Expr_any (thn (he pins s σ H _ I h) fun v s1 ⟨x, H1, I1, r1, q1⟩ => ⟨σ, H1, I1, q1⟩) I.quiet hs
def tRet (te : TE) : TS := fun D σ H => te σ H D.rt
theorem ps_ret (he : PE X e te) : PS X (.Return (some e) pos) (tRet te) := by
  intro pins s σ H D I h
  exact wpAny_Return_some (thn (he pins s σ H _ I h) fun v s1 ⟨x, H1, I1, r1, q1⟩ => ⟨x, σ, H1, I1, r1, q1⟩)
def tIfS (c : TT) (t u : TS) : TS := fun D σ H => c σ H fun b H1 => if b = true then t D σ H1 else u D σ H1
theorem ps_if {c : Expr} {a b : List Stmt} {tc : TT} (hc : PT X c tc) (ha : PSs X a t) (hb : PSs X b u) : PS X (.If c a b pos) (tIfS tc t u) := by
  intro pins s σ H D I h
  refine wpAny_If (thn (hc pins s σ H _ I h) fun d s1 ⟨H1, I1, q1⟩ => ?_)
  cases d with
  | true => exact ha pins s1 σ H1 D I1 q1
  | false => exact hb pins s1 σ H1 D I1 q1

end


abbrev TG := V → St → Hp → (St → Hp → Prop) → Prop
abbrev TGs := List V → St → Hp → (St → Hp → Prop) → Prop
def PG (X : Cx) (target : Expr) (t : TG) : Prop :=
  ∀ (pins : List (Addr × Obj)) (s : Shared) (σ : St) (H : Hp) (v : V) (u : Value) (Q : St → Hp → Prop), Inv X pins σ H s → RelV v u → t v σ H Q →
    wpAny (model X.prog X.w) X.A (assign target X.env u) (fun _ s' => ∃ σ' H', Inv X pins σ' H' s' ∧ Q σ' H') X.xe s

def PGs (X : Cx) (ts : List Expr) (t : TGs) : Prop :=
  ∀ (pins : List (Addr × Obj)) (s : Shared) (σ : St) (H : Hp) (vs : List V) (us : List Value) (Q : St → Hp → Prop), Inv X pins σ H s → Vals vs us → t vs σ H Q →
    wpAny (model X.prog X.w) X.A (assignInOrder ((assignEach ts X.env).map (·.2)) us) (fun _ s' => ∃ σ' H', Inv X pins σ' H' s' ∧ Q σ' H') X.xe s

abbrev TSet := V → V → V → Hp → (Hp → Prop) → Prop
def PSet (X : Cx) (t : TSet) : Prop :=
  ∀ (pins : List (Addr × Obj)) (s : Shared) (σ : St) (H : Hp) (o i v : V) (ov iv u : Value) (Q : Hp → Prop), Inv X pins σ H s → RelV o ov → RelV i iv → RelV v u → t o i v H Q →
    wpAny (model X.prog X.w) X.A (setItem ov iv u) (fun _ s' => ∃ H', Inv X pins σ H' s' ∧ Q H') X.xe s

abbrev TIp := V → V → Hp → VK → Prop
def PIp (X : Cx) (op : Operator) (t : TIp) : Prop :=
  ∀ (pins : List (Addr × Obj)) (s : Shared) (σ : St) (H : Hp) (x y : V) (v u : Value) (Q : VK), Inv X pins σ H s → RelV x v → RelV y u → t x y H Q →
    wpAny (model X.prog X.w) X.A (inplaceOp op v u) (EP X pins σ Q) X.xe s
section
variable {X : Cx} {pos : Pos}
def gName (i : Nat) : TG := fun v σ H Q => Q (σ.set i (some v)) H
theorem pg_name {i : Nat} {x : Str} (hN : X.N.Nodup) (hi : X.N[i]? = some x) (hx : Loc X.env.scope x) (hf : X.fn x = true ∨ X.env.scope.names.lookup x = some .local := by first | exact .inl rfl | exact .inr rfl | assumption) : PG X (.Name x pos) (gName i) := by
  intro pins s σ H v u Q I r h
  exact wpAny_assign_Name (store_ok I hN hi hx r (fun s' I' => ⟨_, H, I', h⟩) hf)
def gNil : TGs := fun vs σ H Q => vs = [] ∧ Q σ H
def gCons (t : TG) (u : TGs) : TGs := fun vs σ H Q => ∃ v r, vs = v :: r ∧ t v σ H fun σ' H' => u r σ' H' Q
theorem pgs_nil : PGs X [] gNil := by
  intro pins s σ H vs us Q I r h
  obtain ⟨e, h⟩ := h
  subst e
  cases r
  exact assignInOrder_nil ⟨σ, H, I, h⟩
theorem pgs_cons {e : Expr} {es : List Expr} {t : TG} {u : TGs} (h1 : PG X e t) (h2 : PGs X es u)
    (hs : (assignEach (e :: es) X.env).map (·.2) = assign e X.env :: (assignEach es X.env).map (·.2) := by rfl) : PGs X (e :: es) (gCons t u) := by
  intro pins s σ H vs us Q I r h
  obtain ⟨v, vr, e1, h⟩ := h
  subst e1
  cases r with
  | cons r rr =>
    rw [hs]
    refine assignInOrder_cons (thn (h1 pins s σ H _ _ _ I r h) fun _ s1 ⟨σ1, H1, I1, q1⟩ => ?_)
    exact h2 pins s1 σ1 H1 _ _ Q I1 rr q1

def gTup (K : PySem.W.Frag) (n : Nat) (t : TGs) : TG := fun v σ H Q => ∃ a xs, v = .ref a ∧ SqT K H a xs ∧ xs.length = n ∧ t xs σ H Q
theorem pg_tup {es : List Expr} {k : Nat} {t : TGs} {n : Nat} (hc : X.calm = true) (h : PGs X es t)
    (hn : (assignEach es X.env).length = n := by rfl) (hst : (assignEach es X.env).findIdx? (·.1) = none := by rfl) : PG X (.Tuple es k pos) (gTup X.K n t) := by
  intro pins s σ H v u Q I r hw
  obtain ⟨a, xs, e1, hq, hl, hw⟩ := hw
  subst e1
  cases r
  obtain ⟨its, rv, ht, hz⟩ := I.tuple hq
  refine assign_Tuple_tuple (I.ok.hd hc) ht (by simp [hn, ← hl, rv.length]) hst fun h' hx => ?_
  have I1 : Inv X pins σ H { s with heap := h' } := I.kept (t' := s.toks) fun b o e => hx b o (Nat.ne_of_lt (Heap.lt_size e)) e
  exact h pins _ σ H xs _ Q I1 (by simpa using rv) hw

def gSub (to ti : TE) (t : TSet) : TG := fun v σ H Q => to σ H fun o H1 => ti σ H1 fun i H2 => t o i v H2 fun H3 => Q σ H3
theorem pg_sub {o i : Expr} {to ti : TE} {t : TSet} (ho : PE X o to) (hi : PE X i ti) (hs : PSet X t)
    (ha : ∀ v, assign (.Subscript o i pos) X.env v = (do
      let ov ← holding [v] (eval o X.env)
      let iv ← holding [v, ov] (eval i X.env)
      standAt pos
      holding [v, ov, iv] (setItem ov iv v)
      release [v, ov, iv] []) := by intro _; rfl) : PG X (.Subscript o i pos) (gSub to ti t) := by
  intro pins s σ H v u Q I r h
  rw [ha]
  refine wpAny_bind (wpAny_holding (thn (ho pins s σ H _ I h) fun ov s1 ⟨x, H1, I1, r1, q1⟩ => ?_))
  refine wpAny_bind (wpAny_holding (thn (hi pins s1 σ H1 _ I1 q1) fun iv s2 ⟨y, H2, I2, r2, q2⟩ => ?_))
  refine wpAny_bind (wpAny_standAt (wpAny_bind (wpAny_holding (thn (hs pins s2 σ H2 x y v ov iv u _ I2 r1 r2 r q2) fun _ s3 ⟨H3, I3, q3⟩ => ?_))))
  exact wpAny_release ⟨σ, H3, I3, q3⟩

def tAsg (te : TE) (g : TG) : TS := fun D σ H => te σ H fun x H1 => g x σ H1 D.nx
theorem ps_asg {tg e : Expr} {te : TE} {g : TG} (he : PE X e te) (hg : PG X tg g) (hs : swapsWithSole [tg] e pos.line X.env = pure false := by rfl) (hw : swappedStores [tg] e X.env = pure none := by rfl)
    (h1 : (assignEach [tg] X.env).map (·.2) = [assign tg X.env] := by rfl) : PS X (.Assign [tg] e pos) (tAsg te g) := by
  intro pins s σ H D I h
  refine wpAny_Assign_stores (thn (he pins s σ H _ I h) fun v s1 ⟨x, H1, I1, r1, q1⟩ => ?_) hs hw
  rw [h1]
  exact thn (hg pins s1 σ H1 x v _ I1 r1 q1) fun _ s2 q => q

theorem ps_set {i : Nat} {x : Str} {e : Expr} {te : TE} {pos' : Pos} (hN : X.N.Nodup) (hi : X.N[i]? = some x) (hx : Loc X.env.scope x) (he : PE X e te) (hs : swapsWith e (some (.Name x pos')) pos.line X.env = pure false := by rfl) (hf : X.fn x = true ∨ X.env.scope.names.lookup x = some .local := by first | exact .inl rfl | exact .inr rfl | assumption) :
    PS X (.Assign [.Name x pos'] e pos) (tAsg te (gName i)) := by
  intro pins s σ H D I h
  refine wpAny_Assign_Name (thn (he pins s σ H _ I h) fun v s1 ⟨y, H1, I1, r1, q1⟩ => ?_) hs
  exact store_ok I1 hN hi hx r1 (fun s2 I2 => ⟨_, H1, I2, q1⟩) hf

def tPar (i j : Nat) (ta : TA) : TS := fun D σ H => ta σ H fun vs H1 => ∃ v w, vs = [v, w] ∧ D.nx ((σ.set i (some v)).set j (some w)) H1
def tAug (i : Nat) (te : TE) (ti : TIp) : TS := fun D σ H => ∃ x, σ[i]? = some (some x) ∧ te σ H fun y H1 => ti x y H1 fun z H2 => D.nx (σ.set i (some z)) H2
theorem ps_aug {i : Nat} {x : Str} {e : Expr} {te : TE} {op : Operator} {ti : TIp} {pos' : Pos} (hN : X.N.Nodup) (hi : X.N[i]? = some x) (hx : Loc X.env.scope x) (he : PE X e te) (ho : PIp X op ti) (hf : X.fn x = true ∨ X.env.scope.names.lookup x = some .local := by first | exact .inl rfl | exact .inr rfl | assumption) :
    PS X (.AugAssign (.Name x pos') op e pos) (tAug i te ti) := by
  intro pins s σ H D I h
  obtain ⟨v, e1, h⟩ := h
  obtain ⟨m, hn, hl⟩ := I.loc
  have vis : Vis X.env.scope x := by rcases hx with k | k; exact .inl k; exact .inr (.inl k)
  obtain ⟨u, r, l⟩ := hl i x v hi e1 vis
  refine wpAny_AugAssign_Name ?_
  have go : wpAny (model X.prog X.w) X.A (eval e X.env) (fun w s₂ => wpAny (model X.prog X.w) X.A (inplaceOp op u w) (fun r s₃ => wpAny (model X.prog X.w) X.A (storeName X.env x r) (fun _ => SP X pins D .next) X.xe s₃) X.xe s₂) X.xe s := by
    refine thn (he pins s σ H _ I h) fun w s1 ⟨y, H1, I1, r1, q1⟩ => ?_
    refine thn (ho pins s1 σ H1 v y u w _ I1 r r1 q1) fun z s2 ⟨zv, H2, I2, r2, q2⟩ => ?_
    exact store_ok I2 hN hi hx r2 (fun s3 I3 => ⟨_, H2, I3, q2⟩) hf
  rcases l with ⟨hk, hm⟩ | ⟨hk, c, hc, hcell⟩
  · exact wpAny_loadName_local I.ok.kind hk hn hm go
  · rcases hk with hk | hk
    · exact wpAny_loadName_cell I.ok.kind hk hc hcell go
    · rcases hx with k | k
      · have : X.env.scope.names.lookup x = some .free := hk
        rw [k] at this; cases this
      · have : X.env.scope.names.lookup x = some .free := hk
        rw [k] at this; cases this

def tAugS (to ti te : TE) (tget : V → V → Hp → VK → Prop) (tip : TIp) (tset : TSet) : TS := fun D σ H => to σ H fun o H1 => ti σ H1 fun i H2 => tget o i H2 fun x H3 => te σ H3 fun y H4 => tip x y H4 fun z H5 => tset o i z H5 fun H6 => D.nx σ H6

def ipI (f : Int → Int → Int) : TIp := fun x y H Q => ∃ i j, x = .int i ∧ y = .int j ∧ Q (.int (f i j)) H
theorem ip_sub : PIp X .Sub (ipI fun i j => i - j) := by
  intro pins s σ H x y v u Q I r1 r2 h
  obtain ⟨i, j, e1, e2, q⟩ := h
  subst e1; subst e2
  obtain ⟨t, rfl⟩ := r1
  obtain ⟨t', rfl⟩ := r2
  exact isub_int ⟨.int _, H, I.tok _, ⟨_, rfl⟩, q⟩
end


section
variable {X : Cx} {pos : Pos}

def tWhile (c : TT) (tb : TS) : TS := fun D σ H => ∃ W : Nat → St → Hp → Prop, (∃ m, W m σ H) ∧ ∀ m σ H, W m σ H →
  c σ H fun b H1 => if b = true then ∃ N : St → Hp → Prop, (∀ σ' H', N σ' H' → ∃ m', m' < m ∧ W m' σ' H') ∧ tb { D with nx := N, ct := N, bk := D.nx } σ H1 else D.nx σ H1
theorem ps_while {c : Expr} {body : List Stmt} {tc : TT} {tb : TS} (hp : PassesOwn (model X.prog X.w) X.A X.env X.xe) (hc : PT X c tc) (hb : PSs X body tb) : PS X (.While c body [] pos) (tWhile tc tb) := by
  intro pins s σ H D I h
  obtain ⟨W, ⟨m0, w0⟩, turn⟩ := h
  refine wpAny_While (codeAny_whileLoop (fun n s' => ∃ σ' H', Inv X pins σ' H' s' ∧ W n σ' H') ?_ m0 ⟨σ, H, I, w0⟩)
  rintro n s1 ⟨σ1, H1, I1, w1⟩
  refine wpAny_passesOwn hp (thn (hc pins s1 σ1 H1 _ I1 (turn n σ1 H1 w1)) fun b s2 ⟨H2, I2, q2⟩ => ?_)
  cases b with
  | true =>
    obtain ⟨N, hN, q2⟩ := q2
    rw [if_pos rfl]
    refine wpAny_passesOwn hp (thn (hb pins s2 σ1 H2 _ I2 q2) fun f s3 q3 => ?_)
    cases f with
    | next =>
      obtain ⟨σ3, H3, I3, n3⟩ := q3
      obtain ⟨m', hm, w3⟩ := hN σ3 H3 n3
      exact ⟨m', hm, σ3, H3, I3, w3⟩
    | cont =>
      obtain ⟨σ3, H3, I3, n3⟩ := q3
      obtain ⟨m', hm, w3⟩ := hN σ3 H3 n3
      exact ⟨m', hm, σ3, H3, I3, w3⟩
    | brk => exact q3
    | ret v => exact q3
  | false =>
    rw [if_neg Bool.false_ne_true]
    exact wpAny_execs_nil ⟨σ1, H2, I2, q2⟩
end



structure It where
  go : Nat → Hp → Prop
  yld : Nat → Hp → V → Hp → Prop
  stop : Nat → Hp → Prop

def FpOk (X : Cx) (pins : List (Addr × Obj)) (H : Hp) (b : Addr) : Prop :=
  H b = none ∧ b ≠ X.env.locals ∧ b ∉ X.fs ∧ (b ∈ X.ex ∨ X.s₀.heap.objs.size ≤ b) ∧ (∀ x c, X.env.cells.lookup x = some c → c ≠ b) ∧ ∀ p ∈ X.pn ++ pins, p.1 ≠ b
theorem Inv.fpOk {X : Cx} {pins : List (Addr × Obj)} {σ : St} {H H' : Hp} {s : Shared} {b : Addr} (I : Inv X pins σ H s) (hb : s.heap.objs.size ≤ b) (hn : H' b = none) : FpOk X pins H' b := by
  refine ⟨hn, Nat.ne_of_gt (Nat.lt_of_lt_of_le I.lt hb), I.nofs hb, .inr (Nat.le_trans I.sz hb), fun x c e z => ?_, fun p hp z => ?_⟩
  · obtain ⟨v, q⟩ := I.cell x c e
    exact absurd (Nat.lt_of_lt_of_le q.lt (by rw [z]; exact hb)) (Nat.lt_irrefl _)
  · exact absurd (Nat.lt_of_lt_of_le (Heap.lt_size (I.pin p hp).1) (by rw [z]; exact hb)) (Nat.lt_irrefl _)
structure Turn (P : Program) (w : World) (K : PySem.W.Frag) (tg : Expr) (J : It) (fp : List Addr) (it : Addr) (tn : Nat → Heap → Prop) : Prop where
  mem : it ∈ fp
  obj : ∀ i h, tn i h → ∀ b ∈ fp, ∃ o, h.get? b = some o ∧ ∀ v, o.data ≠ .cell v
  keep : ∀ i h h', tn i h → (∀ b ∈ fp, ∀ o, h.get? b = some o → h'.get? b = some o) → tn i h'
  item : ∀ (X : Cx), X.prog = P → X.w = w → X.K = K → X.calm = true → ∀ (i : Nat) (pins : List (Addr × Obj)) (s : Shared) (σ : St) (H : Hp) (E : Value → Shared → Prop), Inv X pins σ H s → (∀ b ∈ fp, FpOk X pins H b) → tn i s.heap → J.go i H →
    wpAny (model P w) X.A (pyNext (.ref it)) (fun r s1 => ∃ u, r = some u ∧
      wpAny (model P w) X.A (letOwnedTupleGo tg (.ref it) u) (fun _ s2 => ∃ x H', Inv X pins σ H' s2 ∧ RelV x u ∧ J.yld i H x H' ∧ tn (i + 1) s2.heap ∧ ∀ b ∈ fp, H' b = none) E s1) E s
  done : ∀ (X : Cx), X.prog = P → X.w = w → X.K = K → X.calm = true → ∀ (i : Nat) (pins : List (Addr × Obj)) (s : Shared) (σ : St) (H : Hp) (E : Value → Shared → Prop), Inv X pins σ H s → (∀ b ∈ fp, FpOk X pins H b) → tn i s.heap → J.stop i H →
    wpAny (model P w) X.A (pyNext (.ref it)) (fun r s1 => r = none ∧ Inv X pins σ H s1) E s
  self : ∀ (A : Around) (i : Nat) (s : Shared) (Q : Value → Shared → Prop) (E : Value → Shared → Prop), tn i s.heap → Q (.ref it) s → wpAny (model P w) A (pyIter (.ref it)) Q E s
abbrev TI := St → Hp → (It → Hp → Prop) → Prop

def PIE (X : Cx) (pins : List (Addr × Obj)) (σ : St) (tg : Expr) (R : It → Hp → Prop) (itv : Value) (s2 : Shared) : Prop :=
  ∃ (it : Addr) (fp : List Addr) (tn : Nat → Heap → Prop) (J : It) (H' : Hp), itv = .ref it ∧ Inv X pins σ H' s2 ∧ Turn X.prog X.w X.K tg J fp it tn ∧ tn 0 s2.heap ∧ (∀ b ∈ fp, FpOk X pins H' b) ∧ R J H'
def PI (X : Cx) (tg iter : Expr) (wi : TI) : Prop :=
  ∀ (pins : List (Addr × Obj)) (s : Shared) (σ : St) (H : Hp) (R : It → Hp → Prop), Inv X pins σ H s → wi σ H R →
    wpAny (model X.prog X.w) X.A (eval iter X.env) (fun v s1 => wpAny (model X.prog X.w) X.A (pyIter v) (PIE X pins σ tg R) X.xe s1) X.xe s


theorem go_of {M : Model} {A : Around} {E : Value → Shared → Prop} {s : Shared} {tg : Expr} {it : Addr} {u : Value} {o : Obj} {n : String} {vs : Array Value} {Q : Unit → Shared → Prop} (ho : s.heap.get? it = some o) (hc : o.cls = .type n) (hd : o.data = .fields vs)
    (hn : ["enumerate", "zip", "dict_itemiterator", "dict_reverseitemiterator", "odict_iterator", "itertools.zip_longest", "itertools.pairwise"].contains n = false) (hQ : Q () s) : wpAny M A (letOwnedTupleGo tg (.ref it) u) Q E s := by
  unfold letOwnedTupleGo
  cases tg <;> first
    | exact wpAny_pure hQ
    | (cases u <;> first
        | exact wpAny_pure hQ
        | (refine wpAny_bind (wpAny_load ho ?_)
           rw [hc, hd]
           show wpAny M A (if (["enumerate", "zip", "dict_itemiterator", "dict_reverseitemiterator", "odict_iterator", "itertools.zip_longest", "itertools.pairwise"].contains n && vs[0]? == some (rawInt _)) = true then _ else _) Q E s
           rw [if_neg (by intro h; rw [hn, Bool.false_and] at h; cases h)]
           exact wpAny_pure hQ))


def Itl (K : PySem.W.Frag) (a : Addr) : It :=
  ⟨fun i H => ∃ xs x, SqL K H a xs ∧ xs[i]? = some x, fun i H x H' => H' = H ∧ ∀ xs, SqL K H a xs → xs[i]? = some x, fun i H => ∃ xs, SqL K H a xs ∧ xs.length ≤ i⟩
def Itt (K : PySem.W.Frag) (a : Addr) : It :=
  ⟨fun i H => ∃ xs x, SqT K H a xs ∧ xs[i]? = some x, fun i H x H' => H' = H ∧ ∀ xs, SqT K H a xs → xs[i]? = some x, fun i H => ∃ xs, SqT K H a xs ∧ xs.length ≤ i⟩

def Itr (lo : Int) (n : Nat) : It := ⟨fun i _ => i < n, fun i H x H' => H' = H ∧ x = .int (lo + i), fun i _ => n ≤ i⟩
theorem turn_list {P : Program} {w : World} {K : PySem.W.Frag} {tg : Expr} (a it : Addr) : Turn P w K tg (Itl K a) [it] it (fun i h => h.IsListIter it a i) where
  mem := by simp
  obj := fun i h st b hb => by
    have e : b = it := by simpa using hb
    subst e
    obtain ⟨o, e, c, d⟩ := st
    exact ⟨o, e, fun v z => by rw [d] at z; cases z⟩
  keep := fun i h h' st k => st.at fun o e => k it (by simp) o e
  item := by
    intro X hP hw hK hc i pins s σ H E I hf st hg
    subst hP hw hK
    obtain ⟨xs, x, hq, hx⟩ := hg
    obtain ⟨its, rv, p, hz⟩ := I.list hq
    obtain ⟨u, hu, ru⟩ := rv.get hx
    obtain ⟨f0, f1, f2, f3, f4, f5⟩ := hf it (by simp)
    refine wpAny_pyNext_list_item st p.isList (x := u) (by simpa using hu) fun h' st' sb => ?_
    have I1 : Inv X pins σ H { s with heap := h' } := I.turned (t' := s.toks) (fun b o hb e => (sb.2 b hb).trans e) f0 f1 f3 f4 f5
    obtain ⟨o, e, c, d⟩ := id st'
    exact ⟨u, rfl, go_of (s := { s with heap := h' }) e c d (by decide) ⟨x, H, I1, ru, ⟨rfl, fun ys hy => by rw [I.list_inj hy hq]; exact hx⟩, st', fun b hb => (hf b hb).1⟩⟩
  done := by
    intro X hP hw hK hc i pins s σ H E I hf st hg
    subst hP hw hK
    obtain ⟨xs, hq, hx⟩ := hg
    obtain ⟨its, rv, p, hz⟩ := I.list hq
    obtain ⟨f0, f1, f2, f3, f4, f5⟩ := hf it (by simp)
    have hl := rv.length
    exact wpAny_pyNext_list_end (I.ok.hd hc) st p.isList (by simp; omega) fun h' eb => ⟨rfl, I.turned (t' := s.toks) (fun b o hb e => eb b o hb e) f0 f1 f3 f4 f5⟩
  self := fun _ _ _ _ _ st h => wpAny_pyIter_listiter st h
theorem turn_range {P : Program} {w : World} {K : PySem.W.Frag} {tg : Expr} (it : Addr) (lo : Int) (n : Nat) : Turn P w K tg (Itr lo n) [it] it (fun i h => IsRangeIter h it (lo + (i : Nat) * 1) ((n : Int) - (i : Nat)) 1) where
  mem := by simp
  obj := fun i h st b hb => by
    have e : b = it := by simpa using hb
    subst e
    exact ⟨_, st, fun v z => by
      have z' : Data.fields _ = Data.cell v := z
      cases z'⟩
  keep := fun i h h' st k => k it (by simp) _ st
  item := by
    intro X hP hw hK hc i pins s σ H E I hf st hg
    subst hP hw hK
    obtain ⟨f0, f1, f2, f3, f4, f5⟩ := hf it (by simp)
    have W := Walks.range (prog := X.prog) (w := X.w) (I.ok.hd hc) it lo 1 n
    refine W.item i s _ _ hg st fun v h' tk hv st' kk => ?_
    obtain ⟨t, rfl⟩ := hv
    have I1 : Inv X pins σ H { s with heap := h', toks := tk } := I.turned (fun b o hb e => kk b o (by simpa using hb) e) f0 f1 f3 f4 f5
    refine ⟨_, rfl, go_of (s := { s with heap := h', toks := tk }) (n := "range_iterator") st' rfl rfl (by decide) ⟨.int (lo + i), H, I1, ⟨t, ?_⟩, ⟨rfl, rfl⟩, st', fun b hb => (hf b hb).1⟩⟩
    rw [Int.mul_one]
  done := by
    intro X hP hw hK hc i pins s σ H E I hf st hg
    subst hP hw hK
    obtain ⟨f0, f1, f2, f3, f4, f5⟩ := hf it (by simp)
    exact wpAny_pyNext_range_end (I.ok.hd hc) st (by have : n ≤ i := hg; omega) fun h' eb => ⟨rfl, I.turned (t' := s.toks) (fun b o hb e => eb b o hb e) f0 f1 f3 f4 f5⟩
  self := fun _ _ _ _ _ st h => wpAny_pyIter_rangeiter st h
end L2

namespace L2
open PySem PySem.Spec PyProof.Rows
section
variable {X : Cx} {tg : Expr}
def iList (K : PySem.W.Frag) (tl : TE) : TI := fun σ H R => tl σ H fun x H1 => ∃ a, x = .ref a ∧ (∃ xs, SqL K H1 a xs) ∧ R (Itl K a) H1
def iTup (K : PySem.W.Frag) (tl : TE) : TI := fun σ H R => tl σ H fun x H1 => ∃ a, x = .ref a ∧ (∃ xs, SqT K H1 a xs) ∧ R (Itt K a) H1
theorem pi_list {l : Expr} {tl : TE} (hl : PE X l tl) : PI X tg l (iList X.K tl) := by
  intro pins s σ H R I h
  refine thn (hl pins s σ H _ I h) fun v s1 ⟨x, H1, I1, r1, q1⟩ => ?_
  obtain ⟨a, e, ⟨xs, hq⟩, q⟩ := q1
  subst e
  cases r1
  obtain ⟨its, rv, p, hz⟩ := I1.list hq
  refine wpAny_pyIter_list p.isList ?_
  refine ⟨s1.heap.objs.size, [s1.heap.objs.size], _, _, H1, rfl, I1.kept (t' := s1.toks) fun b o e => Heap.get?_push_of_some _ e, turn_list a _, ⟨_, Heap.get?_push_size _ rfl, rfl, rfl⟩, fun b hb => ?_, q⟩
  have e : b = s1.heap.objs.size := by simpa using hb
  subst e
  exact I1.fpOk (Nat.le_refl _) (I1.hok.fresh (Nat.le_refl _))
theorem range_it {pins : List (Addr × Obj)} {σ : St} {H : Hp} {s : Shared} {R : It → Hp → Prop} {E : Value → Shared → Prop} {lo hi : Int} {t u v : Tok} {tk : Nat} (I : Inv X pins σ H s) (h1 : -(2 ^ 62) ≤ lo) (h2 : lo < 2 ^ 62) (h3 : -(2 ^ 62) ≤ hi) (h4 : hi < 2 ^ 62)
    (q : R (Itr lo (hi - lo).toNat) H) : wpAny (model X.prog X.w) X.A (pyIter (.ref s.heap.objs.size)) (PIE X pins σ tg R) E { s with heap := s.heap.push { cls := .type "range", data := .fields #[.int lo t, .int hi u, .int 1 v] }, toks := tk } := by
  refine wpAny_pyIter_range (IsRange.new ..) (small_one h1 h2 h3 h4) ?_
  have I1 : Inv X pins σ H { s with heap := s.heap.push { cls := .type "range", data := .fields #[.int lo t, .int hi u, .int 1 v] }, toks := tk } := I.kept fun b o e => Heap.get?_push_of_some _ e
  refine ⟨(s.heap.push { cls := .type "range", data := .fields #[.int lo t, .int hi u, .int 1 v] }).objs.size, [(s.heap.push { cls := .type "range", data := .fields #[.int lo t, .int hi u, .int 1 v] }).objs.size], _, _, H, rfl,
    I1.kept (t' := tk) fun b o e => Heap.get?_push_of_some _ e, turn_range _ lo (hi - lo).toNat, ?_, fun b hb => ?_, q⟩
  · have e1 : lo + ((0 : Nat) : Int) * 1 = lo := by simp
    have e2 : (((hi - lo).toNat : Nat) : Int) - ((0 : Nat) : Int) = Builtin.Range.rangeSize lo hi 1 := by rw [rangeSize_one]; split <;> omega
    show IsRangeIter _ _ (lo + ((0 : Nat) : Int) * 1) ((((hi - lo).toNat : Nat) : Int) - ((0 : Nat) : Int)) 1
    rw [e1, e2]
    exact Heap.get?_push_size _ rfl
  · have e : b = (s.heap.push { cls := .type "range", data := .fields #[.int lo t, .int hi u, .int 1 v] }).objs.size := by simpa using hb
    subst e
    exact I1.fpOk (Nat.le_refl _) (I1.hok.fresh (Nat.le_refl _))
def iRng1 (ta : TA) : TI := fun σ H R => ta σ H fun vs H1 => ∃ j : Int, vs = [.int j] ∧ -(2 ^ 62) ≤ j ∧ j < 2 ^ 62 ∧ R (Itr 0 j.toNat) H1
def iRng2 (ta : TA) : TI := fun σ H R => ta σ H fun vs H1 => ∃ i j : Int, vs = [.int i, .int j] ∧ (-(2 ^ 62) ≤ i ∧ i < 2 ^ 62 ∧ -(2 ^ 62) ≤ j ∧ j < 2 ^ 62) ∧ R (Itr i (j - i).toNat) H1
theorem pi_range1 {a : Expr} {ta : TA} {p pos : Pos} (hg : Gl X "range") (hm : X.mg "range" = none) (ha : PA X [a] ta) (hs : starEach [a] X.env = [(false, eval a X.env)] := by rfl) : PI X tg (.Call (.Name "range" p) [a] [] pos) (iRng1 ta) := by
  intro pins s σ H R I h
  refine Call_ (ld_blt I hg hm boot_range (PyProof.Rows.callWith_type1 (thn (ha pos pins s σ H _ I h) fun us s1 ⟨vs, H1, I1, r1, q1⟩ => ?_) hs rfl))
  obtain ⟨j, e, q1, q2, q⟩ := q1
  subst e
  cases r1 with
  | cons r rr =>
    cases rr
    obtain ⟨t, rfl⟩ := r
    exact call_range_1 (range_it I1 (by omega) (by omega) q1 q2 (by simpa using q))
theorem pi_range2 {a b : Expr} {ta : TA} {p pos : Pos} (hg : Gl X "range") (hm : X.mg "range" = none) (ha : PA X [a, b] ta) (hs : starEach [a, b] X.env = [(false, eval a X.env), (false, eval b X.env)] := by rfl) (hs2 : starEach [b] X.env = [(false, eval b X.env)] := by rfl) :
    PI X tg (.Call (.Name "range" p) [a, b] [] pos) (iRng2 ta) := by
  intro pins s σ H R I h
  refine Call_ (ld_blt I hg hm boot_range (PyProof.Rows.callWith_type1 (thn (ha pos pins s σ H _ I h) fun us s1 ⟨vs, H1, I1, r1, q1⟩ => ?_) (by rw [hs, hs2]) (by rw [hs2]; rfl)))
  obtain ⟨i, j, e, ⟨q1, q2, q3, q4⟩, q⟩ := q1
  subst e
  cases r1 with
  | cons r rr =>
    cases rr with
    | cons r' rr =>
      cases rr
      obtain ⟨t, rfl⟩ := r
      obtain ⟨t', rfl⟩ := r'
      exact call_range_2 (range_it I1 q1 q2 q3 q4 q)



def tFor (wi : TI) (g : TG) (tb : TS) : TS := fun D σ H => wi σ H fun J H1 => ∃ W : Nat → Nat → St → Hp → Prop, (∃ m, W 0 m σ H1) ∧ ∀ i m σ H, W i m σ H →
  (J.stop i H ∧ D.nx σ H) ∨ (J.go i H ∧ ∃ N : St → Hp → Prop, (∀ σ' H', N σ' H' → ∃ m', m' < m ∧ W (i + 1) m' σ' H') ∧ ∀ x H', J.yld i H x H' → g x σ H' fun σ2 H2 => tb { D with nx := N, ct := N, bk := D.nx } σ2 H2)

def pinsAt (fp : List Addr) (h : Heap) : List (Addr × Obj) := fp.filterMap fun b => (h.get? b).map fun o => (b, o)
theorem mem_pinsAt {fp : List Addr} {h : Heap} {b : Addr} {o : Obj} (hb : b ∈ fp) (e : h.get? b = some o) : (b, o) ∈ pinsAt fp h := List.mem_filterMap.mpr ⟨b, hb, by rw [e]; rfl⟩
theorem of_pinsAt {fp : List Addr} {h : Heap} {p : Addr × Obj} (hp : p ∈ pinsAt fp h) : p.1 ∈ fp ∧ h.get? p.1 = some p.2 := by
  obtain ⟨b, hb, e⟩ := List.mem_filterMap.mp hp
  cases q : h.get? b with
  | none => rw [q] at e; cases e
  | some o =>
    rw [q] at e
    have e' : (b, o) = p := Option.some.inj e
    subst e'
    exact ⟨hb, q⟩
theorem Inv.pinned {pins : List (Addr × Obj)} {σ : St} {H : Hp} {s : Shared} {fp : List Addr} (I : Inv X pins σ H s) (hf : ∀ b ∈ fp, FpOk X pins H b) (ho : ∀ b ∈ fp, ∃ o, s.heap.get? b = some o ∧ ∀ v, o.data ≠ .cell v) : Inv X (pins ++ pinsAt fp s.heap) σ H s :=
  I.pins_of fun p hp => (List.mem_append.mp hp).elim (fun z => I.pin p (List.mem_append_right _ z)) fun z => by
    obtain ⟨hb, e⟩ := of_pinsAt z
    obtain ⟨f0, f1, f2, _⟩ := hf p.1 hb
    obtain ⟨o, e', d⟩ := ho p.1 hb
    rw [e] at e'; cases e'
    exact ⟨e, f0, f1, f2, d⟩
theorem Inv.unpinned {pins pl : List (Addr × Obj)} {σ : St} {H : Hp} {s : Shared} (I : Inv X (pins ++ pl) σ H s) : Inv X pins σ H s := I.pins_of fun p hp => I.pin p (List.mem_append_right _ (List.mem_append_left _ hp))
theorem ps_for {iter : Expr} {body : List Stmt} {wi : TI} {g : TG} {tb : TS} {pos : Pos} (hp : PassesOwn (model X.prog X.w) X.A X.env X.xe) (hc : X.calm = true) (hi : PI X tg iter wi) (hg : PG X tg g) (hb : PSs X body tb)
    (hs : ∀ x, foldedSetIterable iter X.env x = pure x := by intro _; rfl) : PS X (.For tg iter body [] pos) (tFor wi g tb) := by
  intro pins s σ H D I h
  refine wpAny_For (thn (hi pins s σ H _ I h) fun v s1 h1 => thn h1 fun itv s2 h2 => ?_) hs
  obtain ⟨it, fp, tn, J, H2, e, I2, T, st2, f2, W, ⟨m0, w0⟩, turn⟩ := h2
  subst e
  -- what stays true of the iterator's objects through the loop
  have stat : ∀ {H' : Hp}, (∀ b ∈ fp, H' b = none) → ∀ b ∈ fp, FpOk X pins H' b := fun hn b hb => ⟨hn b hb, (f2 b hb).2⟩
  refine codeAny_forLoop_any (fun n s' => ∃ i σ' H', Inv X pins σ' H' s' ∧ tn i s'.heap ∧ (∀ b ∈ fp, H' b = none) ∧ W i n σ' H') ?_ m0 ⟨0, σ, H2, I2, st2, fun b hb => (f2 b hb).1, w0⟩
  rintro n s3 ⟨i, σ3, H3, I3, st3, fr3, w3⟩
  rcases turn i n σ3 H3 w3 with ⟨stop, qn⟩ | ⟨go, N, hN, step⟩
  · refine wpAny_passesOwn hp (thn (T.done X rfl rfl rfl hc i pins s3 σ3 H3 X.xe I3 (stat fr3) st3 stop) fun r s4 ⟨hr, I4⟩ => ?_)
    subst hr
    exact wpAny_execs_nil ⟨σ3, H3, I4, qn⟩
  · refine wpAny_passesOwn hp (thn (T.item X rfl rfl rfl hc i pins s3 σ3 H3 X.xe I3 (stat fr3) st3 go) fun r s4 ⟨u, hr, h4⟩ => ?_)
    subst hr
    refine wpAny_passesOwn hp (thn h4 fun _ s5 ⟨x, H5, I5, r5, y5, st5, fr5⟩ => ?_)
    have I5' := I5.pinned (stat fr5) (T.obj _ _ st5)
    refine wpAny_passesOwn hp (thn (hg _ s5 σ3 H5 x u _ I5' r5 (step x H5 y5)) fun _ s6 ⟨σ6, H6, I6, q6⟩ => ?_)
    refine wpAny_passesOwn hp (thn (hb _ s6 σ6 H6 _ I6 q6) fun f s7 q7 => ?_)
    have again : ∀ {σ7 : St} {H7 : Hp}, Inv X (pins ++ pinsAt fp s5.heap) σ7 H7 s7 → N σ7 H7 → ∃ m, m < n ∧ ∃ i σ' H', Inv X pins σ' H' s7 ∧ tn i s7.heap ∧ (∀ b ∈ fp, H' b = none) ∧ W i m σ' H' := fun {σ7 H7} I7 n7 => by
      obtain ⟨m', hm, w7⟩ := hN σ7 H7 n7
      refine ⟨m', hm, i + 1, σ7, H7, I7.unpinned, T.keep _ _ _ st5 fun b hb o e => (I7.pin (b, o) (List.mem_append_right _ (List.mem_append_right _ (mem_pinsAt hb e)))).1, fun b hb => ?_, w7⟩
      obtain ⟨o, e, d⟩ := T.obj _ _ st5 b hb
      exact (I7.pin (b, o) (List.mem_append_right _ (List.mem_append_right _ (mem_pinsAt hb e)))).2.1
    cases f with
    | next => obtain ⟨σ7, H7, I7, n7⟩ := q7; exact again I7 n7
    | cont => obtain ⟨σ7, H7, I7, n7⟩ := q7; exact again I7 n7
    | brk => obtain ⟨σ7, H7, I7, q7⟩ := q7; exact ⟨σ7, H7, I7.unpinned, q7⟩
    | ret v => obtain ⟨x7, σ7, H7, I7, r7, q7⟩ := q7; exact ⟨x7, σ7, H7, I7.unpinned, r7, q7⟩
end



theorem for_range {lo : Int} {n : Nat} {g : TG} {tb : TS} {D : Ends} {σ : St} {H : Hp} (Pv : Nat → St → Hp → Prop) (h0 : Pv 0 σ H)
    (hs : ∀ i σ H, i < n → Pv i σ H → g (.int (lo + i)) σ H fun σ2 H2 => tb { D with nx := Pv (i + 1), ct := Pv (i + 1), bk := D.nx } σ2 H2) (hd : ∀ σ H, Pv n σ H → D.nx σ H) :
    ∃ W : Nat → Nat → St → Hp → Prop, (∃ m, W 0 m σ H) ∧ ∀ i m σ H, W i m σ H →
      ((Itr lo n).stop i H ∧ D.nx σ H) ∨ ((Itr lo n).go i H ∧ ∃ N : St → Hp → Prop, (∀ σ' H', N σ' H' → ∃ m', m' < m ∧ W (i + 1) m' σ' H') ∧ ∀ x H', (Itr lo n).yld i H x H' → g x σ H' fun σ2 H2 => tb { D with nx := N, ct := N, bk := D.nx } σ2 H2) := by
  refine ⟨fun i m σ H => m = n - i ∧ i ≤ n ∧ Pv i σ H, ⟨n, by simp, Nat.zero_le _, h0⟩, ?_⟩
  rintro i m σ H ⟨rfl, hi, p⟩
  by_cases hlt : i < n
  · refine .inr ⟨hlt, Pv (i + 1), fun σ' H' p' => ⟨n - (i + 1), by omega, rfl, hlt, p'⟩, fun x H' y => ?_⟩
    obtain ⟨e, y⟩ := y
    subst e y
    exact hs i σ _ hlt p
  · have e : i = n := by omega
    subst e
    exact .inl ⟨Nat.le_refl _, hd σ H p⟩

end L2

namespace L2
open PySem PySem.Spec PyProof.Rows

abbrev R2 := V → V → Hp → VK → Prop

def OpR (X : Cx) (f : Value → Value → Sem Value) (r : R2) : Prop :=
  ∀ (pins : List (Addr × Obj)) (s : Shared) (σ : St) (H : Hp) (x y : V) (v u : Value) (Q : VK), Inv X pins σ H s → RelV x v → RelV y u → r x y H Q →
    wpAny (model X.prog X.w) X.A (f v u) (EP X pins σ Q) X.xe s

def UnR (X : Cx) (f : Value → Sem Value) (r : V → Hp → VK → Prop) : Prop :=
  ∀ (pins : List (Addr × Obj)) (s : Shared) (σ : St) (H : Hp) (x : V) (v : Value) (Q : VK), Inv X pins σ H s → RelV x v → r x H Q →
    wpAny (model X.prog X.w) X.A (f v) (EP X pins σ Q) X.xe s

def CallR (X : Cx) (f : Value) (r : List V → Hp → VK → Prop) : Prop :=
  ∀ (pins : List (Addr × Obj)) (s : Shared) (σ : St) (H : Hp) (xs : List V) (us : List Value) (Q : VK), Inv X pins σ H s → Vals xs us → r xs H Q →
    wpAny (model X.prog X.w) X.A (call f us) (EP X pins σ Q) X.xe s

def tOp (r : R2) (ta tb : TE) : TE := fun σ H Q => ta σ H fun x H1 => tb σ H1 fun y H2 => r x y H2 Q
def tUn (r : V → Hp → VK → Prop) (ta : TE) : TE := fun σ H Q => ta σ H fun x H1 => r x H1 Q

def rI (C : Int → Int → Prop) (g : Int → Int → V) : R2 := fun x y H Q => ∃ i j, x = .int i ∧ y = .int j ∧ C i j ∧ Q (g i j) H
def rI0 (g : Int → Int → V) : R2 := fun x y H Q => ∃ i j, x = .int i ∧ y = .int j ∧ Q (g i j) H
def rU (g : Int → V) : V → Hp → VK → Prop := fun x H Q => ∃ i, x = .int i ∧ Q (g i) H

section
variable {X : Cx} {a b c : Expr} {ta tb tc : TE} {pos : Pos}

theorem binT (ha : PE X a ta) (hb : PE X b tb) {pins : List (Addr × Obj)} {s : Shared} {σ : St} {H : Hp} {R : V → V → Hp → Prop} (I : Inv X pins σ H s)
    (h : ta σ H fun x H1 => tb σ H1 fun y H2 => R x y H2) {Q : Value → Shared → Prop} {f : Value → Value → Sem Value}
    (hf : ∀ v u s2 x y H2, Inv X pins σ H2 s2 → RelV x v → RelV y u → R x y H2 → wpAny (model X.prog X.w) X.A (f v u) Q X.xe s2) :
    wpAny (model X.prog X.w) X.A (eval a X.env) (fun v s₁ => wpAny (model X.prog X.w) X.A (eval b X.env) (fun u s₂ => wpAny (model X.prog X.w) X.A (f v u) Q X.xe s₂) X.xe s₁) X.xe s := by
  refine thn (ha pins s σ H _ I h) fun v s1 ⟨x, H1, I1, r1, q1⟩ => ?_
  refine thn (hb pins s1 σ H1 _ I1 q1) fun u s2 ⟨y, H2, I2, r2, q2⟩ => ?_
  exact hf v u s2 x y H2 I2 r1 r2 q2

theorem pe_op {op : Operator} {r : R2} (ho : OpR X (binaryOp op) r) (ha : PE X a ta) (hb : PE X b tb) : PE X (.BinOp a op b pos) (tOp r ta tb) := by
  intro pins s σ H Q I h
  exact wpAny_BinOp (binT ha hb I h fun v u s2 x y H2 I2 rx ry q => ho pins s2 σ H2 x y v u Q I2 rx ry q)
theorem pe_un {op : UnaryOp} {r : V → Hp → VK → Prop} (ho : UnR X (unaryOp op) r) (ha : PE X a ta) : PE X (.UnaryOp op a pos) (tUn r ta) := by
  intro pins s σ H Q I h
  exact UnaryOp_ (thn (ha pins s σ H _ I h) fun v s1 ⟨x, H1, I1, r1, q1⟩ => ho pins s1 σ H1 x v Q I1 r1 q1)

theorem opI {f : Value → Value → Sem Value} {C : Int → Int → Prop} {g : Int → Int → Int}
    (rule : ∀ (i j : Int) (t u : Tok) (s : Shared) (Q : Value → Shared → Prop) (E : Value → Shared → Prop), C i j → Q (.int (g i j) s.toks) { s with toks := s.toks + 1 } → wpAny (model X.prog X.w) X.A (f (.int i t) (.int j u)) Q E s) :
    OpR X f (rI C fun i j => .int (g i j)) := by
  intro pins s σ H x y v u Q I rx ry h
  obtain ⟨i, j, rfl, rfl, hc, q⟩ := h
  obtain ⟨t, rfl⟩ := rx
  obtain ⟨t', rfl⟩ := ry
  exact rule i j t t' s _ _ hc ⟨.int (g i j), H, I.tok _, ⟨_, rfl⟩, q⟩
theorem opI0 {f : Value → Value → Sem Value} {g : Int → Int → Int}
    (rule : ∀ (i j : Int) (t u : Tok) (s : Shared) (Q : Value → Shared → Prop) (E : Value → Shared → Prop), Q (.int (g i j) s.toks) { s with toks := s.toks + 1 } → wpAny (model X.prog X.w) X.A (f (.int i t) (.int j u)) Q E s) :
    OpR X f (rI0 fun i j => .int (g i j)) := by
  intro pins s σ H x y v u Q I rx ry h
  obtain ⟨i, j, rfl, rfl, q⟩ := h
  obtain ⟨t, rfl⟩ := rx
  obtain ⟨t', rfl⟩ := ry
  exact rule i j t t' s _ _ ⟨.int (g i j), H, I.tok _, ⟨_, rfl⟩, q⟩
theorem opB0 {f : Value → Value → Sem Value} {g : Int → Int → Bool}
    (rule : ∀ (i j : Int) (t u : Tok) (s : Shared) (Q : Value → Shared → Prop) (E : Value → Shared → Prop), Q (.bool (g i j)) s → wpAny (model X.prog X.w) X.A (f (.int i t) (.int j u)) Q E s) :
    OpR X f (rI0 fun i j => .bl (g i j)) := by
  intro pins s σ H x y v u Q I rx ry h
  obtain ⟨i, j, rfl, rfl, q⟩ := h
  obtain ⟨t, rfl⟩ := rx
  obtain ⟨t', rfl⟩ := ry
  exact rule i j t t' s _ _ ⟨.bl (g i j), H, I, rfl, q⟩

def CPow (i j : Int) : Prop := 0 ≤ j ∧ j ≤ 1000000 ∧ i.natAbs < 2 ^ 64
def CMul (i j : Int) : Prop := (-(2 ^ 64) < i ∧ i < 2 ^ 64) ∨ (-(2 ^ 64) < j ∧ j < 2 ^ 64)
theorem CMul.ok {i j : Int} (h : CMul i j) : IntMulOk i j := by
  rcases h with ⟨h1, h2⟩ | ⟨h1, h2⟩
  · exact .of_left (intBits_le_64 h1 h2)
  · exact .of_right (intBits_le_64 h1 h2)
theorem op_add : OpR X (binaryOp .Add) (rI0 fun i j => .int (i + j)) := opI0 fun _ _ _ _ _ _ _ q => add_int q
theorem op_sub : OpR X (binaryOp .Sub) (rI0 fun i j => .int (i - j)) := opI0 fun _ _ _ _ _ _ _ q => sub_int q
theorem op_mod : OpR X (binaryOp .Mod) (rI (fun _ j => 0 < j) fun i j => .int (i % j)) := opI fun i j _ _ _ _ _ hc q => by
  have h1 : (0 : Int) < j := hc
  exact mod_int' (by omega) (by rw [Int.fmod_eq_emod_of_nonneg i (by omega)]; exact q)
theorem op_pow : OpR X (binaryOp .Pow) (rI CPow fun i j => .int (i ^ j.toNat)) := opI fun _ _ _ _ _ _ _ hc q => pow_int_small hc.1 hc.2.1 hc.2.2 q
theorem unI {f : Value → Sem Value} {g : Int → Int}
    (rule : ∀ (i : Int) (t : Tok) (s : Shared) (Q : Value → Shared → Prop) (E : Value → Shared → Prop), Q (.int (g i) s.toks) { s with toks := s.toks + 1 } → wpAny (model X.prog X.w) X.A (f (.int i t)) Q E s) :
    UnR X f (rU fun i => .int (g i)) := by
  intro pins s σ H x v Q I rx h
  obtain ⟨i, rfl, q⟩ := h
  obtain ⟨t, rfl⟩ := rx
  exact rule i t s _ _ ⟨.int (g i), H, I.tok _, ⟨_, rfl⟩, q⟩
theorem un_neg : UnR X (unaryOp .USub) (rU fun i => .int (-i)) := unI fun _ _ _ _ _ q => neg_int q
end



def scal : V → V → Bool
  | .non, .non => true | .non, .int _ => true | .int _, .non => true | .non, .bl _ => true | .bl _, .non => true | .non, .str _ => true | .str _, .non => true
  | .int _, .int _ => true | .bl _, .bl _ => true | .str _, .str _ => true | .byt _, .byt _ => true
  | .int _, .str _ => true | .str _, .int _ => true | .bl _, .str _ => true | .str _, .bl _ => true
  | _, _ => false
def rEq : R2 := fun x y H Q => scal x y = true ∧ Q (.bl (decide (x = y))) H
def rNe : R2 := fun x y H Q => scal x y = true ∧ Q (.bl (!decide (x = y))) H

theorem dec_int {i j : Int} : decide (V.int i = V.int j) = (i == j) := by
  rw [Bool.eq_iff_iff]
  simp
theorem dec_bl {i j : Bool} : decide (V.bl i = V.bl j) = (i == j) := by
  rw [Bool.eq_iff_iff]
  simp
theorem dec_str {i j : Str} : decide (V.str i = V.str j) = (i == j) := by
  rw [Bool.eq_iff_iff]
  simp
theorem dec_byt {i j : Array UInt8} : decide (V.byt i = V.byt j) = (i.toList == j.toList) := by
  rw [Bool.eq_iff_iff]
  cases i
  cases j
  simp

section
variable {X : Cx} {a b c : Expr} {ta tb tc : TE} {pos : Pos}
theorem fin_bl {pins : List (Addr × Obj)} {σ : St} {H : Hp} {s : Shared} {Q : VK} {k k' : Bool} (I : Inv X pins σ H s) (q : Q (.bl k) H) (e : k = k') : EP X pins σ Q (.bool k') s := by
  subst e
  exact ⟨.bl k, H, I, rfl, q⟩
theorem op_eq : OpR X (compareOp .Eq) rEq := by
  intro pins s σ H x y v u Q I rx ry h
  obtain ⟨hs, q⟩ := h
  cases x with
  | non =>
    cases rx
    cases y with
    | non => cases ry; exact PySem.EqNone.eq_none_none (fin_bl I q (by simp))
    | bl j => cases ry; exact PySem.EqNone.eq_none_bool (fin_bl I q (by simp))
    | int j => obtain ⟨t', rfl⟩ := ry; exact PySem.EqNone.eq_none_int (fin_bl I q (by simp))
    | str j => obtain ⟨t', rfl⟩ := ry; exact PySem.EqNone.eq_none_str (fin_bl I q (by simp))
    | _ => exact absurd (show false = true from hs) Bool.false_ne_true
  | bl i =>
    cases rx
    cases y with
    | non => cases ry; exact PySem.EqNone.eq_bool_none (fin_bl I q (by simp))
    | bl j => cases ry; exact eq_bool (fin_bl I q dec_bl)
    | str j => obtain ⟨t', rfl⟩ := ry; exact PySem.EqMixed.eq_bool_str (fin_bl I q (by simp))
    | _ => exact absurd (show false = true from hs) Bool.false_ne_true
  | int i =>
    obtain ⟨t, rfl⟩ := rx
    cases y with
    | non => cases ry; exact PySem.EqNone.eq_int_none (fin_bl I q (by simp))
    | int j => obtain ⟨t', rfl⟩ := ry; exact eq_int (fin_bl I q dec_int)
    | str j => obtain ⟨t', rfl⟩ := ry; exact PySem.EqMixed.eq_int_str (fin_bl I q (by simp))
    | _ => exact absurd (show false = true from hs) Bool.false_ne_true
  | str i =>
    obtain ⟨t, rfl⟩ := rx
    cases y with
    | non => cases ry; exact PySem.EqNone.eq_str_none (fin_bl I q (by simp))
    | bl j => cases ry; exact PySem.EqMixed.eq_str_bool (fin_bl I q (by simp))
    | int j => obtain ⟨t', rfl⟩ := ry; exact PySem.EqMixed.eq_str_int (fin_bl I q (by simp))
    | str j => obtain ⟨t', rfl⟩ := ry; exact eq_str (fin_bl I q dec_str)
    | _ => exact absurd (show false = true from hs) Bool.false_ne_true
  | byt i =>
    obtain ⟨t, rfl⟩ := rx
    cases y with
    | byt j => obtain ⟨t', rfl⟩ := ry; exact PySem.W.eq_bytes (fin_bl I q dec_byt)
    | _ => exact absurd (show false = true from hs) Bool.false_ne_true
  | _ => cases y <;> exact absurd (show false = true from hs) Bool.false_ne_true
theorem op_lt : OpR X (compareOp .Lt) (rI0 fun i j => .bl (decide (i < j))) := opB0 fun _ _ _ _ _ _ _ q => lt_int q
theorem op_le : OpR X (compareOp .LtE) (rI0 fun i j => .bl (decide (i ≤ j))) := opB0 fun _ _ _ _ _ _ _ q => le_int q
theorem op_gt : OpR X (compareOp .Gt) (rI0 fun i j => .bl (decide (j < i))) := opB0 fun _ _ _ _ _ _ _ q => gt_int q
theorem op_ge : OpR X (compareOp .GtE) (rI0 fun i j => .bl (decide (j ≤ i))) := opB0 fun _ _ _ _ _ _ _ q => ge_int q
theorem OpR.or {f : Value → Value → Sem Value} {r r' : R2} (h : OpR X f r) (h' : OpR X f r') : OpR X f (fun x y H Q => r x y H Q ∨ r' x y H Q) := by
  intro pins s σ H x y v u Q I rx ry q
  rcases q with q | q
  · exact h pins s σ H x y v u Q I rx ry q
  · exact h' pins s σ H x y v u Q I rx ry q

theorem nomark (b : Expr) {op : CmpOp} (h : op ≠ .In := by decide) (h2 : op ≠ .NotIn := by decide) : behindInMarks op b = false := by
  have e1 : (op == CmpOp.In) = false := by cases op <;> first | rfl | exact absurd rfl h
  have e2 : (op == CmpOp.NotIn) = false := by cases op <;> first | rfl | exact absurd rfl h2
  cases b <;> simp [behindInMarks, e1, e2]

def tTest (t : TE) : TT := fun σ H Q => t σ H fun x H' => ∃ k, x = .bl k ∧ Q k H'
theorem pt_cmpR {op : CmpOp} {r : R2} (ho : OpR X (compareOp op) r) (ha : PE X a ta) (hb : PE X b tb) (hm : behindInMarks op b = false) : PT X (.Compare a [op] [b] pos) (tTest (tOp r ta tb)) := by
  intro pins s σ H Q I h
  refine wpAny_isTrue_Compare1 (thn (ha pins s σ H _ I h) fun v s1 ⟨x, H1, I1, r1, q1⟩ => thn (hb pins s1 σ H1 _ I1 q1) fun u s2 ⟨y, H2, I2, r2, q2⟩ =>
    thn (ho pins s2 σ H2 x y v u _ I2 r1 r2 q2) fun c s3 ⟨z, H3, I3, r3, k, e, q3⟩ => ?_) hm
  subst e
  cases r3
  exact wpAny_truthy_bool ⟨H3, I3, q3⟩

def tChain (r r' : R2) (ta tb tc : TE) : TE := fun σ H Q => ta σ H fun x H1 => tb σ H1 fun y H2 => r x y H2 fun z H3 => ∃ k, z = .bl k ∧
  (if k = true then tc σ H3 fun w' H4 => r' y w' H4 Q else Q (.bl false) H3)
theorem pt_chain {op op' : CmpOp} {r r' : R2} (ho : OpR X (compareOp op) r) (ho' : OpR X (compareOp op') r') (ha : PE X a ta) (hb : PE X b tb) (hc : PE X c tc)
    (hm : lastMarks [op, op'] [b, c] = false := by with_unfolding_all rfl) : PT X (.Compare a [op, op'] [b, c] pos) (tTest (tChain r r' ta tb tc)) := by
  intro pins s σ H Q I h
  refine isTrue_chain (thn (ha pins s σ H _ I h) fun v s1 ⟨x, H1, I1, r1, q1⟩ => test_link (thn (hb pins s1 σ H1 _ I1 q1) fun u s2 ⟨y, H2, I2, r2, q2⟩ =>
    thn (ho pins s2 σ H2 x y v u _ I2 r1 r2 q2) fun d s3 ⟨z, H3, I3, r3, k, e, q3⟩ => ?_)) hm
  subst e
  cases r3
  refine wpAny_truthy_bool ?_
  cases k with
  | false =>
    obtain ⟨k', e', q'⟩ := q3
    cases e'
    exact ite_ff ⟨H3, I3, q'⟩
  | true =>
    refine ite_tt (test_last (thn (hc pins s3 σ H3 _ I3 q3) fun w' s4 ⟨z', H4, I4, r4, q4⟩ => thn (ho' pins s4 σ H4 y z' u w' _ I4 r2 r4 q4) fun d' s5 ⟨z2, H5, I5, r5, k2, e2, q5⟩ => ?_))
    subst e2
    cases r5
    exact wpAny_truthy_bool ⟨H5, I5, q5⟩



theorem line63 : (sizeLine : Nat) < 2 ^ 63 := by rw [sizeLine_eq]; decide
theorem vals1 {x : V} {us : List Value} (r : Vals [x] us) : ∃ u, us = [u] ∧ RelV x u := by
  cases r with
  | cons r1 r2 => cases r2; exact ⟨_, rfl, r1⟩
theorem vals2 {x y : V} {us : List Value} (r : Vals [x, y] us) : ∃ u w', us = [u, w'] ∧ RelV x u ∧ RelV y w' := by
  cases r with
  | cons r1 r2 =>
    cases r2 with
    | cons r3 r4 => cases r4; exact ⟨_, _, rfl, r1, r3⟩
theorem call_max2 (hc : X.calm = true) : CallR X (.builtin "max") (fun xs H Q => ∃ i j, xs = [.int i, .int j] ∧ Q (.int (if j > i then j else i)) H) := by
  intro pins s σ H xs us Q I r h
  obtain ⟨i, j, rfl, q⟩ := h
  obtain ⟨u, w', rfl, ⟨t, rfl⟩, ⟨t', rfl⟩⟩ := vals2 r
  refine max_two_ints (I.ok.hd hc) fun h' tk k => ⟨_, H, I.kept k, ?_, q⟩
  by_cases hj : j > i
  · rw [if_pos hj, if_pos hj]; exact ⟨_, rfl⟩
  · rw [if_neg hj, if_neg hj]; exact ⟨_, rfl⟩
theorem call_min2 (hc : X.calm = true) : CallR X (.builtin "min") (fun xs H Q => ∃ i j, xs = [.int i, .int j] ∧ Q (.int (if j < i then j else i)) H) := by
  intro pins s σ H xs us Q I r h
  obtain ⟨i, j, rfl, q⟩ := h
  obtain ⟨u, w', rfl, ⟨t, rfl⟩, ⟨t', rfl⟩⟩ := vals2 r
  refine min_two_ints (I.ok.hd hc) fun h' tk k => ⟨_, H, I.kept k, ?_, q⟩
  by_cases hj : j < i
  · rw [if_pos hj, if_pos hj]; exact ⟨_, rfl⟩
  · rw [if_neg hj, if_neg hj]; exact ⟨_, rfl⟩
end
end L2

namespace L2
open PySem PySem.Spec PyProof.Rows


structure ObjM (h : Heap) (x dx C : Addr) (mA : Str → Option Value) : Prop where
  obj : h.get? x = some (PySem.W.instObj C dx)
  ns : h.Ns1 dx mA
  ne : dx ≠ x

theorem lookIn_ns {h : Heap} {dx : Addr} {mA : Str → Option Value} (n : h.Ns1 dx mA) : ∃ od, h.get? dx = some od ∧ ∀ name, PySem.W.lookIn name od = some (mA name) := by
  obtain ⟨o, es, ep, ho, hd, hk, _, hm⟩ := n
  refine ⟨o, ho, fun name => ?_⟩
  have e := hm name
  unfold nsFind findBy at e
  rw [← Array.find?_toList] at e
  unfold PySem.W.lookIn
  rw [hd]
  dsimp only
  split
  · rename_i y q
    rw [q] at e
    exact congrArg some e
  · rename_i q
    rw [q] at e
    have a : es.toList.any (·.refKey) = false := by
      rw [List.any_eq_false]
      intro y hy
      obtain ⟨z, t, hkey⟩ := hk y (Array.mem_toList_iff.mp hy)
      simp [DictEntry.refKey, hkey]
    have a' : ¬ es.toList.any (·.refKey) = true := by rw [a]; exact Bool.false_ne_true
    rw [if_neg a']
    exact congrArg some e

theorem ObjM.look {h : Heap} {x dx C : Addr} {mA : Str → Option Value} (I : ObjM h x dx C mA) : ∃ od, PySem.W.InstAt h x (PySem.W.instObj C dx) C (some od) ∧ ∀ name, PySem.W.lookIn name od = some (mA name) :=
  let ⟨od, ho, hl⟩ := lookIn_ns I.ns
  ⟨od, ⟨I.obj, rfl, rfl, ho⟩, hl⟩

section
variable {prog : Program} {w : World} {A : Around} {E : Value → Shared → Prop} {s : Shared} {K : PySem.W.Frag} {x dx C f : Addr} {mA : Str → Option Value} {name : Str} {v : Value}

end


def putF (f : Str) (v : V) : List (Str × V) → List (Str × V)
  | [] => [(f, v)]
  | (g, x) :: r => if g = f then (g, v) :: r else (g, x) :: putF f v r
theorem RelO.some_of {v : V} {o : Option Value} (r : RelO (some v) o) : ∃ u, o = some u ∧ RelV v u := by
  cases o with
  | none => exact (show False from r).elim
  | some u => exact ⟨u, rfl, r⟩
section
variable {P : Program} {w : World} {H H' : Hp} {h h' : Heap} {a C dx : Addr} {fs fs' : List (Str × V)}
theorem ins_get (hok : HOk P w H h) (e : H a = some (.ins C dx fs)) : ∃ mA, ObjM h a dx C mA ∧ (∀ f, RelO (fs.lookup f) (mA f)) ∧ PySem.Within mA (fs.map (·.1)) ∧ fs.length ≤ 1000 ∧ H dx = some (.own a) := by
  obtain ⟨d, z, ne, ob, mA, n, r, q⟩ := (show ObjOk P w H h a (.ins C dx fs) from hok a _ e)
  exact ⟨mA, ⟨ob, n, ne⟩, r, q, z, d⟩
end


structure Cls (K : PySem.W.Frag) (C : Addr) : Prop where
  pg : PySem.W.plainGet K C Str.empty = true
  hd : PySem.W.hasDictIn K C = true
  po : PySem.W.plainOver K C = true
  sa : PySem.W.findIn K (.ref C) "__setattr__" = some (some (.builtin "object.__setattr__"))
theorem Cls.get {K : PySem.W.Frag} {C : Addr} (c : Cls K C) (f : Str) : PySem.W.plainGet K C f = true := c.pg

structure Con (K : PySem.W.Frag) (C : Addr) (f : Str) (v : V) (u : Value) : Prop where
  at_ : PySem.W.findIn K (.ref C) f = some (some u)
  rel : RelV v u
  get : PySem.W.specialIn K u "__get__" = some none
  cp : PySem.W.copiedNames.contains f = false

structure Meth (K : PySem.W.Frag) (C : Addr) (m : Str) (f : Addr) : Prop where
  at_ : PySem.W.findIn K (.ref C) m = some (some (.ref f))
  fn : PySem.W.isFn K (.ref f) = true
  kp : PySem.W.keepIn K (.ref f) = true

section
variable {X : Cx} {pins : List (Addr × Obj)} {σ : St} {H : Hp} {s : Shared} {a C dx : Addr} {fs : List (Str × V)} {f : Str} {v : V} {A : Around} {E : Value → Shared → Prop}

end



section
variable {X : Cx} {o e value : Expr} {f : Str} {pos pos' tpos : Pos} {ta tv : TE}
end


section
variable {X : Cx} {pins : List (Addr × Obj)} {σ : St} {H : Hp} {s : Shared} {A : Around} {E : Value → Shared → Prop} {Q : Value → Shared → Prop} {c : Value} {b : Bool}

inductive TyOf (K : PySem.W.Frag) (H : Hp) : V → Value → Prop where
  | non : TyOf K H .non (.type "NoneType")
  | bl (x : Bool) : TyOf K H (.bl x) (.type "bool")
  | int (i : Int) : TyOf K H (.int i) (.type "int")
  | str (x : Str) : TyOf K H (.str x) (.type "str")
  | flt (x : UInt64) : TyOf K H (.flt x) (.type "float")
  | lst {a : Addr} {xs : List V} (e : H a = some (.lst xs)) : TyOf K H (.ref a) (.type "list")
  | frz {a : Addr} {o : Obj} {xs : List V} (e : H a = some (.frz o (.lst xs))) : TyOf K H (.ref a) (.type "list")
  | tup {a : Addr} {xs : List V} (e : H a = some (.tup xs)) : TyOf K H (.ref a) (.type "tuple")
  | dK {a : Addr} {kvs : List (Key × V)} (e : H a = some (.dK kvs)) : TyOf K H (.ref a) (.type "dict")
  | dT {a : Addr} {kvs : List (List Key × V)} (e : H a = some (.dT kvs)) : TyOf K H (.ref a) (.type "dict")
  | ins {a C dx : Addr} {fs : List (Str × V)} (e : H a = some (.ins C dx fs)) (cl : Cls K C) (ha : PySem.W.findIn K (.ref C) "__class__" = some (some (.builtin "object.__class__")))
      (hn : PySem.W.specialIn K (.builtin "object.__class__") "__get__" = some (some (.builtin "getset_descriptor.__get__"))) (htk : PySem.W.takesIn K (.builtin "object.__class__") = some true)
      (hm : PySem.W.mroIn K C (.type "object") = some true) : TyOf K H (.ref a) (.ref C)

theorem isinst_ok {x : V} {u t : Value} (I : Inv X pins σ H s) (rx : RelV x u) (ty : TyOf X.K H x t) (e : PySem.W.kitOne X.K t c = some b) (h : ∀ tk, Q (.bool b) { s with toks := tk }) :
    wpAny (model X.prog X.w) A (call (.builtin "isinstance") [u, c]) Q E s := by
  cases ty with
  | non => cases (show u = Value.none from rx); exact PySem.W.kia_one PySem.W.kitx_none I.kIn True.intro e (fun z => nomatch z) h
  | bl y => cases (show u = Value.bool y from rx); exact PySem.W.kia_one PySem.W.kitx_bool I.kIn True.intro e (fun z => nomatch z) h
  | int i => obtain ⟨t, q⟩ := (show ∃ t, u = Value.int i t from rx); cases q; exact PySem.W.kia_one PySem.W.kitx_int I.kIn True.intro e (fun z => nomatch z) h
  | str y => obtain ⟨t, q⟩ := (show ∃ t, u = Value.str y t from rx); cases q; exact PySem.W.kia_one PySem.W.kitx_str I.kIn True.intro e (fun z => nomatch z) h
  | flt y => obtain ⟨t, q⟩ := (show ∃ t, u = Value.float y t from rx); cases q; exact PySem.W.kia_one PySem.W.kitx_float I.kIn True.intro e (fun z => nomatch z) h
  | @lst a xs ea =>
    cases (show u = Value.ref a from rx)
    obtain ⟨_, _, n, _, h1⟩ := (show ObjOk X.prog X.w H s.heap a (.lst xs) from I.hok a _ ea)
    exact PySem.W.kia_one PySem.W.kitx_list I.kIn ⟨_, h1, rfl⟩ e (fun z => nomatch z) h
  | @frz a ob xs ea =>
    cases (show u = Value.ref a from rx)
    obtain ⟨_, _, _, n, _, h1⟩ := (show ObjOk X.prog X.w H s.heap a (.frz ob (.lst xs)) from I.hok a _ ea)
    exact PySem.W.kia_one PySem.W.kitx_list I.kIn ⟨_, h1, rfl⟩ e (fun z => nomatch z) h
  | @tup a xs ea =>
    cases (show u = Value.ref a from rx)
    obtain ⟨_, _, _, p⟩ := (show ObjOk X.prog X.w H s.heap a (.tup xs) from I.hok a _ ea)
    obtain ⟨o, h1, h2, _⟩ := p
    exact PySem.W.kia_one PySem.W.kitx_tuple I.kIn ⟨o, h1, h2⟩ e (fun z => nomatch z) h
  | @dK a kvs ea =>
    cases (show u = Value.ref a from rx)
    obtain ⟨_, _, vs, _, p⟩ := (show ObjOk X.prog X.w H s.heap a (.dK kvs) from I.hok a _ ea)
    obtain ⟨o, es, ep, h1, h2, _⟩ := p
    exact PySem.W.kia_one PySem.W.kitx_dict I.kIn ⟨o, h1, h2.1⟩ e (fun z => nomatch z) h
  | @dT a kvs ea =>
    cases (show u = Value.ref a from rx)
    obtain ⟨_, _, xs, _, o, es, ep, h1, h2, _⟩ := (show ObjOk X.prog X.w H s.heap a (.dT kvs) from I.hok a _ ea)
    exact PySem.W.kia_one PySem.W.kitx_dict I.kIn ⟨o, h1, h2.1⟩ e (fun z => nomatch z) h
  | @ins a C dx fs ea cl ha hn htk hm =>
    cases (show u = Value.ref a from rx)
    obtain ⟨mA, O, _⟩ := ins_get I.hok ea
    obtain ⟨od, J, _⟩ := O.look
    exact PySem.W.kia_one (PySem.W.kitx_own (cl.get _) cl.hd ha hn htk hm) I.kIn J e (fun z => nomatch z) h
end
end L2

namespace L2
open PySem PySem.Spec PyProof.Rows


structure Room (k : Nat) (A : Around) : Prop where
  hd : A.handled = none
  dp : A.depth + 3 * k + 5 < recursionLimit
  un : A.units + 16 * k + 200 < cLine
theorem Room.mono {j k : Nat} {A : Around} (r : Room k A) (h : j ≤ k) : Room j A := ⟨r.hd, by have := r.dp; omega, by have := r.un; omega⟩
theorem Room.deeper {k : Nat} {A : Around} (r : Room (k + 1) A) (env : Env) : Room k (A.deeper env) :=
  ⟨r.hd, by have := r.dp; show A.depth + 1 + 3 * k + 5 < _; omega, by have := r.un; show A.units + 3 + 16 * k + 200 < _; omega⟩
theorem Room.in1 {k : Nat} {A : Around} (r : Room (k + 1) A) : Room k A.in1 :=
  ⟨r.hd, by have := r.dp; show A.depth + 3 * k + 5 < _; omega, by have := r.un; show A.units + 1 + 16 * k + 200 < _; omega⟩
theorem Room.depth {k : Nat} {A : Around} (r : Room k A) : A.depth < recursionLimit := by have := r.dp; omega
theorem Room.units {k : Nat} {A : Around} (r : Room k A) : A.units + 64 < cLine := by have := r.un; omega
def tNil : TA := fun _ H Q => Q [] H
def tCons (ta : TE) (tr : TA) : TA := fun σ H Q => ta σ H fun x H1 => tr σ H1 fun xs H2 => Q (x :: xs) H2
section
variable {X : Cx} {e : Expr} {es : List Expr} {te : TE} {t : TA} {pos : Pos}
theorem pa_nil : PA X [] tNil := fun _ _ _ _ H Q I h => Calls.spliced_nil ⟨[], H, I, .nil, h⟩
theorem pa_cons (ha : PE X e te) (hr : PA X es t) (hs : starEach (e :: es) X.env = (false, eval e X.env) :: starEach es X.env := by rfl) : PA X (e :: es) (tCons te t) := by
  intro pos pins s σ H Q I h
  rw [hs]
  show wpAny _ _ (spliced ((false, eval e X.env) :: backTo pos (starEach es X.env))) _ _ s
  refine Calls.spliced_cons (thn (ha pins s σ H _ I h) fun u s1 ⟨x, H1, I1, r1, q1⟩ => ?_)
  exact thn (hr pos pins s1 σ H1 _ I1 q1) fun us s2 ⟨xs, H2, I2, r2, q2⟩ => ⟨x :: xs, H2, I2, .cons r1 r2, q2⟩


def tTup (t : TA) : TE := fun σ H Q => t σ H fun xs H1 => xs.length ≤ sizeLine ∧ ∀ p, H1 p = none → Q (.ref p) (upd H1 p (.tup xs))
def tLst (t : TA) : TE := fun σ H Q => t σ H fun xs H1 => xs.length ≤ sizeLine ∧ ∀ p, H1 p = none → Q (.ref p) (upd H1 p (.lst xs))
theorem pe_tup {x1} (h : PA X es t) : PE X (.Tuple es x1 pos) (tTup t) := by
  intro pins s σ H Q I hq
  refine wpAny_Tuple_spliced (thn (h pos pins s σ H _ I hq) fun us s1 ⟨xs, H1, I1, r, z, q⟩ => ⟨by rw [← r.length]; exact z, ?_⟩)
  have hf : H1 s1.heap.objs.size = none := I1.hok.fresh (Nat.le_refl _)
  refine ⟨.ref s1.heap.objs.size, upd H1 s1.heap.objs.size (.tup xs), I1.laid (t' := s1.toks) (fun b u e => Heap.get?_push_of_some _ e) (Nat.le_refl _) ?_, rfl, q _ hf⟩
  exact ⟨z, us, r, ⟨_, Heap.get?_push_size _ rfl, rfl, _, rfl⟩⟩
theorem pe_lst (h : PA X es t) : PE X (.List es pos) (tLst t) := by
  intro pins s σ H Q I hq
  refine wpAny_List_spliced (thn (h pos pins s σ H _ I hq) fun us s1 ⟨xs, H1, I1, r, z, q⟩ => ⟨by rw [← r.length]; exact z, ?_⟩)
  have hf : H1 s1.heap.objs.size = none := I1.hok.fresh (Nat.le_refl _)
  refine ⟨.ref s1.heap.objs.size, upd H1 s1.heap.objs.size (.lst xs), I1.laid (t' := s1.toks) (fun b u e => Heap.get?_push_of_some _ e) (Nat.le_refl _) ?_, rfl, q _ hf⟩
  exact ⟨z, us, 0, r, Heap.get?_push_size _ rfl⟩
end



abbrev Sp := List V → Hp → VK → XK → Prop

abbrev CXT := List Env → Hp → Shared → XK → Value → Shared → Prop


structure Env0 (P : Program) (w : World) (K : PySem.W.Frag) (mg : Str → Option Value) (base : Heap) (A : Around) (outer : List Env) (s : Shared) (H : Hp) : Prop where
  frames : A.frames = some outer
  mod : Mod K mg base
  bs : ∀ b o, base.get? b = some o → s.heap.get? b = some o ∧ H b = none
  bsz : base.objs.size ≤ s.heap.objs.size
  funs : s.heap.FunFrames base outer
  frf : ∀ b ∈ frs outer, H b = none
  hok : HOk P w H s.heap
  bare : AllBare s.gens

def CE (outer : List Env) (P : Program) (w : World) (H : Hp) (s : Shared) (Q : VK) (u : Value) (s' : Shared) : Prop :=
  ∃ v H', s'.os = s.os ∧ AllBare s'.gens ∧ Un (frs outer) [] H H' s.heap s'.heap ∧ HOk P w H' s'.heap ∧ RelV v u ∧ Q v H'
def CR (CX : CXT) (outer : List Env) (P : Program) (w : World) (H : Hp) (s : Shared) (Q : VK) (E : XK) (r : Result) (s' : Shared) : Prop :=
  match r with
  | .ok (.ret u) => CE outer P w H s Q u s'
  | .ok _ => False
  | .error e => CX outer H s E e s'
structure FnOk (P : Program) (w : World) (K : PySem.W.Frag) (mg : Str → Option Value) (base : Heap) (CX : CXT) (k : Nat) (f : Addr) (fd : FuncData) (ps : List Str) (sp : Sp) : Prop where
  len : ∀ vs H Q E, sp vs H Q E → vs.length = ps.length
  run : ∀ (A : Around) (outer : List Env) (s : Shared) (H : Hp) (args : Args) (us : List Value) (vs : List V) (Q : VK) (E : XK), Room k A → Env0 P w K mg base A outer s H → BindsTo s fd args (ps.zip us) → Vals vs us → sp vs H Q E →
    codeAny (model P w) A (.call (.ref f) args) (CR CX outer P w H s Q E) s
theorem FnOk.mono {P : Program} {w : World} {K : PySem.W.Frag} {mg : Str → Option Value} {base : Heap} {CX : CXT} {j k : Nat} {f : Addr} {fd : FuncData} {ps : List Str} {sp : Sp} (F : FnOk P w K mg base CX j f fd ps sp) (h : j ≤ k) :
    FnOk P w K mg base CX k f fd ps sp := ⟨F.len, fun A outer s H args us vs Q E hr => F.run A outer s H args us vs Q E (hr.mono h)⟩

theorem FnOk.imp {P : Program} {w : World} {K : PySem.W.Frag} {mg : Str → Option Value} {base : Heap} {CX : CXT} {k : Nat} {f : Addr} {fd : FuncData} {ps : List Str} {sp sp' : Sp} (F : FnOk P w K mg base CX k f fd ps sp)
    (h : ∀ vs H Q E, sp' vs H Q E → sp vs H Q E) : FnOk P w K mg base CX k f fd ps sp' :=
  ⟨fun vs H Q E q => F.len vs H Q E (h _ _ _ _ q), fun A outer s H args us vs Q E hr he hb hv hs => F.run A outer s H args us vs Q E hr he hb hv (h _ _ _ _ hs)⟩

theorem Env0.in1 {P : Program} {w : World} {K : PySem.W.Frag} {mg : Str → Option Value} {base : Heap} {A : Around} {outer : List Env} {s : Shared} {H : Hp} (e : Env0 P w K mg base A outer s H) :
    Env0 P w K mg base A.in1 outer s H := ⟨e.frames, e.mod, e.bs, e.bsz, e.funs, e.frf, e.hok, e.bare⟩

section
variable {X : Cx} {pins : List (Addr × Obj)} {σ : St} {H : Hp} {s s' : Shared}

theorem Inv.env0 (I : Inv X pins σ H s) : Env0 X.prog X.w X.K X.mg X.base X.A X.stack s H :=
  ⟨I.ok.frames, I.ok.mod, I.bs, Nat.le_trans I.ok.bsz I.sz, I.stack, I.stkFree, I.hok, I.bare⟩

theorem Inv.after {Q : VK} {u : Value} (I : Inv X pins σ H s) (h : CE X.stack X.prog X.w H s Q u s') : EP X pins σ Q u s' := by
  obtain ⟨v, H', os, bare, un, hok, r, q⟩ := h
  obtain ⟨hh, g, d, t, os'⟩ := s'
  obtain rfl : os' = s.os := os
  exact ⟨v, H', I.call (h' := hh) (g' := g) (d' := d) (t' := t) (ch := []) un hok bare (fun b z => absurd z (by simp)), r, q⟩
end



def tCall (sp : Sp) (dvs : List V) (E : XK) (t : TA) : TE := fun σ H Q => t σ H fun vs H1 => sp (vs ++ dvs) H1 Q E

def tMeth (C : Addr) (m : Str) (sp : Sp) (dvs : List V) (E : XK) (ta : TE) (t : TA) : TE := fun σ H Q => ta σ H fun x H1 => ∃ a dx fs, x = .ref a ∧ H1 a = some (.ins C dx fs) ∧ fs.lookup m = none ∧
  t σ H1 fun vs H2 => sp (x :: (vs ++ dvs)) H2 Q E

def tMake (C : Addr) (sp : Sp) (dvs : List V) (E : XK) (t : TA) : TE := fun σ H Q => t σ H fun vs H1 => ∀ x dx, H1 x = none → H1 dx = none → dx ≠ x →
  sp (.ref x :: (vs ++ dvs)) (upd (upd H1 dx (.own x)) x (.ins C dx [])) (fun v H2 => v = .non ∧ Q (.ref x) H2) E


def Binds (K : PySem.W.Frag) (fd : FuncData) (ps : List Str) (ds : List Value) : Prop :=
  ∀ (s : Shared) (us : List Value), K.In s.heap → (us ++ ds).length = ps.length → BindsTo s fd ⟨us, []⟩ (ps.zip (us ++ ds))

theorem Binds.all {K : PySem.W.Frag} {fd : FuncData} {ps : List Str} (h : ∀ us : List Value, us.length = ps.length → bindArgs fd ⟨us, []⟩ = pure (ps.zip us)) : Binds K fd ps [] := fun s us _ hl => by
  rw [List.append_nil] at hl ⊢
  exact .of_eq (h us hl)


def Passes (CX : CXT) (X : Cx) (E : XK) : Prop := ∀ (pins : List (Addr × Obj)) (σ : St) (H : Hp) (s : Shared) (e : Value) (s' : Shared), Inv X pins σ H s → CX X.stack H s E e s' → X.xe e s'

section
variable {X : Cx} {CX : CXT} {k : Nat} {f C : Addr} {fd : FuncData} {ps : List Str} {sp : Sp} {dvs : List V} {ds : List Value} {E : XK} {x m : Str} {p pos apos : Pos} {e o : Expr} {es : List Expr} {ta : TE} {t : TA}


theorem run_fn {pins : List (Addr × Obj)} {σ : St} {H : Hp} {s : Shared} {Q : VK} {us : List Value} {vs : List V} (F : FnOk X.prog X.w X.K X.mg X.base CX k f fd ps sp) (hr : Room k X.A) (hb : Binds X.K fd ps ds) (hd : Vals dvs ds) (hx : Passes CX X E)
    (I : Inv X pins σ H s) (r : Vals vs us) (h : sp (vs ++ dvs) H Q E) : wpAny (model X.prog X.w) X.A (call (.ref f) us) (EP X pins σ Q) X.xe s := by
  have r2 : Vals (vs ++ dvs) (us ++ ds) := r.append hd
  have hl : (us ++ ds).length = ps.length := by rw [← r2.length]; exact F.len _ _ _ _ h
  refine wpAny_call (codeAny_mono (F.run X.A X.stack s H ⟨us, []⟩ (us ++ ds) (vs ++ dvs) Q E hr I.env0 (hb s us I.kIn hl) r2 h) fun r s' hq => ?_)
  cases r with
  | error e => exact hx pins σ H s e s' I hq
  | ok fl =>
    cases fl with
    | ret u => exact I.after hq
    | next => exact False.elim hq
    | brk => exact False.elim hq
    | cont => exact False.elim hq

theorem pe_call (F : FnOk X.prog X.w X.K X.mg X.base CX k f fd ps sp) (hr : Room k X.A) (hg : Gl X x) (hm : X.mg x = some (.ref f)) (hk : PySem.W.keepIn X.K (.ref f) = true) (hb : Binds X.K fd ps ds) (hd : Vals dvs ds) (hx : Passes CX X E)
    (ha : PA X (e :: es) t) (hdb : (x == ("__debug__" : Str)) = false := by decide) (he : starEach (e :: es) X.env = (false, eval e X.env) :: starEach es X.env := by rfl) (hpl : (backTo pos (starEach es X.env)).any (·.1) = false := by rfl) :
    PE X (.Call (.Name x p) (e :: es) [] pos) (tCall sp dvs E t) := by
  intro pins s σ H Q I h
  refine wpAny_Call_Name_kw (ld_glob I hg hm ?_ hdb)
  refine PySem.W.callWith_K (h₀ := X.base) I.ok.mod.kin hk (thn (ha pos pins s σ H _ I h) fun us s1 ⟨vs, H1, I1, r, q⟩ => ⟨I1.kIn, ?_⟩) he hpl
  exact run_fn F hr hb hd hx I1 r q
structure Mk (K : PySem.W.Frag) (C f : Addr) : Prop where
  makes : PySem.W.makesIn K C = true
  init : PySem.W.findIn K (.ref C) "__init__" = some (some (.ref f))
  fn : PySem.W.isFn K (.ref f) = true
  kp : PySem.W.keepIn K (.ref C) = true

end



def PK (X : Cx) (kws : List Keyword) (t : TA) : Prop :=
  ∀ (pos : Pos) (pins : List (Addr × Obj)) (s : Shared) (σ : St) (H : Hp) (Q : List V → Hp → Prop), Inv X pins σ H s → t σ H Q → wpAny (model X.prog X.w) X.A (evalAll ((backToKw pos (keywordEach kws X.env)).map (·.2))) (AP X pins σ Q) X.xe s
section
variable {X : Cx} {CX : CXT} {k : Nat} {f C : Addr} {fd : FuncData} {ps ks : List Str} {sp : Sp} {E : XK} {x m : Str} {p pos apos kpos : Pos} {e o : Expr} {es : List Expr} {kws : List Keyword} {te ta : TE} {t tk : TA} {nm : Option Str}
theorem pk_nil : PK X [] tNil := fun _ _ _ _ H Q I h => wpAny_evalAll_nil ⟨[], H, I, .nil, h⟩
theorem pk_cons (ha : PE X e te) (hr : PK X kws t) : PK X (⟨nm, e, kpos⟩ :: kws) (tCons te t) := by
  intro pos pins s σ H Q I h
  show wpAny _ _ (evalAll ((do let v ← eval e X.env; standAt pos; pure v) :: (backToKw pos (keywordEach kws X.env)).map (·.2))) _ _ s
  refine wpAny_evalAll_cons (wpAny_bind (thn (ha pins s σ H _ I h) fun u s1 ⟨x, H1, I1, r1, q1⟩ => wpAny_bind (wpAny_standAt (wpAny_pure ?_))))
  exact thn (hr pos pins s1 σ H1 _ I1 q1) fun us s2 ⟨xs, H2, I2, r2, q2⟩ => ⟨x :: xs, H2, I2, .cons r1 r2, q2⟩


structure KBinds (K : PySem.W.Frag) (fd : FuncData) (ps ks : List Str) (g : List Value → List Value → List Value) (gV : List V → List V → List V) : Prop where
  to : ∀ (s : Shared) (us ws : List Value), K.In s.heap → (g us ws).length = ps.length → BindsTo s fd ⟨us, ks.zip ws⟩ (ps.zip (g us ws))
  rel : ∀ {vs : List V} {us : List Value} {zs : List V} {ws : List Value}, Vals vs us → Vals zs ws → Vals (gV vs zs) (g us ws)
variable {g : List Value → List Value → List Value} {gV : List V → List V → List V}
end



structure FnScope (N P : List Str) (sc : Scope) : Prop where
  kind : sc.kind = .function
  co : sc.isCoroutine = false
  gen : sc.isGenerator = false
  nd : N.Nodup
  pre : N.take P.length = P
  par : ∀ x ∈ P, sc.names.lookup x = some .local ∨ sc.names.lookup x = some .cell
  nofree : ∀ y ∈ sc.names, y.2 ≠ .free

theorem bindL_out {kindOf : Str → Option NameKind} {x : Str} : ∀ {binds : List (Str × Value)} {m : Str → Option Value}, (∀ v, (x, v) ∉ binds) → bindL kindOf binds m x = m x
  | [], _, _ => rfl
  | (n, v) :: r, m, h => by
    unfold bindL
    rw [bindL_out fun w hw => h w (List.mem_cons_of_mem _ hw)]
    split
    · have : x ≠ n := by rintro rfl; exact h v List.mem_cons_self
      simp [this]
    · rfl
theorem bindC_out {kindOf : Str → Option NameKind} {x : Str} : ∀ {binds : List (Str × Value)} {m : Str → Option Value}, (∀ v, (x, v) ∉ binds) → bindC kindOf binds m x = m x
  | [], _, _ => rfl
  | (n, v) :: r, m, h => by
    unfold bindC
    rw [bindC_out fun w hw => h w (List.mem_cons_of_mem _ hw)]
    split
    · rfl
    · have : x ≠ n := by rintro rfl; exact h v List.mem_cons_self
      simp [this]
theorem bindL_get {kindOf : Str → Option NameKind} {x : Str} {v : Value} : ∀ {P : List Str} {vs : List Value} {i : Nat} {m : Str → Option Value}, P.Nodup → P[i]? = some x → vs[i]? = some v → kindOf x = some .local →
    bindL kindOf (P.zip vs) m x = some v
  | [], _, _, _, _, h, _, _ => by simp at h
  | _ :: _, [], _, _, _, _, h, _ => by simp at h
  | p :: P, w :: vs, 0, m, nd, h1, h2, hk => by
    simp at h1 h2; subst h1; subst h2
    show bindL kindOf ((p, w) :: P.zip vs) m p = _
    unfold bindL
    rw [bindL_out fun v hv => (List.nodup_cons.mp nd).1 (List.of_mem_zip hv).1, if_pos hk]
    simp
  | p :: P, w :: vs, i + 1, m, nd, h1, h2, hk => by
    show bindL kindOf ((p, w) :: P.zip vs) m x = _
    unfold bindL
    exact bindL_get (i := i) (List.nodup_cons.mp nd).2 (by simpa using h1) (by simpa using h2) hk
theorem bindC_get {kindOf : Str → Option NameKind} {x : Str} {v : Value} : ∀ {P : List Str} {vs : List Value} {i : Nat} {m : Str → Option Value}, P.Nodup → P[i]? = some x → vs[i]? = some v → kindOf x ≠ some .local →
    bindC kindOf (P.zip vs) m x = some v
  | [], _, _, _, _, h, _, _ => by simp at h
  | _ :: _, [], _, _, _, _, h, _ => by simp at h
  | p :: P, w :: vs, 0, m, nd, h1, h2, hk => by
    simp at h1 h2; subst h1; subst h2
    show bindC kindOf ((p, w) :: P.zip vs) m p = _
    unfold bindC
    rw [bindC_out fun v hv => (List.nodup_cons.mp nd).1 (List.of_mem_zip hv).1, if_neg hk]
    simp
  | p :: P, w :: vs, i + 1, m, nd, h1, h2, hk => by
    show bindC kindOf ((p, w) :: P.zip vs) m x = _
    unfold bindC
    exact bindC_get (i := i) (List.nodup_cons.mp nd).2 (by simpa using h1) (by simpa using h2) hk


def start (N : List Str) (vs : List V) : St := vs.map some ++ List.replicate (N.length - vs.length) none


def cxOf (CX : CXT) (P : Program) (w : World) (K : PySem.W.Frag) (mg : Str → Option Value) (base : Heap) (N : List Str) (qual : Str) (scope : Scope) (f : Addr) (cd : Value) (A : Around) (outer : List Env) (s : Shared) (H : Hp) (E : XK) : Cx where
  prog := P
  w := w
  K := K
  mg := mg
  base := base
  A := A.deeper (envOfC qual scope s.heap.objs.size f cd)
  N := N
  s₀ := s
  H₀ := H
  env := envOfC qual scope s.heap.objs.size f cd
  outer := outer
  stack := envOfC qual scope s.heap.objs.size f cd :: outer
  ex := []
  calm := true
  fn := fun _ => true
  pn := []
  xe := fun e s' => wpAny (model P w) (A.deeper (envOfC qual scope s.heap.objs.size f cd)) (leaving (envOfC qual scope s.heap.objs.size f cd) e) (fun _ s'' => CX outer H s E e s'') (fun e' s'' => CX outer H s E e' s'') s'

theorem cell_has {sc : Scope} {n : Nat} {x : Str} (h : sc.names.lookup x = some .cell) : ∃ c, (cellsFrom n sc.names []).lookup x = some c := by
  have q := PySem.W.cellsFrom_some sc.names n [] (.inl h)
  exact Option.isSome_iff_exists.mp q

theorem inv_start {CX : CXT} {P : Program} {w : World} {K : PySem.W.Frag} {mg : Str → Option Value} {base : Heap} {N ps : List Str} {qual : Str} {scope : Scope} {f : Addr} {cd : Value} {A : Around} {outer : List Env} {s s1 : Shared} {H : Hp} {E : XK} {us : List Value} {vs : List V}
    (S : FnScope N ps scope) (hd : A.handled = none) (e0 : Env0 P w K mg base A outer s H) (hl : vs.length = ps.length) (r : Vals vs us)
    (x : InCallC s s.heap.objs.size (bindL (envOfC qual scope s.heap.objs.size f cd).kindOf (ps.zip us) fun _ => none) (cellsFrom (s.heap.objs.size + 1) scope.names []) (bindC (envOfC qual scope s.heap.objs.size f cd).kindOf (ps.zip us) fun _ => none) s1) :
    Inv (cxOf CX P w K mg base N qual scope f cd A outer s H E) [] (start N vs) H s1 := by
  have hpl : ps.length ≤ N.length := by have := congrArg List.length S.pre; rw [List.length_take] at this; omega
  obtain ⟨h1, tk, rfl, hk⟩ := x.done
  have noA : ∀ b : Addr, b ∉ (cxOf CX P w K mg base N qual scope f cd A outer s H E).ex := fun b z => absurd (show b ∈ ([] : List Addr) from z) (by simp)
  refine ⟨⟨e0.mod, S.kind, rfl, rfl, Nat.le_refl _, fun y z c h1 h2 => ?_, fun y hy => ?_, fun y c _ h => ?_, fun _ => hd, Around.frames_deeper e0.frames, .inr ⟨rfl, rfl⟩, fun b z => absurd z (noA b), e0.bs, e0.bsz, fun b _ _ => noA b, fun b z => absurd z (noA b), e0.funs, e0.frf⟩,
    rfl, e0.bare, Un.kept hk, ⟨_, x.toInCall.ns, fun i y v h1 h2 h3 => ?_⟩, fun y c h => ⟨_, x.cell y c h⟩, e0.hok.fresh (Nat.le_refl _), fun y c h => ?_, fun p hp => absurd (show p ∈ ([] : List (Addr × Obj)) from hp) (by simp), e0.hok.kept hk, ?_⟩
  · exact name_of_addr x.apart (PySem.mem_of_lookup h1) (PySem.mem_of_lookup h2)
  · have hy : scope.names.lookup y = some .cell ∨ scope.names.lookup y = some .free := hy
    rcases hy with hy | hy
    · exact cell_has hy
    · exact absurd rfl (S.nofree _ (PySem.mem_of_lookup hy))
  · exact Nat.le_of_lt (x.above y c (PySem.mem_of_lookup h))
  · have hi : i < vs.length := by
      unfold start at h2
      by_cases hi : i < vs.length
      · exact hi
      · rw [List.getElem?_append_right (by simpa using hi)] at h2
        rw [List.getElem?_replicate] at h2
        split at h2 <;> cases h2
    have ha : vs[i]? = some v := by
      unfold start at h2
      rw [List.getElem?_append_left (by simpa using hi), List.getElem?_map] at h2
      cases e : vs[i]? with
      | none => rw [e] at h2; cases h2
      | some a => rw [e] at h2; cases h2; rfl
    obtain ⟨u, hu, rv⟩ := r.get ha
    have hp : ps[i]? = some y := by
      rw [← S.pre, List.getElem?_take_of_lt (by omega)]; exact h1
    have ndP : ps.Nodup := by rw [← S.pre]; exact S.nd.sublist (List.take_sublist _ _)
    refine ⟨u, rv, ?_⟩
    rcases S.par y (List.mem_of_getElem? hp) with k | k
    · exact .inl ⟨k, bindL_get ndP hp hu k⟩
    · obtain ⟨c, e⟩ := cell_has (n := s.heap.objs.size + 1) k
      refine .inr ⟨.inl k, c, e, ?_⟩
      have q := x.cell y c e
      rw [bindC_get ndP hp hu (by show scope.names.lookup y ≠ _; rw [k]; decide)] at q
      exact q
  · exact e0.hok.fresh (Nat.le_of_lt (x.above y c (PySem.mem_of_lookup h)))
  · unfold start
    show _ = N.length
    rw [List.length_append, List.length_map, List.length_replicate]
    omega


theorem fn_of {CX : CXT} {P : Program} {w : World} {K : PySem.W.Frag} {mg : Str → Option Value} {base : Heap} {k : Nat} {f : Addr} {name qual : Str} {params : Arguments} {body : List Stmt} {scope : Scope} {dV kV doc pm cdv ct oc : Value} {an od : Option Addr}
    {osl : Array (Option Value)} {N ps : List Str} {sp : Sp} (lk : K.lookup f = some ⟨oc, od, .func (PySem.W.fnOf name qual params body scope dV kV doc pm an cdv ct), osl⟩) (hcd : PySem.W.codeIn K cdv qual = true) (S : FnScope N ps scope)
    (len : ∀ vs H Q E, sp vs H Q E → vs.length = ps.length)
    (hbody : ∀ (A : Around) (outer : List Env) (s : Shared) (H : Hp) (vs : List V) (Q : VK) (E : XK), Room k (A.deeper (envOfC qual scope s.heap.objs.size f cdv)) → sp vs H Q E →
      ∃ t, PSs (cxOf CX P w K mg base N qual scope f cdv A outer s H E) body t ∧ t { nx := fun _ H' => Q .non H', rt := Q } (start N vs) H) :
    FnOk P w K mg base CX (k + 1) f (PySem.W.fnOf name qual params body scope dV kV doc pm an cdv ct) ps sp := by
  refine ⟨len, fun A outer s H args us vs Q E hr e0 hb r hsp => ?_⟩
  have hl := len _ _ _ _ hsp
  have KX : K.In s.heap := e0.mod.kin.keeps fun b o e => (e0.bs b o e).1
  have lim : s.heap.NoLimit := e0.mod.nolimit.keeps fun b o e => (e0.bs b o e).1
  have hkind : ∀ y ∈ ps.zip us, scope.names.lookup y.1 = some .local ∨ (scope.names.lookup y.1 = some .cell ∧ ((cellsFrom (s.heap.objs.size + 1) scope.names []).lookup y.1).isSome = true) := fun ⟨n, v⟩ hy => by
    rcases S.par n (List.of_mem_zip hy).1 with q | q
    · exact .inl q
    · exact .inr ⟨q, PySem.W.cellsFrom_some _ _ _ (.inl q)⟩
  refine codeAny_call_function hr.depth (KX _ _ lk) rfl S.co S.gen rfl (PySem.W.codeRec_of KX hcd) (hb _ _ _ _ ?_)
  refine wpAny_newFunctionEnv_cells S.kind hkind fun env he s1 x => ?_
  subst he
  refine ⟨lim.keeps x.toInCall.keep, codeAny_func ?_⟩
  obtain ⟨t, ht, hq⟩ := hbody A outer s H vs Q E (hr.deeper _) hsp
  have I : Inv (cxOf CX P w K mg base N qual scope f cdv A outer s H E) [] (start N vs) H s1 := inv_start S hr.hd e0 hl r x
  refine wpAny_mono (ht [] s1 (start N vs) H _ I hq) (fun fl s' hs => ?_) fun e s' hs => hs
  have fin : ∀ {σ' : St} {H' : Hp} {v : V} {u : Value}, Inv (cxOf CX P w K mg base N qual scope f cdv A outer s H E) [] σ' H' s' → RelV v u → Q v H' → CE outer P w H s Q u s' :=
    fun {σ' H' v u} J rv q => ⟨v, H', J.os, J.bare, J.base, J.hok, rv, q⟩
  cases fl with
  | ret u =>
    obtain ⟨v, σ', H', J, rv, q⟩ := hs
    exact fin J rv q
  | next =>
    obtain ⟨σ', H', J, q⟩ := hs
    exact fin (v := V.non) (u := Value.none) J rfl q
  | brk =>
    obtain ⟨_, _, _, q⟩ := hs
    exact False.elim q
  | cont =>
    obtain ⟨_, _, _, q⟩ := hs
    exact False.elim q
end L2

namespace L2
open PySem PySem.Spec PyProof.Rows
section
variable {X : Cx} {x : Str} {p pos : Pos} {e : Expr} {es : List Expr} {t : TA} {id T : String} {r : List V → Hp → VK → Prop}

def tCB (r : List V → Hp → VK → Prop) (t : TA) : TE := fun σ H Q => t σ H fun vs H1 => r vs H1 Q

theorem pe_callB (hc : CallR X (.builtin id) r) (hg : Gl X x) (hm : X.mg x = none) (hv : bootBuiltins x = some (.builtin id)) (ha : PA X (e :: es) t) (hn : x ≠ "__name__" := by decide) (hdb : (x == ("__debug__" : Str)) = false := by decide)
    (he : starEach (e :: es) X.env = (false, eval e X.env) :: starEach es X.env := by rfl) (hpl : (backTo pos (starEach es X.env)).any (·.1) = false := by rfl) : PE X (.Call (.Name x p) (e :: es) [] pos) (tCB r t) := by
  intro pins s σ H Q I h
  refine wpAny_Call_Name_kw (ld_blt I hg hm hv ?_ hn hdb)
  exact PyProof.Rows.callWith_builtin1 (thn (ha pos pins s σ H _ I h) fun us s1 ⟨vs, H1, I1, r1, q1⟩ => hc pins s1 σ H1 vs us Q I1 r1 q1) he hpl

theorem pe_callTy (hc : CallR X (.type T) r) (hg : Gl X x) (hm : X.mg x = none) (hv : bootBuiltins x = some (.type T)) (ha : PA X (e :: es) t) (hn : x ≠ "__name__" := by decide) (hdb : (x == ("__debug__" : Str)) = false := by decide)
    (he : starEach (e :: es) X.env = (false, eval e X.env) :: starEach es X.env := by rfl) (hpl : (backTo pos (starEach es X.env)).any (·.1) = false := by rfl) : PE X (.Call (.Name x p) (e :: es) [] pos) (tCB r t) := by
  intro pins s σ H Q I h
  refine wpAny_Call_Name_kw (ld_blt I hg hm hv ?_ hn hdb)
  exact PyProof.Rows.callWith_type1 (thn (ha pos pins s σ H _ I h) fun us s1 ⟨vs, H1, I1, r1, q1⟩ => hc pins s1 σ H1 vs us Q I1 r1 q1) he hpl

end
end L2

namespace HT
open PySem PyProof.Rows


def lexLt : List Int → List Int → Bool
  | [], [] => false
  | [], _ :: _ => true
  | _ :: _, [] => false
  | x :: xs, y :: ys => if x = y then lexLt xs ys else decide (x < y)
section
open PySem.SeqAt
open PySem.AutoSeq1 (wpAny_loadPart')
open PySem.MeetsSeq PySem.MeetsSeq2 PySem.MeetsSeq3

end

section
variable {prog : Program} {w : World} {A : Around} {E : Value → Shared → Prop} {s : Shared}

def sIx (n d : Nat) : Option Int → Nat
  | none => d
  | some v => if v < 0 then (v + (n : Int)).toNat else min v.toNat n
theorem sIx_nat (n d k : Nat) : sIx n d (some (k : Int)) = min k n := by
  show (if (k : Int) < 0 then ((k : Int) + (n : Int)).toNat else min (k : Int).toNat n) = min k n
  rw [if_neg (by omega), Int.toNat_natCast]
end
end HT

namespace L2
open PySem PySem.Spec PyProof.Rows


abbrev TO := St → Hp → (Option Int → Hp → Prop) → Prop

def PO (X : Cx) (e : Option Expr) (t : TO) : Prop :=
  ∀ (pins : List (Addr × Obj)) (s : Shared) (σ : St) (H : Hp) (Q : Option Int → Hp → Prop), Inv X pins σ H s → t σ H Q →
    wpAny (model X.prog X.w) X.A (evalPart e X.env) (fun u s' => ∃ o H', Inv X pins σ H' s' ∧ IsPart u o ∧ Q o H') X.xe s
def tNoPart : TO := fun _ H Q => Q none H
def tPart (t : TE) : TO := fun σ H Q => t σ H fun x H1 => ∃ i, x = .int i ∧ Q (some i) H1

theorem intsAre_of {ns : List Int} : ∀ {us : List Value}, Vals (ns.map V.int) us → IntsAre us ns := by
  induction ns with
  | nil => intro us r; rw [List.map_nil] at r; cases r; exact .nil
  | cons n ns ih =>
    intro us r
    rw [List.map_cons] at r
    cases r with
    | cons r1 r2 =>
      obtain ⟨t, e⟩ := r1
      subst e
      exact .cons n t (ih r2)

section
variable {X : Cx} {e : Expr} {te : TE} {lo hi : Option Expr} {tl th : TO} {pos p2 : Pos}

theorem po_none : PO X none tNoPart := by
  intro pins s σ H Q I h
  rw [evalPart_none]
  exact wpAny_pure ⟨none, H, I, .none, h⟩
theorem po_some (h : PE X e te) : PO X (some e) (tPart te) := by
  intro pins s σ H Q I hw
  rw [evalPart_some]
  refine thn (h pins s σ H _ I hw) fun u s1 ⟨x, H1, I1, r1, q1⟩ => ?_
  obtain ⟨i, rfl, q⟩ := q1
  obtain ⟨t, rfl⟩ := r1
  exact ⟨some i, H1, I1, .int i t, q⟩


def SlR (X : Cx) (r : V → Option Int → Option Int → Hp → VK → Prop) : Prop :=
  ∀ (pins : List (Addr × Obj)) (s : Shared) (σ : St) (H : Hp) (x : V) (v vl vu : Value) (lo hi : Option Int) (sl : Addr) (Q : VK), Inv X pins σ H s → RelV x v → s.heap.IsSliceOf sl vl vu .none → IsPart vl lo → IsPart vu hi → r x lo hi H Q →
    ∃ T id, typeLookup (.type T) "__getitem__" = pure (some (.builtin id)) ∧ s.TypeIs v T ∧ wpAny (model X.prog X.w) X.A (getItem v (.ref sl)) (EP X pins σ Q) X.xe s
theorem SlR.or {r r' : V → Option Int → Option Int → Hp → VK → Prop} (h : SlR X r) (h' : SlR X r') : SlR X (fun x lo hi H Q => r x lo hi H Q ∨ r' x lo hi H Q) := by
  intro pins s σ H x v vl vu lo hi sl Q I rx hs pl pu q
  rcases q with q | q
  · exact h pins s σ H x v vl vu lo hi sl Q I rx hs pl pu q
  · exact h' pins s σ H x v vl vu lo hi sl Q I rx hs pl pu q
def tSl (r : V → Option Int → Option Int → Hp → VK → Prop) (te : TE) (tl th : TO) : TE := fun σ H Q => te σ H fun x H1 => tl σ H1 fun l H2 => th σ H2 fun u H3 => r x l u H3 Q

theorem pe_slice {r : V → Option Int → Option Int → Hp → VK → Prop} (hr : SlR X r) (he : PE X e te) (hl : PO X lo tl) (hu : PO X hi th) : PE X (.Subscript e (.Slice lo hi none p2) pos) (tSl r te tl th) := by
  intro pins s σ H Q I h
  refine Subscript_ (thn (he pins s σ H _ I h) fun v s1 ⟨x, H1, I1, r1, q1⟩ => ?_)
  refine wpAny_Slice (thn (hl pins s1 σ H1 _ I1 q1) fun vl s2 ⟨l, H2, I2, pl, q2⟩ => thn (hu pins s2 σ H2 _ I2 q2) fun vu s3 ⟨u, H3, I3, pu, q3⟩ => ?_)
  rw [evalPart_none]
  refine wpAny_pure ?_
  have I4 : Inv X pins σ H3 { s3 with heap := s3.heap.push { cls := .type "slice", data := .fields #[vl, vu, .none] } } := I3.kept (t' := s3.toks) fun b ob q => Heap.get?_push_of_some _ q
  obtain ⟨T, id, hT, ht, hg⟩ := hr pins { s3 with heap := s3.heap.push { cls := .type "slice", data := .fields #[vl, vu, .none] } } σ H3 x v vl vu l u s3.heap.objs.size Q I4 r1 (Heap.IsSliceOf.new ..) pl pu q3
  show wpAny (model X.prog X.w) X.A (subscriptTail e (.Slice lo hi none p2) v (.ref s3.heap.objs.size)) (EP X pins σ Q) X.xe { s3 with heap := s3.heap.push { cls := .type "slice", data := .fields #[vl, vu, .none] } }
  exact tail_any (ops := [.ref s3.heap.objs.size, v]) ht hT hg (by with_unfolding_all rfl)


def cutV (xs : List V) (lo hi : Option Int) : List V := (xs.drop (HT.sIx xs.length 0 lo)).take (HT.sIx xs.length xs.length hi - HT.sIx xs.length 0 lo)
theorem cutV_length (xs : List V) (lo hi : Option Int) : (cutV xs lo hi).length ≤ xs.length := by
  unfold cutV
  rw [List.length_take, List.length_drop]
  omega

def rLtT (K : PySem.W.Frag) : R2 := fun x y H Q => ∃ a b ns ms, x = .ref a ∧ y = .ref b ∧ SqT K H a (ns.map V.int) ∧ SqT K H b (ms.map V.int) ∧ Q (.bl (HT.lexLt ns ms)) H
end
end L2

namespace L2
open PySem PySem.Spec PyProof.Rows



def ixN (n : Nat) (i : Int) : Option Nat := if 0 ≤ i then (if i < n then some i.toNat else none) else if -(n : Int) ≤ i then some (i + n).toNat else none
def atI {α : Type} (xs : List α) (i : Int) : Option α := (ixN xs.length i).bind fun j => xs[j]?
theorem ixN_seq {n : Nat} {i : Int} {j : Nat} (h : ixN n i = some j) : seqIndex? i n = some j ∧ j < n ∧ -(n : Int) ≤ i ∧ i < n := by
  unfold ixN at h
  by_cases h0 : 0 ≤ i
  · rw [if_pos h0] at h
    by_cases h1 : i < n
    · rw [if_pos h1] at h
      have e : i.toNat = j := Option.some.inj h
      exact ⟨by rw [seqIndex_of h0 h1, e], by omega, by omega, h1⟩
    · rw [if_neg h1] at h; cases h
  · rw [if_neg h0] at h
    by_cases h1 : -(n : Int) ≤ i
    · rw [if_pos h1] at h
      have e : (i + n).toNat = j := Option.some.inj h
      exact ⟨by rw [seqIndex_neg (by omega) h1, e], by omega, h1, by omega⟩
    · rw [if_neg h1] at h; cases h
theorem atI_get {α : Type} {xs : List α} {i : Int} {v : α} (h : atI xs i = some v) : ∃ j, seqIndex? i xs.length = some j ∧ xs[j]? = some v ∧ j < xs.length ∧ -(xs.length : Int) ≤ i ∧ i < xs.length := by
  unfold atI at h
  cases e : ixN xs.length i with
  | none => rw [e] at h; cases h
  | some j =>
    rw [e] at h
    obtain ⟨h1, h2, h3, h4⟩ := ixN_seq e
    exact ⟨j, h1, h, h2, h3, h4⟩
theorem atI_nat {α : Type} {xs : List α} {j : Nat} {v : α} (h : xs[j]? = some v) : atI xs (j : Int) = some v := by
  have hj : j < xs.length := (List.getElem?_eq_some_iff.mp h).1
  have e : ixN xs.length (j : Int) = some j := by
    unfold ixN
    rw [if_pos (by omega), if_pos (by omega)]; simp
  unfold atI; rw [e]; exact h
theorem atI_last {α : Type} (xs : List α) (v : α) : atI (xs ++ [v]) (-1) = some v := by
  have hl : (xs ++ [v]).length = xs.length + 1 := by simp
  have e : ixN (xs ++ [v]).length (-1) = some xs.length := by
    unfold ixN
    rw [hl, if_neg (by decide), if_pos (by omega)]
    congr 1
    omega
  unfold atI
  rw [e]
  show (xs ++ [v])[xs.length]? = some v
  simp



def PlainIx (b : Expr) : Prop := ∀ o i, subscripted b false o i = operate [o, i] (getItem o i)

def IxR (X : Cx) (r : R2) : Prop :=
  ∀ (value slice : Expr) (pins : List (Addr × Obj)) (s : Shared) (σ : St) (H : Hp) (x y : V) (v u : Value) (Q : VK), Inv X pins σ H s → RelV x v → RelV y u → r x y H Q →
    subscripted slice false v u = operate [v, u] (getItem v u) → wpAny (model X.prog X.w) X.A (subscriptTail value slice v u) (EP X pins σ Q) X.xe s

def MtR (X : Cx) (id : String) (r : V → List V → Hp → VK → Prop) : Prop :=
  ∀ (pins : List (Addr × Obj)) (s : Shared) (σ : St) (H : Hp) (x : V) (xs : List V) (v : Value) (us : List Value) (Q : VK), Inv X pins σ H s → RelV x v → Vals xs us → r x xs H Q →
    wpAny (model X.prog X.w) X.A (call (.builtin id) (v :: us)) (EP X pins σ Q) X.xe s
section
variable {X : Cx} {a b : Expr} {ta tb : TE} {pos : Pos}
theorem IxR.or {r r' : R2} (h : IxR X r) (h' : IxR X r') : IxR X (fun x y H Q => r x y H Q ∨ r' x y H Q) := by
  intro value slice pins s σ H x y v u Q I rx ry q hs
  rcases q with q | q
  · exact h value slice pins s σ H x y v u Q I rx ry q hs
  · exact h' value slice pins s σ H x y v u Q I rx ry q hs
theorem MtR.or {id : String} {r r' : V → List V → Hp → VK → Prop} (h : MtR X id r) (h' : MtR X id r') : MtR X id (fun x xs H Q => r x xs H Q ∨ r' x xs H Q) := by
  intro pins s σ H x xs v us Q I rx rs q
  rcases q with q | q
  · exact h pins s σ H x xs v us Q I rx rs q
  · exact h' pins s σ H x xs v us Q I rx rs q

theorem pe_ix {r : R2} (hr : IxR X r) (ha : PE X a ta) (hb : PE X b tb) (hs : PlainIx b) : PE X (.Subscript a b pos) (tOp r ta tb) := by
  intro pins s σ H Q I h
  exact Subscript_ (binT ha hb I h fun v u s2 x y H2 I2 rx ry q => hr a b pins s2 σ H2 x y v u Q I2 rx ry q (hs _ _))

def rIxL (K : PySem.W.Frag) : R2 := fun x y H Q => ∃ p xs i v, x = .ref p ∧ y = .int i ∧ SqL K H p xs ∧ atI xs i = some v ∧ Q v H
def rIxT (K : PySem.W.Frag) : R2 := fun x y H Q => ∃ p xs i v, x = .ref p ∧ y = .int i ∧ SqT K H p xs ∧ atI xs i = some v ∧ Q v H
theorem ix_list : IxR X (rIxL X.K) := by
  intro value slice pins s σ H x y v u Q I rx ry h hs
  obtain ⟨p, xs, i, z, rfl, rfl, hq, he, q⟩ := h
  cases rx
  obtain ⟨t, rfl⟩ := ry
  obtain ⟨its, r, pl, hz⟩ := I.list hq
  obtain ⟨j, h1, h2, h3, h4, h5⟩ := atI_get he
  obtain ⟨w, ew, rw'⟩ := r.get h2
  have hl := r.length
  have hn := line63
  have fin : EP X pins σ Q w s := ⟨z, H, I, rw', q⟩
  by_cases h0 : 0 ≤ i
  · have hj : i.toNat = j := by
      rw [seqIndex_of h0 h5] at h1
      exact Option.some.inj h1
    exact item_listR pl.isList h0 (by omega) (by rw [hj]; simpa using ew) fin hs
  · have hj : (i + (its.toArray.size : Int)).toNat = j := by
      rw [seqIndex_neg (by omega) h4] at h1
      rw [List.size_toArray, ← hl]
      exact Option.some.inj h1
    exact subscriptTail_builtinR (x := w) pl.isList.typeIs slot_list_getitem.lookup
      (wpAny_getItem_list_neg (Q := fun r s' => r = w ∧ EP X pins σ Q r s') pl.isList (by omega) (by rw [List.size_toArray] <;> omega) (by omega) (by rw [hj]; simpa using ew) ⟨rfl, fin⟩) hs
theorem ix_tup : IxR X (rIxT X.K) := by
  intro value slice pins s σ H x y v u Q I rx ry h hs
  obtain ⟨p, xs, i, z, rfl, rfl, hq, he, q⟩ := h
  cases rx
  obtain ⟨t, rfl⟩ := ry
  obtain ⟨its, r, pl, hz⟩ := I.tuple hq
  obtain ⟨j, h1, h2, h3, h4, h5⟩ := atI_get he
  obtain ⟨w, ew, rw'⟩ := r.get h2
  have hl := r.length
  have hn := line63
  have fin : EP X pins σ Q w s := ⟨z, H, I, rw', q⟩
  exact subscriptTail_builtinR (x := w) pl.typeIs slot_tuple_getitem.lookup
    (getItem_tuple (j := j) (Q := fun r s' => r = w ∧ EP X pins σ Q r s') pl (by omega) (by omega) (by rw [List.size_toArray, ← hl]; exact h1) (by simpa using ew) ⟨rfl, fin⟩) hs
theorem mapSeq_set (its : List Value) (n j : Nat) (u : Value) : Obj.mapSeq (·.setIfInBounds j u) { cls := .type "list", data := .seq its.toArray n } = { cls := .type "list", data := .seq (its.set j u).toArray n } := by
  simp [Obj.mapSeq]
theorem Inv.lst {pins : List (Addr × Obj)} {σ : St} {H : Hp} {s : Shared} {p : Addr} {xs : List V} (I : Inv X pins σ H s) (h : H p = some (.lst xs)) :
    ∃ (its : List Value) (n : Nat), Vals xs its ∧ s.heap.get? p = some { cls := .type "list", data := .seq its.toArray n } ∧ xs.length ≤ sizeLine := by
  obtain ⟨z, its, n, r, e⟩ := I.hok p _ h
  exact ⟨its, n, r, e, z⟩

theorem Inv.lstUpd {pins : List (Addr × Obj)} {σ : St} {H : Hp} {s : Shared} {p : Addr} {xs ys : List V} {its its' : List Value} {n n' : Nat} {f : Obj → Obj} (I : Inv X pins σ H s) (h : H p = some (.lst xs))
    (ho : s.heap.get? p = some { cls := .type "list", data := .seq its.toArray n }) (hf : f { cls := .type "list", data := .seq its.toArray n } = { cls := .type "list", data := .seq its'.toArray n' }) (r : Vals ys its') (hz : ys.length ≤ sizeLine) (t : Nat) :
    Inv X pins σ (upd H p (.lst ys)) { s with heap := s.heap.update p f, toks := t } := by
  have e : (s.heap.update p f).get? p = some { cls := .type "list", data := .seq its'.toArray n' } := by
    rw [Heap.get?_update_self f ho (by rw [hf] <;> rfl), hf]
  refine I.write (x := p) (e := p) (by rw [h]; trivial) (.inl rfl) (fun b u hb q => (Heap.get?_update_other _ _ (Ne.symm hb)).trans q) ⟨_, e⟩ ?_
  exact ⟨hz, its', n', r, e⟩
def rSetL : V → V → V → Hp → (Hp → Prop) → Prop := fun o i v H Q => ∃ p xs k j, o = .ref p ∧ i = .int k ∧ H p = some (.lst xs) ∧ ixN xs.length k = some j ∧ Q (upd H p (.lst (xs.set j v)))
theorem set_list : PSet X rSetL := by
  intro pins s σ H o i v ov iv u Q I ro ri rv h
  obtain ⟨p, xs, k, j, rfl, rfl, hp, hj, q⟩ := h
  cases ro
  obtain ⟨t, rfl⟩ := ri
  obtain ⟨its, n, r, ho, hz⟩ := I.lst hp
  obtain ⟨h1, h2, h3, h4⟩ := ixN_seq hj
  have hl := r.length
  have hn := line63
  have I' : Inv X pins σ (upd H p (.lst (xs.set j v))) { s with heap := s.heap.update p (Obj.mapSeq (·.setIfInBounds j u)) } :=
    I.lstUpd hp ho (mapSeq_set its n j u) (r.set rv j) (by rw [List.length_set]; exact hz) s.toks
  by_cases h0 : 0 ≤ k
  · have hk : k.toNat = j := by
      rw [seqIndex_of h0 h4] at h1
      exact Option.some.inj h1
    exact PySem.W.ki_setAt ho h0 (by omega) (by rw [List.size_toArray, ← hl]; exact h4) (by rw [hk]; exact ⟨_, I', q⟩)
  · have hk : (k + (its.toArray.size : Int)).toNat = j := by
      rw [seqIndex_neg (by omega) h3] at h1
      rw [List.size_toArray, ← hl]
      exact Option.some.inj h1
    exact PySem.W.ki_setBack ho (by omega) (by rw [List.size_toArray, ← hl]; exact h3) (by omega) (by rw [hk]; exact ⟨_, I', q⟩)


theorem slice_bounds (lo hi : Option Int) (n : Nat) : (sliceBounds lo hi none n).1 = ((HT.sIx n 0 lo : Nat) : Int) ∧ (sliceBounds lo hi none n).2.1 = ((HT.sIx n n hi : Nat) : Int) ∧ (sliceBounds lo hi none n).2.2 = 1 := by
  refine ⟨?_, ?_, rfl⟩
  · cases lo with
    | none => simp [sliceBounds, HT.sIx]
    | some i =>
      simp only [sliceBounds, HT.sIx, Option.getD_none, show (1 : Int) > 0 by decide, if_true]
      by_cases h : i < 0
      · simp only [h, if_true] <;> omega
      · simp only [h, if_false] <;> omega
  · cases hi with
    | none => simp [sliceBounds, HT.sIx]
    | some i =>
      simp only [sliceBounds, HT.sIx, Option.getD_none, show (1 : Int) > 0 by decide, if_true]
      by_cases h : i < 0
      · simp only [h, if_true] <;> omega
      · simp only [h, if_false] <;> omega
theorem slicePick_cut (its : List Value) (lo hi : Option Int) : slicePick its.toArray lo hi none = ((its.drop (HT.sIx its.length 0 lo)).take (HT.sIx its.length its.length hi - HT.sIx its.length 0 lo)).toArray := by
  obtain ⟨h1, h2, h3⟩ := slice_bounds lo hi its.toArray.size
  unfold slicePick
  rw [h1, h2, h3]
  simp only [sliceRange_one, pick_run, List.size_toArray] <;> rfl

def rSlL (K : PySem.W.Frag) : V → Option Int → Option Int → Hp → VK → Prop := fun x lo hi H Q => ∃ a xs, x = .ref a ∧ SqL K H a xs ∧ ∀ p, H p = none → Q (.ref p) (upd H p (.lst (cutV xs lo hi)))
theorem sl_list : SlR X (rSlL X.K) := by
  intro pins s σ H x v vl vu lo hi sl Q I rx hs pl pu h
  obtain ⟨a, xs, rfl, hx, q⟩ := h
  cases rx
  obtain ⟨its, r, ht, hz⟩ := I.list hx
  have hlen := r.length
  refine ⟨"list", _, slot_list_getitem.lookup, ht.isList.typeIs, ?_⟩
  refine wpAny_getItem_list_slice ht.isList hs pl pu .none (by simp) ?_ (by rw [List.size_toArray] <;> omega)
  rw [slicePick_cut, ← hlen]
  refine ⟨.ref s.heap.objs.size, _, I.laid (t' := s.toks) (o := .lst (cutV xs lo hi)) (fun b ob q => Heap.get?_push_of_some _ q) (Nat.le_refl _) ?_, rfl, q _ (I.hok.fresh (Nat.le_refl _))⟩
  exact ⟨Nat.le_trans (cutV_length xs lo hi) hz, _, 0, (r.drop (HT.sIx xs.length 0 lo)).take (HT.sIx xs.length xs.length hi - HT.sIx xs.length 0 lo), Heap.get?_push_size _ rfl⟩


def flatV : V → Bool
  | .non => true
  | .bl _ => true
  | .int _ => true
  | .str _ => true
  | _ => false

def eqV : V → V → Bool
  | .non, .non => true
  | .bl a, .bl b => a == b
  | .bl a, .int b => (if a then 1 else 0) == b
  | .int a, .bl b => a == (if b then 1 else 0)
  | .int a, .int b => a == b
  | .str a, .str b => a == b
  | _, _ => false
theorem eqAt_V {A : Around} {s : Shared} {y x : V} {u v : Value} (ry : RelV y u) (rx : RelV x v) (fy : flatV y = true) (fx : flatV x = true) : SeqAt.EqAt A s u v (eqV y x) := by
  cases y with
  | non =>
    cases ry
    cases x with
    | non => cases rx; exact SeqAt.EqAt.same _
    | bl b => cases rx; exact SeqAt.EqAt.none_bool b
    | int b => obtain ⟨t, rfl⟩ := rx; exact SeqAt.EqAt.none_int b t
    | str b => obtain ⟨t, rfl⟩ := rx; exact SeqAt.EqAt.none_str b t
    | _ => exact absurd (show false = true from fx) Bool.false_ne_true
  | bl a =>
    cases ry
    cases x with
    | non => cases rx; exact SeqAt.EqAt.bool_none a
    | bl b => cases rx; exact SeqAt.EqAt.bool_bool a b
    | int b => obtain ⟨t, rfl⟩ := rx; exact SeqAt.EqAt.bool_int a b t
    | str b => obtain ⟨t, rfl⟩ := rx; exact SeqAt.EqAt.bool_str a b t
    | _ => exact absurd (show false = true from fx) Bool.false_ne_true
  | int a =>
    obtain ⟨t', rfl⟩ := ry
    cases x with
    | non => cases rx; exact SeqAt.EqAt.int_none a t'
    | bl b => cases rx; exact SeqAt.EqAt.int_bool a t' b
    | int b => obtain ⟨t, rfl⟩ := rx; exact SeqAt.EqAt.int_int a t' b t
    | str b => obtain ⟨t, rfl⟩ := rx; exact SeqAt.EqAt.int_str a t' b t
    | _ => exact absurd (show false = true from fx) Bool.false_ne_true
  | str a =>
    obtain ⟨t', rfl⟩ := ry
    cases x with
    | non => cases rx; exact SeqAt.EqAt.str_none a t'
    | bl b => cases rx; exact SeqAt.EqAt.str_bool a t' b
    | int b => obtain ⟨t, rfl⟩ := rx; exact SeqAt.EqAt.str_int a t' b t
    | str b => obtain ⟨t, rfl⟩ := rx; exact SeqAt.EqAt.str_str a t' b t
    | _ => exact absurd (show false = true from fx) Bool.false_ne_true
  | _ => exact absurd (show false = true from fy) Bool.false_ne_true

def inV (x : V) (xs : List V) : Bool := xs.any fun y => eqV y x

def rIn (K : PySem.W.Frag) (neg : Bool) : R2 := fun x y H Q => ∃ p xs, y = .ref p ∧ (SqL K H p xs ∨ SqT K H p xs) ∧ flatV x = true ∧ xs.all flatV = true ∧ Q (.bl (if neg then !inV x xs else inV x xs)) H
theorem call_len_seq : CallR X (.builtin "len") (fun xs H Q => ∃ p ys, xs = [.ref p] ∧ (SqL X.K H p ys ∨ SqT X.K H p ys) ∧ Q (.int ys.length) H) := by
  intro pins s σ H xs us Q I r h
  obtain ⟨p, ys, rfl, hq, q⟩ := h
  obtain ⟨u, rfl, rx⟩ := vals1 r
  cases rx
  have hn := line63
  rcases hq with hq | hq
  · obtain ⟨its, r', pl, hz⟩ := I.list hq
    have hlen := r'.length
    exact Calls.call_len_list pl.isList (by simp only [List.size_toArray] <;> omega) ⟨.int ys.length, H, I.tok _, ⟨s.toks + 1, by rw [List.size_toArray, hlen]⟩, q⟩
  · obtain ⟨its, r', pl, hz⟩ := I.tuple hq
    have hlen := r'.length
    exact len_tuple pl (by simp only [List.size_toArray] <;> omega) ⟨.int ys.length, H, I.tok _, ⟨s.toks + 1, by rw [List.size_toArray, hlen]⟩, q⟩
theorem CallR.or {f : Value} {r r' : List V → Hp → VK → Prop} (h : CallR X f r) (h' : CallR X f r') : CallR X f (fun xs H Q => r xs H Q ∨ r' xs H Q) := by
  intro pins s σ H xs us Q I rs q
  rcases q with q | q
  · exact h pins s σ H xs us Q I rs q
  · exact h' pins s σ H xs us Q I rs q
theorem call_list_of : CallR X (.type "list") (fun xs H Q => ∃ p ys, xs = [.ref p] ∧ (SqL X.K H p ys ∨ SqT X.K H p ys) ∧ ∀ l, H l = none → Q (.ref l) (upd H l (.lst ys))) := by
  intro pins s σ H xs us Q I r h
  obtain ⟨p, ys, rfl, hq, q⟩ := h
  obtain ⟨u, rfl, rx⟩ := vals1 r
  cases rx
  have fin : ∀ (its : List Value), Vals ys its → ys.length ≤ sizeLine → ∀ (h' : Heap) (c' : Nat), (∀ b o', s.heap.get? b = some o' → h'.get? b = some o') →
      h'.get? s.heap.objs.size = some { cls := .type "list", dict := none, data := .seq its.toArray c', slots := #[] } → EP X pins σ Q (.ref s.heap.objs.size) { s with heap := h' } := fun its r' hz h' c' kp e =>
    ⟨.ref s.heap.objs.size, _, I.laid (t' := s.toks) kp (Nat.le_refl _) (show ObjOk X.prog X.w _ h' _ (.lst ys) from ⟨hz, its, c', r', e⟩), rfl, q _ (I.hok.fresh (Nat.le_refl _))⟩
  rcases hq with hq | hq
  · obtain ⟨its, r', pl, hz⟩ := I.list hq
    have hlen := r'.length
    obtain ⟨o, ho, hc, n, hd⟩ := pl.isList
    exact call_list_seq p (.inl rfl) ho hc hd (fun h' c' kp e => fin its r' hz h' c' kp e) (by simp only [List.size_toArray] <;> omega)
  · obtain ⟨its, r', pl, hz⟩ := I.tuple hq
    have hlen := r'.length
    obtain ⟨o, ho, hc, n, hd⟩ := pl
    exact call_list_seq p (.inr rfl) ho hc hd (fun h' c' kp e => fin its r' hz h' c' kp e) (by simp only [List.size_toArray] <;> omega)
theorem call_tuple_of : CallR X (.type "tuple") (fun xs H Q => ∃ p ys, xs = [.ref p] ∧ ((SqL X.K H p ys ∧ ∀ l, H l = none → Q (.ref l) (upd H l (.tup ys))) ∨ (SqT X.K H p ys ∧ Q (.ref p) H))) := by
  intro pins s σ H xs us Q I r h
  obtain ⟨p, ys, rfl, h⟩ := h
  obtain ⟨u, rfl, rx⟩ := vals1 r
  cases rx
  rcases h with ⟨hq, q⟩ | ⟨hq, q⟩
  · obtain ⟨its, r', pl, hz⟩ := I.list hq
    have hlen := r'.length
    refine call_tuple_list pl.isList (fun h' kp => ?_) (by simp only [List.size_toArray] <;> omega)
    have I1 : Inv X pins σ H { s with heap := h' } := I.kept (t' := s.toks) kp
    have I2 : Inv X pins σ (upd H h'.objs.size (.tup ys)) { s with heap := h'.push { cls := .type "tuple", data := .seq its.toArray } } :=
      I1.laid (t' := s.toks) (fun b o e => Heap.get?_push_of_some _ e) (Nat.le_refl _) (show ObjOk X.prog X.w _ _ _ (.tup ys) from ⟨hz, its, r', IsTup.new _ _⟩)
    exact ⟨.ref h'.objs.size, _, I2, rfl, q _ (I1.hok.fresh (Nat.le_refl _))⟩
  · obtain ⟨its, r', pl, hz⟩ := I.tuple hq
    exact call_tuple_same pl ⟨.ref p, H, I, rfl, q⟩



def tyV (K : PySem.W.Frag) (T : String) (x : V) (H : Hp) : Prop := match x with
  | .str _ => T = "str"
  | .int _ => T = "int"
  | .ref p => (T = "list" ∧ ∃ xs, SqL K H p xs) ∨ (T = "tuple" ∧ ∃ o, K.lookup p = some o ∧ o.cls = .type "tuple" ∧ o.dict = none) ∨
      (T = "dict" ∧ ((∃ kvs, H p = some (.dK kvs)) ∨ ∃ kvs, H p = some (.dT kvs))) ∨ (T = "set" ∧ ∃ S n, H p = some (.set S n))
  | _ => False
theorem tyV_is {pins : List (Addr × Obj)} {σ : St} {H : Hp} {s : Shared} {T : String} {x : V} {v : Value} (I : Inv X pins σ H s) (r : RelV x v) (ty : tyV X.K T x H) :
    s.TypeIs v T ∧ ∀ a, v = .ref a → ∃ ob, s.heap.get? a = some ob ∧ ob.dict = none := by
  cases x with
  | str z =>
    obtain ⟨t, rfl⟩ := r
    cases (show T = "str" from ty)
    exact ⟨typeIs_str s z t, fun _ e => nomatch e⟩
  | int i =>
    obtain ⟨t, rfl⟩ := r
    cases (show T = "int" from ty)
    exact ⟨typeIs_int s i t, fun _ e => nomatch e⟩
  | ref p =>
    cases r
    rcases ty with ⟨rfl, xs, hq⟩ | ⟨rfl, o, hk, hc, hd⟩ | ⟨rfl, hk⟩ | ⟨rfl, S, n, hk⟩
    · obtain ⟨its, _, pl, _⟩ := I.list hq
      refine ⟨pl.isList.typeIs, fun a e => ?_⟩
      cases e
      obtain ⟨o, n, e, c, hd, _⟩ := pl
      exact ⟨o, e, hd⟩
    · refine ⟨⟨o, I.kIn p o hk, hc⟩, fun a e => ?_⟩
      cases e
      exact ⟨o, I.kIn _ o hk, hd⟩
    · have z : ∃ o, s.heap.get? p = some o ∧ o.ExactDict := by
        rcases hk with ⟨kvs, hk⟩ | ⟨kvs, hk⟩
        · obtain ⟨_, _, _, _, o, _, _, e, ex, _⟩ := I.hok p _ hk
          exact ⟨o, e, ex⟩
        · obtain ⟨_, _, _, _, o, _, _, e, ex, _⟩ := I.hok p _ hk
          exact ⟨o, e, ex⟩
      obtain ⟨o, e, ex⟩ := z
      refine ⟨⟨o, e, ex.1⟩, fun a e2 => ?_⟩
      cases e2
      exact ⟨o, e, ex.2.1⟩
    · obtain ⟨o, _, _, _, e, ex, _⟩ := I.hok p _ hk
      refine ⟨⟨o, e, ex.1⟩, fun a e2 => ?_⟩
      cases e2
      exact ⟨o, e, ex.2.1⟩
  | _ => exact False.elim ty
def tBM0 (K : PySem.W.Frag) (T : String) (r : V → List V → Hp → VK → Prop) (to : TE) : TE := fun σ H Q => to σ H fun x H1 => tyV K T x H1 ∧ r x [] H1 Q
def tBM (K : PySem.W.Frag) (T : String) (r : V → List V → Hp → VK → Prop) (to : TE) (t : TA) : TE := fun σ H Q => to σ H fun x H1 => tyV K T x H1 ∧ t σ H1 fun xs H2 => r x xs H2 Q
variable {o e : Expr} {es : List Expr} {to : TE} {t : TA} {name : Str} {apos cpos : Pos} {T id : String} {r : V → List V → Hp → VK → Prop}
theorem pe_bm (pa : PlainAttrs T) (slot : Slot T name id) (hty : typeOf (.builtin id) = pure (.type "method_descriptor")) (hm : MtR X id r) (ho : PE X o to) (ha : PA X (e :: es) t)
    (hbase : attributeBase o name X.env (eval o X.env) = eval o X.env := by rfl)
    (hfew : ((backTo cpos (starEach (e :: es) X.env)).all (fun x => !x.1) && (backToKw cpos (keywordEach [] X.env)).all (fun x => x.1.isSome)
      && decide ((e :: es).length + ([] : List Keyword).length + (if ([] : List Keyword).isEmpty then 0 else 1) < 30)) = true := by rfl)
    (hline : (apos.endLine == cpos.line) = true := by rfl) (hs : starEach (e :: es) X.env = (false, eval e X.env) :: starEach es X.env := by rfl) (hplain : (backTo cpos (starEach es X.env)).any (·.1) = false := by rfl) :
    PE X (.Call (.Attribute o name apos) (e :: es) [] cpos) (tBM X.K T r to t) := by
  intro pins s σ H Q I h
  refine wpAny_Call_method_late hbase hfew hline rfl (thn (ho pins s σ H _ I h) fun v s1 ⟨x, H1, I1, r1, ty, q1⟩ => ?_)
  obtain ⟨h1, h2⟩ := tyV_is I1 r1 ty
  refine ⟨T, id, pa, slot, hty, h1, h2, ?_⟩
  have hA := ha cpos pins s1 σ H1 _ I1 q1
  rw [hs] at hA ⊢
  refine Calls.callWith_builtin (by show (false || (backTo cpos (starEach es X.env)).any (·.1)) = false; rw [hplain] <;> rfl) (Calls.evalArgs_plain ?_)
  exact thn hA fun us s2 ⟨vs, H2, I2, r2, q2⟩ => hm pins s2 σ H2 x vs v us Q I2 r1 r2 q2

end
end L2

namespace L2
open PySem PySem.Spec PyProof.Rows

def MtM (X : Cx) (id : String) (r : V → List V → Hp → VK → Prop) : Prop :=
  ∀ (pins : List (Addr × Obj)) (s : Shared) (σ : St) (H : Hp) (x : V) (xs : List V) (v : Value) (us : List Value) (Q : VK), Inv X pins σ H s → RelV x v → Vals xs us → r x xs H Q →
    wpAny (model X.prog X.w) X.A (call (.builtin id) (v :: us)) (EP X pins σ Q) X.xe s


theorem Vals.one : ∀ {x : V} {us : List Value}, Vals [x] us → ∃ u, us = [u] ∧ RelV x u
  | _, _, .cons r .nil => ⟨_, rfl, r⟩
theorem Vals.two : ∀ {x y : V} {us : List Value}, Vals [x, y] us → ∃ u v, us = [u, v] ∧ RelV x u ∧ RelV y v
  | _, _, _, .cons r (.cons q .nil) => ⟨_, _, rfl, r, q⟩
theorem Vals.zero : ∀ {us : List Value}, Vals [] us → us = []
  | _, .nil => rfl
theorem Vals.dropLast {xs : List V} {us : List Value} (h : Vals xs us) : Vals xs.dropLast us.dropLast := by
  induction h with
  | nil => exact .nil
  | cons r t ih =>
    cases t with
    | nil => exact .nil
    | cons q t' => exact .cons r ih
theorem Vals.eraseIdx : ∀ {xs : List V} {us : List Value} (i : Nat), Vals xs us → Vals (xs.eraseIdx i) (us.eraseIdx i)
  | _, _, _, .nil => .nil
  | _, _, 0, .cons _ t => t
  | _, _, i + 1, .cons r t => .cons r (Vals.eraseIdx i t)
theorem Vals.reverse {xs : List V} {us : List Value} (h : Vals xs us) : Vals xs.reverse us.reverse := by
  induction h with
  | nil => exact .nil
  | cons r t ih => rw [List.reverse_cons, List.reverse_cons]; exact Vals.append ih (.cons r .nil)
theorem Vals.rep {xs : List V} {us : List Value} (h : Vals xs us) : ∀ k : Nat, Vals (List.replicate k xs).flatten (List.replicate k us).flatten
  | 0 => .nil
  | k + 1 => by
    rw [List.replicate_succ, List.replicate_succ, List.flatten_cons, List.flatten_cons]
    exact Vals.append h (Vals.rep h k)
theorem foldl_rep (its : List Value) : ∀ (k : Nat) (acc : List Value),
    List.foldl (fun x1 x2 => x1 ++ x2) acc.toArray (List.replicate k its.toArray) = (acc ++ (List.replicate k its).flatten).toArray
  | 0, acc => by simp
  | k + 1, acc => by
    have e : acc.toArray ++ its.toArray = (acc ++ its).toArray := by simp
    have e2 : (acc ++ its) ++ (List.replicate k its).flatten = acc ++ (List.replicate (k + 1) its).flatten := by
      rw [List.replicate_succ, List.flatten_cons, List.append_assoc]
    rw [← e2, ← foldl_rep its k (acc ++ its), ← e, List.replicate_succ, List.foldl_cons]

section
variable {X : Cx} {pins : List (Addr × Obj)} {σ : St} {H : Hp} {s : Shared} {l b : Addr} {xs ys zs : List V}


theorem Inv.lset {its its' : List Value} {n : Nat} {f : Array Value → Array Value} {t' : Nat} (I : Inv X pins σ H s) (hH : H l = some (.lst xs))
    (e : s.heap.get? l = some { cls := .type "list", data := .seq its.toArray n }) (hf : f its.toArray = its'.toArray) (hv : Vals ys its') (hz : ys.length ≤ sizeLine) :
    Inv X pins σ (upd H l (.lst ys)) { s with heap := s.heap.update l (Obj.mapSeq f), toks := t' } := by
  have q := PySem.IsL.update e f
  rw [hf] at q
  refine I.write (x := l) (e := l) (by rw [hH]; exact trivial) (.inl rfl) (fun b' u hb hu => (Heap.get?_update_other s.heap (Obj.mapSeq f) (Ne.symm hb)).trans hu) ⟨_, q⟩ ?_
  exact ⟨hz, its', _, hv, q⟩
theorem Inv.lnew {its : List Value} {t' : Nat} (I : Inv X pins σ H s) (hv : Vals ys its) (hz : ys.length ≤ sizeLine) :
    Inv X pins σ (upd H s.heap.objs.size (.lst ys)) { s with heap := s.heap.push { cls := .type "list", data := .seq its.toArray }, toks := t' } :=
  I.laid (fun _ _ q => Heap.get?_push_of_some _ q) (Nat.le_refl _) ⟨hz, its, 0, hv, Heap.get?_push_size _ rfl⟩
theorem Inv.fresh (I : Inv X pins σ H s) : H s.heap.objs.size = none := I.hok.fresh (Nat.le_refl _)
theorem Inv.lstM (I : Inv X pins σ H s) (hH : H l = some (.lst xs)) : xs.length ≤ sizeLine ∧ ∃ (its : List Value) (n : Nat), Vals xs its ∧ xs.length = its.length ∧ s.heap.get? l = some { cls := .type "list", data := .seq its.toArray n } := by
  obtain ⟨z, its, n, r, e⟩ := I.hok l _ hH
  exact ⟨z, its, n, r, r.length, e⟩

theorem notLongL {n : Nat} (h : n ≤ sizeLine) : Builtin.List.listTooLong n = false := by
  unfold Builtin.List.listTooLong
  exact decide_eq_false (by omega)
end

section
variable {X : Cx}


def rAppend : V → List V → Hp → VK → Prop := fun x vs H Q => ∃ l xs y, x = .ref l ∧ vs = [y] ∧ H l = some (.lst xs) ∧ xs.length < sizeLine ∧ Q .non (upd H l (.lst (xs ++ [y])))
theorem mt_append : MtM X "list.append" rAppend := by
  intro pins s σ H x vs v us Q I rx rv h
  obtain ⟨l, xs, y, rfl, rfl, hH, hz, q⟩ := h
  cases rx
  obtain ⟨u, rfl, ru⟩ := rv.one
  obtain ⟨z, its, n, r, hl, e⟩ := I.lstM hH
  refine call_meets F.slot_list_append ⟨_, e, rfl⟩ F.entry_list_append (F.args_list_append_2 _ _) (PySem.list_append l its.toArray n u (by rw [List.size_toArray]; omega)) ⟨e, ?_⟩
  refine ⟨.non, _, I.lset (its' := its ++ [u]) hH e (by simp) (r.append (.cons ru .nil)) ?_, rfl, q⟩
  rw [List.length_append, List.length_singleton]
  omega

def rExtend : V → List V → Hp → VK → Prop := fun x vs H Q => ∃ l b xs zs, x = .ref l ∧ vs = [.ref b] ∧ H l = some (.lst xs) ∧ H b = some (.lst zs) ∧ xs.length + zs.length ≤ sizeLine ∧ Q .non (upd H l (.lst (xs ++ zs)))
def rPop : V → List V → Hp → VK → Prop := fun x vs H Q => ∃ l xs y, x = .ref l ∧ vs = [] ∧ H l = some (.lst xs) ∧ xs[xs.length - 1]? = some y ∧ Q y (upd H l (.lst xs.dropLast))
def rPopAt : V → List V → Hp → VK → Prop := fun x vs H Q => ∃ l xs i k y, x = .ref l ∧ vs = [.int i] ∧ H l = some (.lst xs) ∧ -(2 ^ 63) ≤ i ∧ i < 2 ^ 63 ∧ seqIndex? i xs.length = some k ∧ xs[k]? = some y ∧ Q y (upd H l (.lst (xs.eraseIdx k)))
def rCat : R2 := fun x y H Q => ∃ l b xs zs, x = .ref l ∧ y = .ref b ∧ H l = some (.lst xs) ∧ H b = some (.lst zs) ∧ xs.length + zs.length ≤ sizeLine ∧ ∀ p, H p = none → Q (.ref p) (upd H p (.lst (xs ++ zs)))
theorem op_cat : OpR X (binaryOp .Add) rCat := by
  intro pins s σ H x y v u Q I rx ry h
  obtain ⟨l, b, xs, zs, rfl, rfl, hH, hB, hz, q⟩ := h
  cases rx
  cases ry
  obtain ⟨z, its, n, r, hl, e⟩ := I.lstM hH
  obtain ⟨z2, its2, n2, r2, hl2, e2⟩ := I.lstM hB
  refine PySem.P.add_list e e2 ?_ (by rw [List.size_toArray, List.size_toArray]; omega)
  have ea : its.toArray ++ its2.toArray = (its ++ its2).toArray := by simp
  rw [ea]
  exact ⟨.ref _, _, I.lnew (t' := s.toks) (r.append r2) (by rw [List.length_append]; omega), rfl, q _ I.fresh⟩

def rRep : R2 := fun x y H Q => ∃ l k xs, x = .ref l ∧ y = .int k ∧ H l = some (.lst xs) ∧ -(2 ^ 63) ≤ k ∧ k < 2 ^ 63 ∧ xs.length * k.toNat ≤ sizeLine ∧
  ∀ p, H p = none → Q (.ref p) (upd H p (.lst (List.replicate k.toNat xs).flatten))
theorem len_rep {α : Type} (xs : List α) (k : Nat) : (List.replicate k xs).flatten.length = k * xs.length := by
  induction k with
  | zero => simp
  | succ k ih => rw [List.replicate_succ, List.flatten_cons, List.length_append, ih, Nat.succ_mul, Nat.add_comm]
theorem op_rep : OpR X (binaryOp .Mult) rRep := by
  intro pins s σ H x y v u Q I rx ry h
  obtain ⟨l, k, xs, rfl, rfl, hH, h1, h2, hz, q⟩ := h
  cases rx
  obtain ⟨t, rfl⟩ := ry
  obtain ⟨z, its, n, r, hl, e⟩ := I.lstM hH
  have hlen : its.toArray.size * k.toNat ≤ sizeLine := by rw [List.size_toArray, ← hl]; exact hz
  have hcap : ¬ its.toArray.size * k.toNat > (2 ^ 63 - 1) / 8 := by
    have : (sizeLine : Nat) ≤ (2 ^ 63 - 1) / 8 := by decide
    omega
  have hfit : ¬ (!Builtin.List.listFitsIndex k) = true := by
    rw [fitsIndex_both h1 h2]
    exact Bool.false_ne_true
  have hlong : ¬ Builtin.List.listTooLong (its.toArray.size * k.toNat) = true := by
    rw [notLongL hlen]
    exact Bool.false_ne_true
  have hnew : List.foldl (fun x1 x2 => x1 ++ x2) #[] (List.replicate (if its.toArray.isEmpty = true then 0 else k.toNat) its.toArray) = (List.replicate k.toNat its).flatten.toArray := by
    have f0 : ∀ m : Nat, List.foldl (fun x1 x2 => x1 ++ x2) #[] (List.replicate m its.toArray) = (List.replicate m its).flatten.toArray := fun m => by
      have := foldl_rep its m []
      rw [List.nil_append] at this
      exact this
    rw [f0]
    cases its with
    | nil => simp
    | cons a r' => rw [if_neg (by simp)]
  refine wpAny_binaryOp_repeat_ref (T := "list") (U := "int") (by decide) ⟨_, e, rfl⟩ (fun s' => typeIs_int s' k t) noFill_list_mul F.fills_int_mul F.slot_int_rmul repeat_list F.slot_int_index.lookup
    (call_meets F.slot_int_rmul (typeIs_int s k t) F.entry_int_rmul (F.args_int_rmul_2 _ _) (int___rmul___int_list k t l its.toArray n)
      ⟨e, rfl, ⟨_, e, rfl⟩, call_meets F.slot_list_mul ⟨_, e, rfl⟩ F.entry_list_mul (F.args_list_mul_2 _ _) (AutoListH.list___mul___list_int_3 l its.toArray n k t hfit hcap hlong) ⟨e, ?_⟩⟩)
  rw [hnew]
  exact ⟨.ref _, _, I.lnew (t' := s.toks) (r.rep k.toNat) (by rw [len_rep, Nat.mul_comm]; exact hz), rfl, q _ I.fresh⟩


end


section
variable {prog : Program} {w : World} {A : Around} {E : Value → Shared → Prop} {s : Shared}
end

section
variable {X : Cx}

end
end L2

namespace Att
open PySem PySem.W PySem.Calls PyProof.Rows


theorem ints_of_wellAll {P : Params} {h : Heap} : ∀ (ns : List Int) (vs : List Value), WellAll P h vs (ns.map WData.int) → IntsAre vs ns := by
  intro ns
  induction ns with
  | nil =>
    intro vs w
    rw [List.map_nil] at w
    cases w
    exact .nil
  | cons n ns ih =>
    intro vs w
    rw [List.map_cons] at w
    cases w with
    | cons a b =>
      cases a
      exact .cons _ _ (ih _ b)

theorem script_of {l : OpenLaw} {n : Nat} (hn : l.most = some n) {P : Params} {h : Heap} {args : List WData} {vals : List Value}
    (hpre : l.row.toRowW.claim.pre args = true) (hwl : WellAll P h vals args) :
    ∃ a vs ns, vals = [Value.ref a] ∧ args = [WData.list (ns.map WData.int)] ∧ h.get? a = some { cls := .type "list", data := .seq vs.toArray } ∧ IntsAre vs ns ∧ ns.length ≤ n := by
  have hsh : WShape.hasAll [] args [.list .int] = true := (pre_splitW hpre).1
  have hc : l.pre.holds [] { args := args } = true := (pre_splitW hpre).2
  obtain ⟨d, r, rfl, h1, h2⟩ := hasAllW_cons hsh
  obtain rfl := hasAllW_nil h2
  obtain ⟨xs, rfl, h3⟩ := hasW_list h1
  obtain ⟨ns, rfl⟩ := items_int h3
  have hlen : ns.length ≤ n := by
    unfold OpenLaw.pre at hc
    have h4 : (WTm.not (.lt (.lit (.int (n : Int))) (.len (.arg 0)))).holds [] { args := [.list (ns.map .int)] } = true := by
      have h4 := (holds_andW hc).1
      rw [hn] at h4
      exact h4
    have h5 := condW_of h4 (w_not (w_lt w_lit (w_len_list (w_arg rfl))))
    rw [List.length_map] at h5
    refine Nat.le_of_not_lt fun q => ?_
    have q' : (n : Int) < ((ns.length : Nat) : Int) := by omega
    first
      | (rw [decide_eq_true q'] at h5; exact absurd h5 (by decide))
      | (simp at h5; omega)
  cases hwl with
  | cons w1 w2 =>
    cases w2
    cases w1 with
    | list ho hall => exact ⟨_, _, ns, rfl, rfl, ho, ints_of_wellAll ns _ hall, hlen⟩

theorem post_true (l : OpenLaw) (args : List WData) : l.row.toRowW.claim.post args (.bool true) args = true :=
  postW_of (r := l.row.toRowW) (X := (true == true))
    (show WShape.has [] (.bool true) .bool = true by first | rfl | decide | simp [WShape.has, WShape.arms, WShape.armsAll])
    (show (WTm.eq .res (.lit (.bool true))).value [] { args := args, res := some (.bool true), after := args } = some (.bool (true == true)) from w_eq_bool (w_res rfl) w_lit) rfl


theorem attach_call {l : OpenLaw} {n : Nat} {q : Program} {loose : List Str} {XP : (Str → Option Value) → Heap → Prop} {YP : World → Heap → Prop} {d : DefRec}
    (hn : l.most = some n) (hdf : d.params.defaults = [])
    (call : ∀ (w : World) (s₀ s₁ : Shared) (mg mb : Str → Option Value) (fa : Addr) (o : Obj) (pm cd doc : Value) (a : Addr) (vs : List Value) (ns : List Int),
      Ground q loose [] XP w s₀ mg mb s₁.heap → YP w s₁.heap →
      s₁.heap.get? fa = some o → o.data = .func (docDef d.name d.params d.body d.scope pm cd doc) → s₁.heap.CodeRec cd d.name → mg d.name = some (.ref fa) →
      s₁.heap.get? a = some { cls := .type "list", data := .seq vs.toArray } → IntsAre vs ns → ns.length ≤ n → s₁.gens = #[] →
      codeAny (model l.prog w) callerA (.call (.ref fa) ⟨[.ref a], []⟩) (fun r s' => r = .ok (.ret (.bool true)) ∧ OldK s₁.heap s'.heap ∧ s'.os = s₁.os ∧ AllBare s'.gens) s₁) :
    WalkO q loose XP YP l.row.toRowW d [] (fun f vs => PySem.call f vs) := by
  intro w s₀ s₁ mg mb G Y fa o pm cd doc dV kV ho hd hcd hD hmg hg args vals as hpre hlay hrd hwl hlo
  obtain rfl : dV = .none := Dflts.none hD hdf
  obtain rfl : kV = .none := Dflts.noKw hD
  obtain ⟨a, vs, ns, rfl, rfl, hobj, hints, hlen⟩ := script_of hn hpre hwl
  refine enter_call (codeAny_mono (call w s₀ s₁ mg mb fa o pm cd doc a vs ns G Y ho (fd_plain hd) hcd hmg hobj hints hlen hg) fun r s' hq => ?_)
  obtain ⟨rfl, h2, h3, h4⟩ := hq
  exact ⟨.inl ⟨.bool true, .bool true, [], rfl, fun _ => rfl, .bool true, post_true l _, fun _ => ⟨List.Pairwise.nil, fun _ hm => (nomatch hm)⟩⟩, h2, h3, h4⟩


section
variable {prog : Program} {w : World} {A : Around} {E : Value → Shared → Prop} {s : Shared} {K : Frag}


end
end Att

namespace L2
open PySem PySem.Spec PyProof.Rows

theorem vals_ints : ∀ {vs : List Value} {ns : List Int}, IntsAre vs ns → Vals (ns.map V.int) vs
  | _, _, .nil => .nil
  | _, _, .cons n t h => .cons ⟨t, rfl⟩ (vals_ints h)


def Only (H : Hp) : Prop := ∀ b, H b = none ∨ ∃ o xs, H b = some (.frz o (.lst xs))


theorem law_call {P : Program} {w : World} {K : PySem.W.Frag} {mg mb : Str → Option Value} {CX : CXT} {k : Nat} {fa a : Addr} {fd : FuncData} {x : Str} {sp : Sp} {s₁ : Shared} {vs : List Value} {ns : List Int}
    (KX : K.In s₁.heap) (hns : s₁.heap.Ns mainGlobals mg) (hb : s₁.heap.Ns builtinsNs mb) (hbb : ∀ x : Str, x ≠ "__name__" → mb x = bootBuiltins x) (hlim : s₁.heap.NoLimit) (hg : s₁.gens = #[])
    (ha : s₁.heap.get? a = some { cls := .type "list", data := .seq vs.toArray }) (hi : IntsAre vs ns) (hl : ns.length ≤ sizeLine) (hr : Room k callerA)
    (F : ∀ base : Heap, K.In base → base.Ns mainGlobals mg → FnOk P w K mg base CX k fa fd [x] sp) (hbind : ∀ (s : Shared) (u : Value), BindsTo s fd ⟨[u], []⟩ [(x, u)])
    (hsp : ∀ H : Hp, Only H → SqL K H a (ns.map V.int) → sp [.ref a] H (fun v _ => v = .bl true) fun _ _ _ => False)
    (hCX : ∀ H e s', CX [] H s₁ (fun _ _ _ => False) e s' → False) :
    codeAny (model P w) callerA (.call (.ref fa) ⟨[.ref a], []⟩) (fun r s' => r = .ok (.ret (.bool true)) ∧ OldK s₁.heap s'.heap ∧ s'.os = s₁.os ∧ AllBare s'.gens) s₁ := by
  have rv := vals_ints hi
  have lenV := hi.length
  -- from an abstract heap in which nothing but the script may be tracked
  have core : ∀ H : Hp, Only H → SqL K H a (ns.map V.int) → HOk P w H s₁.heap → (∀ b, H b ≠ none → b = a) → (H a ≠ none → K.lookup a = none) →
      codeAny (model P w) callerA (.call (.ref fa) ⟨[.ref a], []⟩) (fun r s' => r = .ok (.ret (.bool true)) ∧ OldK s₁.heap s'.heap ∧ s'.os = s₁.os ∧ AllBare s'.gens) s₁ := by
    intro H hO hS hok hA hK
    have base_of : ∀ {b : Addr} {o : Obj}, s₁.heap.get? b = some o → H b = none → (hidT s₁.heap H).get? b = some o := fun e n => hidT_get e n
    have noA : ∀ {b : Addr} {o : Obj} {es : Array DictEntry} {ep : Nat}, s₁.heap.get? b = some o → o.data = .dict es ep → H b = none := fun {b o es ep} e d => by
      cases q : H b with
      | none => rfl
      | some u =>
        have e' : b = a := hA b (by rw [q]; simp)
        subst e'
        rw [ha] at e; cases e
        have d' : Data.seq vs.toArray _ = Data.dict es ep := d
        cases d'
    have nsK : ∀ {b : Addr} {m : Str → Option Value}, s₁.heap.Ns b m → (hidT s₁.heap H).Ns b m := fun {b m} ⟨o, es, ep, e, d, r⟩ => ⟨o, es, ep, base_of e (noA e d), d, r⟩
    have hKb : K.In (hidT s₁.heap H) := fun b o e => base_of (KX b o e) (by
      cases q : H b with
      | none => rfl
      | some u =>
        have e' : b = a := hA b (by rw [q]; simp)
        subst e'
        rw [hK (by rw [q]; simp)] at e; cases e)
    have hM : Mod K mg (hidT s₁.heap H) := ⟨hKb, nsK hns, ⟨mb, nsK hb, hbb⟩, let ⟨mc, h1, h2⟩ := hlim; ⟨mc, nsK h1, h2⟩⟩
    have e0 : Env0 P w K mg (hidT s₁.heap H) callerA [] s₁ H := ⟨rfl, hM, fun b o e => of_hidT e, Nat.le_of_eq (hidT_size _ _), trivial, fun b hb => absurd (show b ∈ ([] : List Addr) from hb) (by simp), hok, .of_eq hg⟩
    refine codeAny_mono ((F _ hKb (nsK hns)).run callerA [] s₁ H ⟨[.ref a], []⟩ [.ref a] [.ref a] _ _ hr e0 (hbind s₁ (.ref a)) (.cons rfl .nil) (hsp H hO hS)) fun r s' h => ?_
    cases r with
    | error e => exact (hCX H e s' h).elim
    | ok fl =>
      cases fl with
      | next => exact False.elim h
      | brk => exact False.elim h
      | cont => exact False.elim h
      | ret u =>
        obtain ⟨v, H', os, bare, un, hok', r', q⟩ := h
        have q' : v = .bl true := q
        subst q'
        obtain rfl : u = Value.bool true := r'
        refine ⟨rfl, OldK.of_keep fun b o e => ?_, os, bare⟩
        cases q : H b with
        | none => exact un.keep b o e q (by intro z; exact absurd (show b ∈ ([] : List Addr) from z) (by simp)) (by simp)
        | some u =>
          rcases hO b with z | ⟨ob, xs, z⟩
          · rw [q] at z; cases z
          · have z2 := un.frzs b ob _ z
            obtain ⟨e1, _⟩ := hok b _ z
            obtain ⟨e2, _⟩ := hok' b _ z2
            rw [e] at e1; cases e1
            exact e2
  cases hk : K.lookup a with
  | some o =>
    -- the script is one of the module's own objects
    have e := KX a o hk
    rw [ha] at e
    cases e
    refine core (fun _ => none) (fun _ => .inl rfl) (.inr ⟨_, vs.toArray, _, hk, rfl, rfl, rfl, by rw [List.size_toArray, lenV]; exact hl, by simpa using rv⟩) (fun b u z => by have z' : (none : Option HO) = some u := z; cases z') (fun b z => absurd rfl z) fun z => absurd rfl z
  | none =>
    refine core (fun b => if b = a then some (.frz { cls := .type "list", data := .seq vs.toArray } (.lst (ns.map V.int))) else none) (fun b => ?_) (.inl (.inr ⟨{ cls := .type "list", data := .seq vs.toArray }, if_pos rfl⟩)) (fun b u z => ?_) (fun b z => ?_) fun _ => hk
    · by_cases hb : b = a
      · exact .inr ⟨_, _, if_pos hb⟩
      · exact .inl (if_neg hb)
    · by_cases hb : b = a
      · have z' := (if_pos hb).symm.trans z
        cases z'
        subst hb
        exact ⟨ha, by rw [List.length_map]; exact hl, vs, _, rv, ha⟩
      · have z' := (if_neg hb).symm.trans z
        cases z'
    · by_cases hb : b = a
      · exact hb
      · exact absurd (if_neg hb) z
end L2

namespace L2
open PySem PySem.Spec PyProof.Rows

theorem walk_of {l : PySem.W.OpenLaw} {n k : Nat} {q : Program} {loose : List Str} {XP : (Str → Option Value) → Heap → Prop} {YP : World → Heap → Prop} {d : DefRec} {K : Params → PySem.W.Frag} {CX : World → CXT} {sp : World → Sp} {x : Str}
    (hn : l.most = some n) (hn2 : n ≤ sizeLine) (hdf : d.params.defaults = []) (hr : Room k callerA)
    (hY : ∀ (w : World) (h : Heap), YP w h → (K w.params).In h)
    (F : ∀ (w : World) (mg : Str → Option Value) (fa : Addr) (h : Heap), (K w.params).In h → h.Ns mainGlobals mg → mg d.name = some (.ref fa) →
      ∃ fd : FuncData, (∀ (s : Shared) (u : Value), BindsTo s fd ⟨[u], []⟩ [(x, u)]) ∧
        ∀ base : Heap, (K w.params).In base → base.Ns mainGlobals mg → FnOk l.prog w (K w.params) mg base (CX w) k fa fd [x] (sp w))
    (hsp : ∀ (w : World) (H : Hp) (a : Addr) (ns : List Int), ns.length ≤ n → Only H → SqL (K w.params) H a (ns.map V.int) → sp w [.ref a] H (fun v _ => v = .bl true) fun _ _ _ => False)
    (hCX : ∀ (w : World) (H : Hp) (s : Shared) (e : Value) (s' : Shared), CX w [] H s (fun _ _ _ => False) e s' → False) :
    PySem.W.WalkO q loose XP YP l.row.toRowW d [] (fun f vs => PySem.call f vs) := by
  refine Att.attach_call hn hdf fun w s₀ s₁ mg mb fa o pm cd doc a vs ns G Y ho hd hcd hmg hobj hints hlen hg => ?_
  have KX := hY w _ Y
  obtain ⟨fd, hb, hF⟩ := F w mg fa _ KX G.T.g hmg
  exact law_call KX G.T.g G.T.b G.T.builtins G.T.nolimit hg hobj hints (Nat.le_trans hlen hn2) hr hF hb (fun H hO hS => hsp w H a ns hlen hO hS) fun H e s' => hCX w H s₁ e s'

end L2




namespace L2
open PySem PySem.Spec PyProof.Rows



def defArgs (s : Stmt) : Arguments := match s with
  | .FunctionDef _ a _ _ _ _ _ _ _ _ => a
  | _ => { posonlyargs := [], args := [], vararg := none, kwonlyargs := [], kw_defaults := [], kwarg := none, defaults := [] }
def defBody (s : Stmt) : List Stmt := match s with
  | .FunctionDef _ _ b _ _ _ _ _ _ _ => b
  | _ => []
def defScope (s : Stmt) : Scope := match s with
  | .FunctionDef _ _ _ _ _ _ sc _ _ _ => sc
  | _ => { kind := .function, names := [], isGenerator := false, isCoroutine := false }


abbrev CX0 : CXT := fun _ _ _ _ _ _ => False
abbrev E0 : XK := fun _ _ _ => False
structure Fun (K : PySem.W.Frag) (x qual : Str) (st : Stmt) (f : Addr) (fd : FuncData) : Prop where
  ex : ∃ (oc : Value) (od : Option Addr) (kV doc pm : Value) (an : Option Addr) (cdv ct : Value) (osl : Array (Option Value)),
    fd = PySem.W.fnOf x qual (defArgs st) (defBody st) (defScope st) .none kV doc pm an cdv ct ∧ K.lookup f = some ⟨oc, od, .func fd, osl⟩ ∧ PySem.W.codeIn K cdv qual = true
  kp : PySem.W.keepIn K (.ref f) = true
section
variable {P : Program} {w : World} {K : PySem.W.Frag} {mg : Str → Option Value} {base : Heap}

theorem Fun.ok {x qual : Str} {st : Stmt} {f : Addr} {fd : FuncData} {N ps : List Str} {k : Nat} {sp : Sp} (F : Fun K x qual st f fd) (S : FnScope N ps (defScope st)) (len : ∀ vs H Q E, sp vs H Q E → vs.length = ps.length)
    (hbody : ∀ (cdv : Value) (A : Around) (outer : List Env) (s : Shared) (H : Hp) (vs : List V) (Q : VK) (E : XK), Room k (A.deeper (envOfC qual (defScope st) s.heap.objs.size f cdv)) → sp vs H Q E →
      ∃ t, PSs (cxOf CX0 P w K mg base N qual (defScope st) f cdv A outer s H E).nox (defBody st) t ∧ t { nx := fun _ H' => Q .non H', rt := Q } (start N vs) H) : FnOk P w K mg base CX0 (k + 1) f fd ps sp := by
  obtain ⟨oc, od, kV, doc, pm, an, cdv, ct, osl, rfl, lk, hcd⟩ := F.ex
  refine fn_of lk hcd S len fun A outer s H vs Q E hr hsp => ?_
  obtain ⟨t, h, q⟩ := hbody cdv A outer s H vs Q E hr hsp
  exact ⟨t, h.nox, q⟩

theorem Fun.binds {x qual : Str} {st : Stmt} {f : Addr} {fd : FuncData} {ps : List Str} (F : Fun K x qual st f fd)
    (h : ∀ (kV doc pm : Value) (an : Option Addr) (cdv ct : Value) (us : List Value), us.length = ps.length → bindArgs (PySem.W.fnOf x qual (defArgs st) (defBody st) (defScope st) .none kV doc pm an cdv ct) ⟨us, []⟩ = pure (ps.zip us)) : Binds K fd ps [] := by
  obtain ⟨oc, od, kV, doc, pm, an, cdv, ct, osl, rfl, lk, hcd⟩ := F.ex
  exact .all (h kV doc pm an cdv ct)
theorem fun_mk {x qual : Str} {st : Stmt} {f : Addr} {oc : Value} {od an : Option Addr} {osl : Array (Option Value)} {kV doc pm cdv ct : Value} (l : K.lookup f = some ⟨oc, od, .func (PySem.W.fnOf x qual (defArgs st) (defBody st) (defScope st) .none kV doc pm an cdv ct), osl⟩)
    (c : PySem.W.codeIn K cdv qual = true) (k : PySem.W.keepIn K (.ref f) = true) : Fun K x qual st f (PySem.W.fnOf x qual (defArgs st) (defBody st) (defScope st) .none kV doc pm an cdv ct) := ⟨⟨oc, od, kV, doc, pm, an, cdv, ct, osl, rfl, l, c⟩, k⟩
end
theorem hu_of {A : Around} {k : Nat} (hr : Room k A) : A.units + 1 < cLine := Nat.lt_of_le_of_lt (Nat.add_le_add_left (by decide : 1 ≤ 64) _) hr.units
section
variable {X : Cx}
theorem pv (i : Nat) {x : Str} {pos : Pos} (hN : X.N[i]? = some x := by rfl) (hv : Vis X.env.scope x := by first | exact Or.inl rfl | exact Or.inr (Or.inl rfl) | exact Or.inr (Or.inr rfl)) (hd : (x == ("__debug__" : Str)) = false := by decide)
    (hcd : (x == ("__classdict__" : Str)) = false := by decide) : PE X (.Name x pos) (tVar i) := pe_var hN hv hd hcd
end


theorem iteT {A B : Prop} (h : A) : if true = true then A else B := by
  rw [if_pos rfl]
  exact h
theorem ite2 {c A B : Prop} [Decidable c] (h1 : c → A) (h2 : ¬ c → B) : if c then A else B := by
  by_cases h : c
  · rw [if_pos h]
    exact h1 h
  · rw [if_neg h]
    exact h2 h
def Same (H H' : Hp) : Prop := ∀ b o, H b = some o → H' b = some o
theorem Same.refl (H : Hp) : Same H H := fun _ _ h => h
theorem Same.trans {H H1 H2 : Hp} (a : Same H H1) (b : Same H1 H2) : Same H H2 := fun c o h => b c o (a c o h)
theorem Same.free {H H' : Hp} (e : Same H H') {l : Addr} (h : H' l = Option.none) : H l = Option.none := by
  cases q : H l with
  | none => rfl
  | some o =>
    rw [e l o q] at h
    cases h
theorem Same.seq {K : PySem.W.Frag} {H H' : Hp} {a : Addr} {xs : List V} (e : Same H H') (h : SqL K H a xs) : SqL K H' a xs := by
  rcases h with (h | ⟨o, h⟩) | h
  · exact .inl (.inl (e _ _ h))
  · exact .inl (.inr ⟨o, e _ _ h⟩)
  · exact .inr h

end L2


set_option Elab.async false
set_option linter.all false
set_option maxRecDepth 100000
set_option maxHeartbeats 1000000
namespace L2
open PySem PySem.Spec PyProof.Rows


theorem closure_in {env : Env} : ∀ (names : List (Str × NameKind)) (cs0 : List (Str × Addr)), (∀ y ∈ names, y.2 = .free → ∃ c, env.cells.lookup y.1 = some c) →
    ∃ cl, (forIn names cs0 (fun (x : Str × NameKind) r => (do
      match x with
      | (name, kind) => if (kind == NameKind.free) = true then do let a ← cellOf env name; pure (ForInStep.yield ((name, a) :: r)) else pure (ForInStep.yield r)) : _ → _ → Sem (ForInStep (List (Str × Addr))))) = pure cl ∧
      (∀ p ∈ cl, p ∈ cs0 ∨ env.cells.lookup p.1 = some p.2) ∧ (∀ p ∈ cs0, p ∈ cl) ∧ (∀ y ∈ names, y.2 = .free → ∃ c, (y.1, c) ∈ cl)
  | [], cs0, _ => ⟨cs0, rfl, fun p h => .inl h, fun p h => h, fun y h => by cases h⟩
  | (n, k) :: r, cs0, h => by
    by_cases hk : k = .free
    · subst hk
      obtain ⟨c, hc⟩ := h (n, .free) (.head _) rfl
      obtain ⟨cl, e, h1, h2, h3⟩ := closure_in r ((n, c) :: cs0) fun y hy => h y (.tail _ hy)
      refine ⟨cl, ?_, fun p hp => ?_, fun p hp => h2 p (.tail _ hp), fun y hy hf => ?_⟩
      · rw [List.forIn_cons]
        have e1 : cellOf env n = pure c := by unfold cellOf; rw [hc]
        simp only [beq_self_eq_true, if_true, e1, pure_bind]
        exact e
      · rcases h1 p hp with q | q
        · rcases List.mem_cons.mp q with q | q
          · subst q; exact .inr hc
          · exact .inl q
        · exact .inr q
      · rcases List.mem_cons.mp hy with q | q
        · subst q; exact ⟨c, h2 _ (.head _)⟩
        · exact h3 y q hf
    · obtain ⟨cl, e, h1, h2, h3⟩ := closure_in r cs0 fun y hy => h y (.tail _ hy)
      refine ⟨cl, ?_, h1, h2, fun y hy hf => ?_⟩
      · rw [List.forIn_cons]
        have e1 : (k == NameKind.free) = false := by cases k <;> first | rfl | exact absurd rfl hk
        simp only [e1, Bool.false_eq_true, if_false, pure_bind]
        exact e
      · rcases List.mem_cons.mp hy with q | q
        · subst q; exact absurd hf hk
        · exact h3 y q hf
theorem lookup_relabel_inv {env : Env} : ∀ {names : List (Str × NameKind)} {x : Str} {k : NameKind}, (names.map fun (n, k) => if (k == NameKind.free && env.scope.kind == .function && env.kindOf n == some .cell) then (n, NameKind.cell) else (n, k)).lookup x = some k →
    ∃ k', names.lookup x = some k' ∧ (k = k' ∨ (k' = .free ∧ k = .cell))
  | [], _, _, h => by simp at h
  | (n, k0) :: r, x, k, h => by
    by_cases hx : x = n
    · subst hx
      refine ⟨k0, by simp, ?_⟩
      simp only [List.map_cons] at h
      split at h
      · rename_i hc
        simp only [Bool.and_eq_true, beq_iff_eq] at hc
        simp only [List.lookup_cons_self, Option.some.injEq] at h
        exact .inr ⟨hc.1.1, h.symm⟩
      · simp only [List.lookup_cons_self, Option.some.injEq] at h
        exact .inl h.symm
    · have hb : (x == n) = false := by simpa using hx
      simp only [List.map_cons] at h
      have e2 : ∀ k1, ((n, k1) :: r).lookup x = r.lookup x := fun k1 => by simp [List.lookup_cons, hb]
      split at h <;> (simp only [List.lookup_cons, hb] at h; obtain ⟨k', h1, h2⟩ := lookup_relabel_inv h; exact ⟨k', by rw [e2]; exact h1, h2⟩)


def compCx (X : Cx) (Nc : List Str) (scope : Scope) (cl : List (Str × Addr)) (C : Addr) (s2 : Shared) (H2 : Hp) (fp : List Addr) : Cx where
  prog := X.prog
  w := X.w
  K := X.K
  mg := X.mg
  base := X.base
  A := X.A
  N := Nc
  s₀ := s2
  H₀ := H2
  env := compEnvC scope cl C X.env
  outer := X.stack
  stack := X.stack
  ex := fp
  fn := fun _ => false
  calm := X.calm
  pn := []
  xe := fun _ _ => False

def iniC (js : List (Option Nat)) (σ : St) : St := js.map fun j => match j with
  | none => none
  | some i => (σ[i]?).join

def takesC (N Nc : List Str) (scope : Scope) : List (Option Nat) → Nat → Bool
  | [], i => i == Nc.length
  | none :: r, i => takesC N Nc scope r (i + 1)
  | some j :: r, i => (match Nc[i]?, N[j]? with
    | some x, some y => x == y && scope.names.lookup x == some .free
    | _, _ => false) && takesC N Nc scope r (i + 1)
theorem takesC_len {N Nc : List Str} {scope : Scope} : ∀ {js : List (Option Nat)} {i : Nat}, takesC N Nc scope js i = true → i + js.length = Nc.length
  | [], i, h => by simpa [takesC] using h
  | none :: r, i, h => by
    have := takesC_len (js := r) (i := i + 1) (by simpa [takesC] using h)
    simp only [List.length_cons]; omega
  | some j :: r, i, h => by
    simp only [takesC, Bool.and_eq_true] at h
    have := takesC_len (js := r) (i := i + 1) h.2
    simp only [List.length_cons]; omega
theorem takesC_at {N Nc : List Str} {scope : Scope} : ∀ {js : List (Option Nat)} {i k j : Nat}, takesC N Nc scope js i = true → js[k]? = some (some j) → ∃ x, Nc[i + k]? = some x ∧ N[j]? = some x ∧ scope.names.lookup x = some .free
  | [], i, k, j, h, e => by simp at e
  | none :: r, i, 0, j, h, e => by simp at e
  | none :: r, i, k + 1, j, h, e => by
    obtain ⟨x, h1, h2, h3⟩ := takesC_at (js := r) (i := i + 1) (k := k) (j := j) (by simpa [takesC] using h) (by simpa using e)
    exact ⟨x, by rw [← h1]; congr 1; omega, h2, h3⟩
  | some j0 :: r, i, 0, j, h, e => by
    simp only [takesC, Bool.and_eq_true] at h
    simp only [List.getElem?_cons_zero, Option.some.injEq] at e
    subst e
    cases e1 : Nc[i]? with
    | none => rw [e1] at h; simp at h
    | some x =>
      cases e2 : N[j0]? with
      | none => rw [e1, e2] at h; simp at h
      | some y =>
        rw [e1, e2] at h
        simp only [Bool.and_eq_true, beq_iff_eq] at h
        exact ⟨x, by simpa using e1, by rw [h.1.1], h.1.2⟩
  | some j0 :: r, i, k + 1, j, h, e => by
    simp only [takesC, Bool.and_eq_true] at h
    obtain ⟨x, h1, h2, h3⟩ := takesC_at (js := r) (i := i + 1) (k := k) (j := j) h.2 (by simpa using e)
    exact ⟨x, by rw [← h1]; congr 1; omega, h2, h3⟩

section
variable {X : Cx}
theorem lookup_mem {names : List (Str × NameKind)} {x : Str} {k : NameKind} (h : names.lookup x = some k) : (x, k) ∈ names := PySem.mem_of_lookup h


theorem codeAny_compLoop_all {prog : Program} {w : World} {A : Around} {R : Result → Shared → Prop} {s : Shared} {elt target iter : Expr} {ifs : List Expr} {scope : Scope} {pos : Pos} {it acc : Value} {env : Env} (I : Nat → Shared → Prop)
    (turn : ∀ n s, I n s → wpAny (model prog w) A (pyNext it) (fun r s₁ => match r with
      | none => R (.ok .next) s₁
      | some v => wpAny (model prog w) A (letOwnedTupleGo target it v) (fun _ s₁ => wpAny (model prog w) A (assign target env v) (fun _ s₂ =>
          wpAny (model prog w) A (forIn ifs true fun c r => if r = true then do let ok ← isTrue c env (eval c env); pure (ForInStep.yield ok) else pure (ForInStep.yield r)) (fun ok s₃ =>
            if ok = true then wpAny (model prog w) A (eval elt env) (fun x s₄ =>
              wpAny (model prog w) A (call (.builtin "list.append") [acc, x]) (fun _ s₅ => ∃ m, m < n ∧ I m s₅) (fun _ _ => False) s₄) (fun _ _ => False) s₃
            else ∃ m, m < n ∧ I m s₃) (fun _ _ => False) s₂) (fun _ _ => False) s₁) (fun _ _ => False) s₁) (fun _ _ => False) s)
    (n : Nat) (h : I n s) :
    codeAny (model prog w) A (.compLoop (.ListComp elt [⟨target, iter, ifs, 0⟩] scope pos) 0 it acc env) R s := by
  refine codeAny_loop rfl I (fun n s hI => ?_) n h
  show wpAny _ A ((compTurn (.ListComp elt [⟨target, iter, ifs, 0⟩] scope pos) 0 it acc env).onRaise (fun x => do noteFrame x env; theTreesLotGoes x)) _ _ s
  refine wpAny_noted ?_
  rw [compTurn_list]
  refine wpAny_bind (wpAny_standAt (wpAny_bind (wpAny_mono (turn n s hI) (fun r s₁ h₁ => ?_) fun _ _ h' => h'.elim)))
  cases r with
  | none => exact wpAny_pure h₁
  | some v =>
    refine wpAny_bind (wpAny_mono h₁ (fun _ s₁' h₁ => ?_) fun _ _ h' => h'.elim)
    refine wpAny_bind (wpAny_mono h₁ (fun _ s₂ h₂ => wpAny_bind (wpAny_mono h₂ (fun ok s₃ h₃ => ?_) fun _ _ h' => h'.elim)) fun _ _ h' => h'.elim)
    cases ok with
    | false => exact wpAny_pure ⟨rfl, h₃⟩
    | true =>
      exact wpAny_bind (wpAny_bind (wpAny_mono h₃ (fun x s₄ h₄ => wpAny_bind (wpAny_mono h₄ (fun _ s₅ h₅ => wpAny_pure (wpAny_pure ⟨rfl, h₅⟩)) fun _ _ h' => h'.elim)) fun _ _ h' => h'.elim))


def PIfs (X : Cx) (ifs : List Expr) (t : TT) : Prop :=
  ∀ (pins : List (Addr × Obj)) (s : Shared) (σ : St) (H : Hp) (Q : Bool → Hp → Prop), Inv X pins σ H s → t σ H Q →
    wpAny (model X.prog X.w) X.A (forIn ifs true fun c r => if r = true then do let ok ← isTrue c X.env (eval c X.env); pure (ForInStep.yield ok) else pure (ForInStep.yield r)) (TP X pins σ Q) X.xe s
def tYes : TT := fun _ H Q => Q true H
theorem pifs_nil : PIfs X [] tYes := fun pins s σ H Q I h => wpAny_tests_nil ⟨H, I, h⟩
theorem pifs_one {c : Expr} {t : TT} (h : PT X c t) : PIfs X [c] t := fun pins s σ H Q I hq => wpAny_tests_one (h pins s σ H Q I hq)


def KeepOn (L : List Nat) (σ σ' : St) : Prop := σ'.length = σ.length ∧ ∀ k, k ∉ L → σ'[k]? = σ[k]?
def OnlyG (g : TG) (L : List Nat) : Prop := ∀ v σ H (Q Q' : St → Hp → Prop), (∀ σ' H', KeepOn L σ σ' → Q σ' H' → Q' σ' H') → g v σ H Q → g v σ H Q'
def OnlyGs (g : TGs) (L : List Nat) : Prop := ∀ v σ H (Q Q' : St → Hp → Prop), (∀ σ' H', KeepOn L σ σ' → Q σ' H' → Q' σ' H') → g v σ H Q → g v σ H Q'
theorem KeepOn.refl {L : List Nat} {σ : St} : KeepOn L σ σ := ⟨rfl, fun _ _ => rfl⟩
theorem KeepOn.trans {L L' : List Nat} {a b c : St} (x : KeepOn L a b) (y : KeepOn L' b c) : KeepOn (L ++ L') a c :=
  ⟨y.1.trans x.1, fun k hk => (y.2 k fun z => hk (List.mem_append_right _ z)).trans (x.2 k fun z => hk (List.mem_append_left _ z))⟩
theorem only_name {i : Nat} : OnlyG (gName i) [i] := fun v σ H Q Q' hq h => hq _ _ ⟨by simp, fun k hk => by
  rw [List.getElem?_set_ne]
  intro z; subst z; exact hk (by simp)⟩ h
theorem only_nil : OnlyGs gNil [] := fun v σ H Q Q' hq h => ⟨h.1, hq _ _ KeepOn.refl h.2⟩
theorem only_cons {t : TG} {u : TGs} {L L' : List Nat} (h1 : OnlyG t L) (h2 : OnlyGs u L') : OnlyGs (gCons t u) (L ++ L') := fun v σ H Q Q' hq h => by
  obtain ⟨x, r, e, h⟩ := h
  exact ⟨x, r, e, h1 _ _ _ _ _ (fun σ' H' k1 q => h2 _ _ _ _ _ (fun σ2 H2 k2 q2 => hq _ _ (k1.trans k2) q2) q) h⟩
theorem only_tup {K : PySem.W.Frag} {n : Nat} {t : TGs} {L : List Nat} (h : OnlyGs t L) : OnlyG (gTup K n t) L := fun v σ H Q Q' hq q => by
  obtain ⟨a, xs, e1, e2, e3, q⟩ := q
  exact ⟨a, xs, e1, e2, e3, h _ _ _ _ _ hq q⟩


def tComp (wi : TI) (g : TG) (tt : TT) (te : TE) (js : List (Option Nat)) : TE := fun σ H Q => wi σ H fun J H1 => ∃ W : Nat → Nat → List V → Hp → Prop, (∃ m, W 0 m [] H1) ∧ ∀ i m acc H, W i m acc H →
  (J.stop i H ∧ acc.length ≤ sizeLine ∧ ∀ p, H p = none → Q (.ref p) (upd H p (.lst acc))) ∨
  (J.go i H ∧ acc.length < sizeLine ∧ ∀ x H', J.yld i H x H' → g x (iniC js σ) H' fun σ2 H2 => tt σ2 H2 fun b H3 => if b = true then te σ2 H3 fun v H4 => ∃ m', m' < m ∧ W (i + 1) m' (acc ++ [v]) H4 else ∃ m', m' < m ∧ W (i + 1) m' acc H3)


theorem sameBut_refl {C : Addr} {h : Heap} : Heap.SameBut C h h := by
  first | exact Heap.SameBut.refl | exact ⟨rfl, fun _ _ => rfl⟩

end
end L2


set_option Elab.async false
set_option linter.all false
set_option maxRecDepth 100000
set_option maxHeartbeats 1000000
namespace L2
open PySem PySem.Spec PyProof.Rows PySem.W PySem.Builtin.ObjectAttr PySem.Builtin.Getset_descriptor


def ExAt (x C : Addr) (h : Heap) : Prop := ∃ o, h.get? x = some o ∧ o.cls = .ref C

structure ExK (K : Frag) (C : Addr) : Prop where
  dk : hasDictIn K C = true
  ga : findIn K (.ref C) "__getattribute__" = some (some (.builtin "BaseException.__getattribute__"))
  gt : findIn K (.ref C) "__getattr__" = some none
  cl : findIn K (.ref C) "__class__" = some (some (.builtin "object.__class__"))
  gg : specialIn K (.builtin "object.__class__") "__get__" = some (some (.builtin "getset_descriptor.__get__"))
  tk : takesIn K (.builtin "object.__class__") = some true
  mo : mroIn K C (.type "object") = some true
  mb : mroIn K C (.type "BaseException") = some true
section
variable {K : Frag} {x C : Addr}
theorem ExAt.type {M : Model} {h : Heap} (I : ExAt x C h) : Looks M h (typeOf (.ref x)) (.ref C) := by
  obtain ⟨o, e, c⟩ := I
  exact c ▸ (Looks.ld e).andThen .now
theorem exa_find {M : Model} {h : Heap} (X : K.In h) (Z : ExK K C) : Looks M h (find (.ref x) (.ref C) "__class__") (.bind (.builtin "getset_descriptor.__get__") (.builtin "object.__class__")) := by
  have L3 := looks_takesIn (M := M) X Z.tk
  exact (looks_findIn (M := M) X Z.cl).andThen ((looks_specialIn X Z.gg).andThen
    ((show Looks M h (dataDescriptor? (some (.builtin "object.__class__")) (some (.builtin "getset_descriptor.__get__"))) (some (.builtin "getset_descriptor.__get__", .builtin "object.__class__")) from L3.andThen .now).andThen (Looks.tag .now)))
theorem exa_get {prog : Program} {w : World} {A : Around} {R : Result → Shared → Prop} {s : Shared} {tp : Value} (X : K.In s.heap) (I : ExAt x C s.heap) (Z : ExK K C) (hR : R (.ok (.ret (.ref C))) s) :
    codeAny (model prog w) A (.call (.builtin "getset_descriptor.__get__") ⟨[.builtin "object.__class__", .ref x, tp], []⟩) R s := by
  obtain ⟨hp, gn, dw, tk, os⟩ := s
  have L0 := I.type (M := model prog w)
  have L1 := looks_mroIn (M := model prog w) X Z.mo
  refine codeAny_call_builtin KF.slot_gs.plain KF.entry_gs (KF.slot_gs.check _ _ _ _ _ _ _ _ KF.type_class (KF.args_gs _ _ _) ?_)
  unfold Builtin.«getset_descriptor.__get__» descrGet; rw [dga_obj]; refine wpAny_bind (wpAny_pure ?_)
  unfold descrGetter descrCheckInstance descrNameAndClass isInstance; simp only [KF.owner_class]
  repeat lk
  refine ⟨Code.quiet_builtin _ (by decide +kernel), codeAny_builtin KF.entry_class ?_⟩; unfold Builtin.«object.__class__» shownTypeOf
  repeat lk
  exact hR
theorem exa_entry {prog : Program} {w : World} {A : Around} {E : Value → Shared → Prop} {s : Shared} {tk : Tok} {Q : Fin → Shared → Prop} (X : K.In s.heap) (I : ExAt x C s.heap) (Z : ExK K C) (hQ : Q (.done (.ret (.ref C))) s) :
    wpAny (model prog w) A (Builtin.«object.__getattribute__» ⟨[.ref x, .str "__class__" tk], []⟩) Q E s := by
  obtain ⟨hp, gn, dw, t, os⟩ := s
  have L0 := I.type (M := model prog w)
  have L2 := exa_find (M := model prog w) (x := x) X Z
  unfold Builtin.«object.__getattribute__»
  refine wpAny_bind (wpAny_pure (wpAny_bind (wpAny_pure (wpAny_bind (L0.at (wpAny_bind (L2.at ?_)))))))
  show wpAny _ _ (holding _ (call _ _) >>= ret) _ _ _
  exact wpAny_bind (wpAny_holding (wpAny_call (exa_get (s := ⟨hp, gn, dw, t, os⟩) X I Z (wpAny_pure hQ))))
theorem exa_check {M : Model} {A : Around} {E : Value → Shared → Prop} {s : Shared} {nameV : Value} {Q : Unit → Shared → Prop} (X : K.In s.heap) (I : ExAt x C s.heap) (Z : ExK K C) (hq : Q () s) :
    wpAny M A (checkBuiltinCall "BaseException.__getattribute__" ⟨[.ref x, nameV], []⟩) Q E s := by
  obtain ⟨hp, gn, dw, t, os⟩ := s
  have hk : builtinKind "BaseException.__getattribute__" = some .slot := by decide +kernel
  have hsplit : splitId "BaseException.__getattribute__" = some ("BaseException", "__getattribute__") := by decide +kernel
  have L0 := I.type (M := M)
  have L1 := looks_mroIn (M := M) X Z.mb
  have ha := F.args_bexc_ga (.ref x) nameV
  simp only [checkBuiltinCall, hk, hsplit]
  refine wpAny_bind ?_
  unfold isInstance
  refine wpAny_bind (L0.at (L1.at ?_))
  repeat (first | assumption | wp_step)
theorem exa_class {prog : Program} {w : World} {A : Around} {E : Value → Shared → Prop} {s : Shared} {Q : Option Value → Shared → Prop} (X : K.In s.heap) (I : ExAt x C s.heap) (Z : ExK K C) (hQ : Q (some (.ref C)) { s with toks := s.toks + 1 }) :
    wpAny (model prog w) A (getAttr? (.ref x) "__class__") Q E s := by
  obtain ⟨hp, gn, dw, tk, os⟩ := s
  have L0 := I.type (M := model prog w)
  have L1 := looks_findIn (M := model prog w) X Z.ga
  have L3 := looks_findIn (M := model prog w) X Z.gt
  have hb := (F.attrBase_ValueError.ga).bind (.ref x)
  unfold getAttr? getAttrBy? getAttrBy; refine wpAny_bind (wpAny_mkText (wpAny_bind (wpAny_attempt (wpAny_holding (wpAny_bind (L0.at (wpAny_bind (L1.at ?_))))))))
  show wpAny _ _ (getAttrByItsOwn _ _ _ _ _ _) _ _ _
  unfold getAttrByItsOwn hookBefore
  refine wpAny_bind (L3.at ?_)
  refine wpAny_bind (wpAny_attempt (wpAny_holding ?_))
  unfold callGetattribute
  show wpAny _ _ (boundAndCalled _ _ _) _ _ _
  unfold boundAndCalled
  rw [hb]
  refine wpAny_bind (wpAny_pure ?_)
  refine wpAny_call ?_
  refine codeAny_call_builtin F.attrBase_ValueError.ga.plain F.entry_bexc_ga (exa_check (s := ⟨hp, gn, dw, tk + 1, os⟩) X I Z (exa_entry (s := ⟨hp, gn, dw, tk + 1, os⟩) X I Z ?_))
  exact handed_on rfl (wpAny_pure hQ)
theorem exa_kit (Z : ExK K C) : KitX K (.ref x) (.ref C) (ExAt x C) where
  ty := fun _ _ _ I => I.type
  it := fun _ _ X _ => by
    obtain ⟨cdD, hcD, _⟩ := any_some Z.dk
    unfold clsIn at hcD
    split at hcD
    · rename_i c' d' cd' sl' ho
      intro A' Q' E' s' k q
      unfold isType loadHead; exact wpAny_bind (wpAny_loadPart (k _ _ (X _ _ ho)) (wpAny_pure q))
    · cases hcD
  ne := fun h tp dd its n sl X htp => by
    obtain ⟨cdD, hcD, _⟩ := any_some Z.dk
    refine Bool.eq_false_iff.mpr fun q => ?_
    have e : C = tp := Value.ref.inj (beq_iff_eq.mp q); subst e
    unfold clsIn at hcD
    split at hcD
    · rename_i c' d' cd' sl' ho
      have z := (X _ _ ho).symm.trans htp; cases z
    · cases hcD
  ca := fun X I k => exa_class X I Z k
end


def ExcO (e C : Addr) : HO := .ext (ExAt e C)

def tyIs (K : Frag) (H : Hp) (x : V) (c : Value) (b : Bool) : Prop :=
  (∃ t, TyOf K H x t ∧ kitOne K t c = some b) ∨ ∃ e C, x = .ref e ∧ H e = some (ExcO e C) ∧ ExK K C ∧ kitOne K (.ref C) c = some b

def cOf : V → Option Value
  | .ref a => some (.ref a)
  | .ty n => some (.type n)
  | _ => none
section
variable {X : Cx}
def rIsi (K : Frag) : List V → Hp → VK → Prop := fun xs H Q => ∃ x v c b, xs = [x, v] ∧ cOf v = some c ∧ tyIs K H x c b ∧ Q (.bl b) H
theorem call_isi : CallR X (.builtin "isinstance") (rIsi X.K) := by
  intro pins s σ H xs us Q I r h
  obtain ⟨x, v, c, b, rfl, hc, ht, q⟩ := h
  obtain ⟨u, u2, rfl, ru, ru2⟩ := r.two
  have e2 : u2 = c := by
    cases v with
    | ref a => have := (show u2 = Value.ref a from ru2); cases hc; exact this
    | ty n => have := (show u2 = Value.type n from ru2); cases hc; exact this
    | _ => cases hc
  subst e2
  have fin : ∀ tk, EP X pins σ Q (.bool b) { s with toks := tk } := fun tk => ⟨.bl b, H, I.tok tk, rfl, q⟩
  rcases ht with ⟨t, ty, e⟩ | ⟨e, C, rfl, hH, Z, e1⟩
  · exact isinst_ok I ru ty e fin
  · cases (show u = Value.ref e from ru)
    obtain ⟨p, _, _⟩ := (show ObjOk X.prog X.w H s.heap e (ExcO e C) from I.hok e _ hH)
    exact kia_one (exa_kit Z) I.kIn p e1 (fun z => nomatch z) fin
end
end L2


set_option Elab.async false
set_option linter.all false
set_option maxRecDepth 100000
set_option maxHeartbeats 1000000
namespace L2
open PySem PySem.Spec PyProof.Rows


theorem ObjOk.has {P : Program} {w : World} {H : Hp} {h : Heap} {a : Addr} {o : HO} (x : ObjOk P w H h a o) : ∃ u, h.get? a = some u := by
  induction o with
  | lst xs => obtain ⟨_, _, _, _, e⟩ := x; exact ⟨_, e⟩
  | tup xs => obtain ⟨_, _, _, o, e, _⟩ := x; exact ⟨_, e⟩
  | dK kvs => obtain ⟨_, _, _, _, o, _, _, e, _⟩ := x; exact ⟨_, e⟩
  | dT kvs => obtain ⟨_, _, _, _, o, _, _, e, _⟩ := x; exact ⟨_, e⟩
  | set S n => obtain ⟨o, _, _, _, e, _⟩ := x; exact ⟨_, e⟩
  | ins C dx fs => obtain ⟨_, _, _, e, _⟩ := x; exact ⟨_, e⟩
  | own y => exact x
  | xd fs => obtain ⟨_, ⟨_, _, _, e, _⟩, _⟩ := x; exact ⟨_, e⟩
  | rng lo hi => obtain ⟨_, _, _, e⟩ := x; exact ⟨_, e⟩
  | frz ob u _ => obtain ⟨e, _⟩ := x; exact ⟨_, e⟩
  | tbl ps => exact ⟨_, x⟩
  | met f y => exact ⟨_, x⟩
  | ext φ => obtain ⟨_, e, _⟩ := x; exact e


structure Fly (P : Program) (w : World) (outer : List Env) (H : Hp) (s : Shared) (H' : Hp) (B : Heap) (e : Addr) (C a0 : Value) (s' : Shared) : Prop where
  os : s'.os = s.os
  bare : AllBare s'.gens
  fly : Heap.FlyingW B outer e C a0 s'.heap
  hok : HOk P w H' B
  keep : ∀ b o, s.heap.get? b = some o → H b = none → b ∉ frs outer → B.get? b = some o
  slot : ∀ b o, s.heap.get? b = some o → b ∈ frs outer → (∀ vs, o.data ≠ .fields vs) → ∃ sl, s'.heap.get? b = some { o with slots := sl }
  free : ∀ b o, s.heap.get? b = some o → H b = none → H' b = none
  there : ∀ b o, s.heap.get? b = some o → b ∉ frs outer → ∃ o', B.get? b = some o'
  tups : ∀ b xs, H b = some (.tup xs) → H' b = some (.tup xs)
  frzs : ∀ b o u, H b = some (.frz o u) → H' b = some (.frz o u)
  tbls : ∀ b ps, H b = some (.tbl ps) → ∃ more, H' b = some (.tbl (ps ++ more))
def CXE (P : Program) (w : World) : CXT := fun outer H s E ev s' => ∃ e C a0 H' B, ev = .ref e ∧ Fly P w outer H s H' B e C a0 s' ∧ E C none H'
theorem passE {P : Program} {w : World} {X : Cx} : Passes (CXE P w) X E0 := fun _ _ _ _ _ _ _ ⟨_, _, _, _, _, _, _, z⟩ => z.elim

section
variable {P : Program} {w : World} {K : PySem.W.Frag} {mg : Str → Option Value} {base : Heap} {N : List Str} {qual : Str} {scope : Scope} {f : Addr} {cd : Value} {A : Around} {outer : List Env} {s : Shared} {H : Hp} {E : XK}

end


section
variable {X : Cx}
def tRaise (C : Addr) (E : XK) (t : TA) : TS := fun _ σ H => t σ H fun vs H1 => vs.length ≤ sizeLine ∧ E (.ref C) none H1
end
end L2


set_option Elab.async false
set_option linter.all false
set_option maxRecDepth 100000
set_option maxHeartbeats 1000000
namespace L2
open PySem PySem.Spec PyProof.Rows



section
variable {X : Cx}
def tCallX (sp : Sp) (E : St → XK) (t : TA) : TE := fun σ H Q => t σ H fun vs H1 => sp vs H1 Q (E σ)
end


section
variable {P : Program} {w : World} {K : PySem.W.Frag} {mg : Str → Option Value} {base : Heap}
theorem Fun.okX {x qual : Str} {st : Stmt} {f : Addr} {fd : FuncData} {N ps : List Str} {k : Nat} {sp : Sp} (F : Fun K x qual st f fd) (S : FnScope N ps (defScope st)) (len : ∀ vs H Q E, sp vs H Q E → vs.length = ps.length)
    (hbody : ∀ (cdv : Value) (A : Around) (outer : List Env) (s : Shared) (H : Hp) (vs : List V) (Q : VK) (E : XK), Room k (A.deeper (envOfC qual (defScope st) s.heap.objs.size f cdv)) → sp vs H Q E →
      ∃ t, PSs (cxOf (CXE P w) P w K mg base N qual (defScope st) f cdv A outer s H E) (defBody st) t ∧ t { nx := fun _ H' => Q .non H', rt := Q } (start N vs) H) : FnOk P w K mg base (CXE P w) (k + 1) f fd ps sp := by
  obtain ⟨oc, od, kV, doc, pm, an, cdv, ct, osl, rfl, lk, hcd⟩ := F.ex
  exact fn_of lk hcd S len fun A outer s H vs Q E hr hsp => hbody cdv A outer s H vs Q E hr hsp
end
end L2


set_option Elab.async false
set_option linter.all false
set_option maxRecDepth 100000
set_option maxHeartbeats 1000000
namespace L2
open PySem PySem.Spec PyProof.Rows PySem.W



theorem ints_of : ∀ {ns : List Int} {us : List Value}, Vals (ns.map V.int) us → ∃ xs : Array (Int × Tok), us.toArray = intItems xs ∧ xs.toList.map (·.1) = ns
  | [], _, .nil => ⟨#[], by simp [intItems], rfl⟩
  | n :: ns, _, .cons (b := u) r t => by
    obtain ⟨tk, rfl⟩ := (show ∃ t, u = Value.int n t from r)
    obtain ⟨xs, e1, e2⟩ := ints_of t
    refine ⟨#[(n, tk)] ++ xs, ?_, by simp [e2]⟩
    have : ∀ (l : List Value), (Value.int n tk :: l).toArray = #[Value.int n tk] ++ l.toArray := fun l => by simp
    rw [this, e1]
    simp [intItems]
section
variable {X : Cx}
theorem op_mulX : OpR X (binaryOp .Mult) (rI IntMulOk fun i j => .int (i * j)) := opI fun _ _ _ _ _ _ _ hc q => mul_int q hc
def rSum (K : Frag) : List V → Hp → VK → Prop := fun xs H Q => ∃ (p : Addr) (ns : List Int), xs = [.ref p] ∧ SqL K H p (ns.map V.int) ∧ Q (.int ns.sum) H
def rCount : V → List V → Hp → VK → Prop := fun x vs H Q => ∃ l xs y, x = .ref l ∧ vs = [y] ∧ H l = some (.lst xs) ∧ (∃ b, y = .bl b) ∧ (∀ z ∈ xs, ∃ b, z = .bl b) ∧ Q (.int (xs.countP fun z => decide (z = y))) H
def Itv (K : Frag) (a : Addr) (n : Nat) : It :=
  ⟨fun i H => i < n ∧ ∃ xs, SqL K H a xs ∧ xs.length = n, fun i H x H' => H' = H ∧ ∀ xs, SqL K H a xs → xs[n - 1 - i]? = some x, fun i _ => n ≤ i⟩
def iRev (K : Frag) (ta : TA) : TI := fun σ H R => ta σ H fun vs H1 => ∃ a xs, vs = [.ref a] ∧ SqL K H1 a xs ∧ R (Itv K a xs.length) H1
end
end L2


set_option Elab.async false
set_option linter.all false
set_option maxRecDepth 100000
set_option maxHeartbeats 1000000
namespace L2
open PySem PySem.Spec PyProof.Rows PySem.W


def clsAt (mg : Str → Option Value) (x : Str) : Addr := match mg x with
  | some (.ref C) => C
  | _ => 0
def Callee (P : Program) (w : World) (K : Frag) (mg : Str → Option Value) (base : Heap) (x : Str) (k : Nat) (ps : List Str) (sp : Sp) : Prop :=
  ∃ f fd, mg x = some (.ref f) ∧ keepIn K (.ref f) = true ∧ Binds K fd ps [] ∧ FnOk P w K mg base (CXE P w) k f fd ps sp
section
variable {X : Cx}
theorem ps_nox {st : Stmt} {t : TS} (h : PS X.nox st t) : PS X st t := fun pins s σ H D I hw =>
  wpAny_mono (h pins s σ H D (I.wish _) hw) (fun _ _ q => q.unwish) fun _ _ z => False.elim z
theorem pe_callF {x : Str} {k : Nat} {ps : List Str} {sp : Sp} {E : XK} {e : Expr} {es : List Expr} {t : TA} {p pos : Pos} (C : Callee X.prog X.w X.K X.mg X.base x k ps sp) (hr : Room k X.A) (hg : Gl X x) (hx : Passes (CXE X.prog X.w) X E)
    (ha : PA X (e :: es) t) (hdb : (x == ("__debug__" : Str)) = false := by decide) (he : starEach (e :: es) X.env = (false, eval e X.env) :: starEach es X.env := by rfl) (hpl : (backTo pos (starEach es X.env)).any (·.1) = false := by rfl) :
    PE X (.Call (.Name x p) (e :: es) [] pos) (tCall sp [] E t) := by
  obtain ⟨f, fd, hm, hk, hb, F⟩ := C
  exact pe_call F hr hg hm hk hb .nil hx ha hdb he hpl
end
theorem bt_max : bootBuiltins "max" = some (.builtin "max") := by decide +kernel
theorem bt_min : bootBuiltins "min" = some (.builtin "min") := by decide +kernel
theorem bt_isinstance : bootBuiltins "isinstance" = some (.builtin "isinstance") := by decide +kernel
theorem bt_list : bootBuiltins "list" = some (.type "list") := by decide +kernel
theorem bt_tuple : bootBuiltins "tuple" = some (.type "tuple") := by decide +kernel
theorem bt_int : bootBuiltins "int" = some (.type "int") := by decide +kernel
theorem bt_bool : bootBuiltins "bool" = some (.type "bool") := by decide +kernel
end L2


set_option Elab.async false
set_option linter.all false
set_option maxRecDepth 100000
set_option maxHeartbeats 1000000
namespace L2
open PySem PySem.Spec PyProof.Rows PySem.W


section
variable {X : Cx} {pins : List (Addr × Obj)} {σ : St} {H : Hp} {s : Shared} {h' : Heap}

theorem Inv.turnedL {t' : Nat} {fp : List Addr} (I : Inv X pins σ H s) (k : ∀ b o, b ∉ fp → s.heap.get? b = some o → h'.get? b = some o) (hf : ∀ b ∈ fp, FpOk X pins H b) : Inv X pins σ H { s with heap := h', toks := t' } := by
  have nit : ∀ b u, H b = some u → b ∉ fp := fun b u e z => by rw [(hf b z).1] at e; cases e
  refine I.step (g' := s.gens) (d' := s.drawn) (ch := fp) (fun b hb => ?_) (fun b o _ _ hc e _ => k b o hc e) (fun b o _ _ hc e _ => ⟨o.slots, k b o hc e⟩) (fun _ _ _ _ n => n)
    (fun b o hc e => ⟨o, k b o hc e⟩) (fun _ _ e => e) (fun _ _ _ e => e) (fun b ps e => ⟨#[], by rw [e]; simp⟩) (fun m hm => ?_) (fun b u e => ?_) I.bare
  · obtain ⟨_, f1, _, f3, f4, f5⟩ := hf b hb
    exact ⟨f3, f1, f4, f5⟩
  · obtain ⟨o, es, ep, ho, r⟩ := hm
    exact ⟨o, es, ep, k _ o (fun z => (hf _ z).2.1 rfl) ho, r⟩
  · refine (I.hok b u e).stay (fun c v hc q => k c v ?_ q) (fun _ q => q) fun _ _ q => q
    rcases hc with z | z
    · rw [z]; exact nit b u e
    · exact nit c _ z

def Itz (K : Frag) (a b : Addr) : It :=
  ⟨fun i H => ∃ xs ys x y, SqL K H a xs ∧ SqL K H b ys ∧ xs[i]? = some x ∧ ys[i]? = some y,
   fun i H v H' => ∃ p x y, H p = none ∧ v = .ref p ∧ H' = upd H p (.tup [x, y]) ∧ (∀ xs, SqL K H a xs → xs[i]? = some x) ∧ ∀ ys, SqL K H b ys → ys[i]? = some y,
   fun i H => ∃ xs ys, SqL K H a xs ∧ SqL K H b ys ∧ (xs.length ≤ i ∨ ys.length ≤ i)⟩
def iZip (K : Frag) (ta : TA) : TI := fun σ H R => ta σ H fun vs H1 => ∃ a b xs ys, vs = [.ref a, .ref b] ∧ SqL K H1 a xs ∧ SqL K H1 b ys ∧ R (Itz K a b) H1
end
end L2


set_option Elab.async false
set_option linter.all false
set_option maxRecDepth 100000
set_option maxHeartbeats 1000000
namespace L2
open PySem PySem.Spec PyProof.Rows PySem.W


theorem cxK {CX : CXT} {P : Program} {w : World} {K : Frag} {mg : Str → Option Value} {base : Heap} {N : List Str} {qual : Str} {scope : Scope} {f : Addr} {cd : Value} {A : Around} {outer : List Env} {s : Shared} {H : Hp} {E : XK} :
    (cxOf CX P w K mg base N qual scope f cd A outer s H E).K = K := rfl
theorem Same.upd {H H1 : Hp} {p : Addr} {o : HO} (h : H p = none) (e : Same H H1) : Same H (upd H1 p o) := fun b u z => by
  rw [upd_ne (ne_of_none z h)]; exact e b u z
theorem Same.upd' {H H1 : Hp} {p : Addr} {o : HO} (e : Same H H1) (h : H1 p = none) : Same H (L2.upd H1 p o) := e.upd (e.free h)
theorem pg_tupK {X : Cx} {K : Frag} {es : List Expr} {pos : Pos} {k : Nat} {t : TGs} {n : Nat} (hK : X.K = K) (hc : X.calm = true) (h : PGs X es t)
    (hn : (assignEach es X.env).length = n := by rfl) (hst : (assignEach es X.env).findIdx? (·.1) = none := by rfl) : PG X (.Tuple es k pos) (gTup K n t) := hK ▸ pg_tup hc h hn hst

def LoopR (J : It) (g : TG) (tb : TS) (D : Ends) (σ : St) (H1 : Hp) : Prop := ∃ W : Nat → Nat → St → Hp → Prop, (∃ m, W 0 m σ H1) ∧ ∀ i m σ H, W i m σ H →
  (J.stop i H ∧ D.nx σ H) ∨ (J.go i H ∧ ∃ N : St → Hp → Prop, (∀ σ' H', N σ' H' → ∃ m', m' < m ∧ W (i + 1) m' σ' H') ∧ ∀ x H', J.yld i H x H' → g x σ H' fun σ2 H2 => tb { D with nx := N, ct := N, bk := D.nx } σ2 H2)
theorem tFor_eq {wi : TI} {g : TG} {tb : TS} {D : Ends} {σ : St} {H : Hp} : tFor wi g tb D σ H = wi σ H fun J H1 => LoopR J g tb D σ H1 := rfl
def WhileR (c : TT) (tb : TS) (D : Ends) (σ : St) (H : Hp) : Prop := tWhile c tb D σ H
theorem tWhile_eq {c : TT} {tb : TS} {D : Ends} {σ : St} {H : Hp} : tWhile c tb D σ H = WhileR c tb D σ H := rfl
def CompR (J : It) (g : TG) (tt : TT) (te : TE) (σ0 : St) (Q : VK) (H1 : Hp) : Prop := ∃ W : Nat → Nat → List V → Hp → Prop, (∃ m, W 0 m [] H1) ∧ ∀ i m acc H, W i m acc H →
  (J.stop i H ∧ acc.length ≤ sizeLine ∧ ∀ p, H p = none → Q (.ref p) (upd H p (.lst acc))) ∨
  (J.go i H ∧ acc.length < sizeLine ∧ ∀ x H', J.yld i H x H' → g x σ0 H' fun σ2 H2 => tt σ2 H2 fun b H3 => if b = true then te σ2 H3 fun v H4 => ∃ m', m' < m ∧ W (i + 1) m' (acc ++ [v]) H4 else ∃ m', m' < m ∧ W (i + 1) m' acc H3)
theorem tComp_eq {wi : TI} {g : TG} {tt : TT} {te : TE} {js : List (Option Nat)} {σ : St} {H : Hp} {Q : VK} : tComp wi g tt te js σ H Q = wi σ H fun J H1 => CompR J g tt te (iniC js σ) Q H1 := rfl

def CW (n : Nat) (vals : Nat → V) (H1 : Hp) (i m : Nat) (acc : List V) (H : Hp) : Prop := m = n - i ∧ i ≤ n ∧ acc = (List.range i).map vals ∧ Same H1 H
theorem CW.next {n : Nat} {vals : Nat → V} {H1 H : Hp} {i : Nat} {v : V} (hi : i < n) (hv : v = vals i) (s : Same H1 H) : ∃ m', m' < n - i ∧ CW n vals H1 (i + 1) m' ((List.range i).map vals ++ [v]) H :=
  ⟨n - (i + 1), by omega, rfl, hi, by rw [List.range_succ, List.map_append, hv]; rfl, s⟩
theorem comp_map {J : It} {n : Nat} {H1 : Hp} {g : TG} {tt : TT} {te : TE} {σ0 : St} {Q : VK} (vals : Nat → V) (hn : n < sizeLine) (hgo : ∀ i H, Same H1 H → i < n → J.go i H) (hstop : ∀ H, Same H1 H → J.stop n H)
    (hb : ∀ i x H H', i < n → Same H1 H → J.yld i H x H' → g x σ0 H' fun σ2 H2 => tt σ2 H2 fun b H3 => if b = true then te σ2 H3 fun v H4 => ∃ m', m' < n - i ∧ CW n vals H1 (i + 1) m' ((List.range i).map vals ++ [v]) H4 else ∃ m', m' < n - i ∧ CW n vals H1 (i + 1) m' ((List.range i).map vals) H3)
    (hk : ∀ l H', Same H1 H' → H' l = none → Q (.ref l) (upd H' l (.lst ((List.range n).map vals)))) :
    CompR J g tt te σ0 Q H1 := by
  refine ⟨CW n vals H1, ⟨n, rfl, Nat.zero_le _, rfl, Same.refl _⟩, ?_⟩
  rintro i m acc H ⟨rfl, hi, rfl, s⟩
  by_cases h : i < n
  · refine .inr ⟨hgo i H s h, by simpa using Nat.lt_trans h hn, fun x H' y => hb i x H H' h s y⟩
  · have e : i = n := by omega
    subst e
    exact .inl ⟨hstop H s, by simpa using Nat.le_of_lt hn, fun p hp => hk p H s hp⟩
theorem atI_at {α : Type} {xs : List α} {i : Int} {j : Nat} (h : i = (j : Int)) (hj : j < xs.length) : atI xs i = some xs[j] := by
  subst h
  unfold atI ixN
  rw [if_pos (by omega), if_pos (by omega)]
  simp
theorem atI_all {α : Type} {xs : List α} {i : Int} (C : α → Prop) (h0 : 0 ≤ i) (h1 : i < xs.length) (h : ∀ x ∈ xs, C x) : ∃ v, atI xs i = some v ∧ C v := by
  obtain ⟨j, rfl⟩ := Int.eq_ofNat_of_zero_le h0
  have hj : j < xs.length := by omega
  exact ⟨xs[j], atI_at rfl hj, h _ (List.getElem_mem hj)⟩
theorem mul_r {a b : Int} (h1 : -(2 ^ 64) < b) (h2 : b < 2 ^ 64) : IntMulOk a b := IntMulOk.of_right (intBits_le_64 h1 h2)
theorem mul_l {a b : Int} (h1 : -(2 ^ 64) < a) (h2 : a < 2 ^ 64) : IntMulOk a b := IntMulOk.of_left (intBits_le_64 h1 h2)
theorem big_mul {a b : Int} (ha : Builtin.Int.intBits a ≤ 2 ^ 20) (hb : Builtin.Int.intBits b ≤ 2 ^ 20) : IntMulOk a b := IntMulOk.of_bits ha hb
theorem cp18 : CPow 10 18 := by unfold CPow; decide
theorem cp59 : CPow 10 59 := by unfold CPow; decide
def PoolAt (H : Hp) (p : Addr) : Prop := ∃ x y : Int, H p = some (.lst [.int x, .int y]) ∧ 0 ≤ x ∧ 0 ≤ y ∧ y < 2147483647
def Exc (p : Addr) (H H' : Hp) : Prop := ∀ b o, b ≠ p → H b = some o → H' b = some o
theorem Same.exc {H H1 H2 : Hp} {p : Addr} (s : Same H H1) (h : H p = none) (e : Exc p H1 H2) : Same H H2 := fun b o z => e b o (ne_of_none z h) (s b o z)
theorem Same.toExc {H H' : Hp} {p : Addr} (s : Same H H') : Exc p H H' := fun b o _ z => s b o z
theorem Exc.upd {H : Hp} {p : Addr} {o : HO} : Exc p H (L2.upd H p o) := fun b u n z => by rw [upd_ne n]; exact z
theorem PoolAt.ne {H : Hp} {p q : Addr} (P : PoolAt H p) (h : H q = none) : q ≠ p := by
  obtain ⟨x, y, e, _⟩ := P
  exact (ne_of_none e h).symm
theorem PoolAt.same {H H' : Hp} {p : Addr} (P : PoolAt H p) (s : Same H H') : PoolAt H' p := by
  obtain ⟨x, y, e, r⟩ := P
  exact ⟨x, y, s _ _ e, r⟩
theorem PoolAt.upd {H : Hp} {p q : Addr} {o : HO} (P : PoolAt H p) (h : H q = none) : PoolAt (L2.upd H q o) p := P.same ((Same.refl H).upd h)
theorem tyV_list {K : Frag} {H : Hp} {p : Addr} {xs : List V} (h : H p = some (.lst xs)) : tyV K "list" (.ref p) H := .inl ⟨rfl, _, SqL.of h⟩
theorem scal_ii {i j : Int} : scal (.int i) (.int j) = true := rfl
theorem scal_bb {i j : Bool} : scal (.bl i) (.bl j) = true := rfl
theorem scal_ss {i j : Str} : scal (.str i) (.str j) = true := rfl
theorem scal_nn : scal .non .non = true := rfl
theorem scal_ni {i : Int} : scal .non (.int i) = true := rfl
theorem scal_in {i : Int} : scal (.int i) .non = true := rfl
section
variable {X : Cx}
def rLen (K : Frag) : List V → Hp → VK → Prop := fun xs H Q => ∃ p ys, xs = [.ref p] ∧ (SqL K H p ys ∨ SqT K H p ys) ∧ Q (.int ys.length) H
theorem call_lenK {K : Frag} (hK : X.K = K) : CallR X (.builtin "len") (rLen K) := by subst hK; exact call_len_seq
def rLof (K : Frag) : List V → Hp → VK → Prop := fun xs H Q => ∃ p ys, xs = [.ref p] ∧ (SqL K H p ys ∨ SqT K H p ys) ∧ ∀ l, H l = none → Q (.ref l) (upd H l (.lst ys))
theorem call_listK {K : Frag} (hK : X.K = K) : CallR X (.type "list") (rLof K) := by subst hK; exact call_list_of
def rTof (K : Frag) : List V → Hp → VK → Prop := fun xs H Q => ∃ p ys, xs = [.ref p] ∧ ((SqL K H p ys ∧ ∀ l, H l = none → Q (.ref l) (upd H l (.tup ys))) ∨ (SqT K H p ys ∧ Q (.ref p) H))
theorem call_tupK {K : Frag} (hK : X.K = K) : CallR X (.type "tuple") (rTof K) := by subst hK; exact call_tuple_of
theorem call_isiK {K : Frag} (hK : X.K = K) : CallR X (.builtin "isinstance") (rIsi K) := by subst hK; exact call_isi
end
theorem kit_self {K : Frag} {t : Value} : kitOne K t t = some true := by unfold kitOne; simp
theorem ty_ii {K : Frag} {H : Hp} {i : Int} : tyIs K H (.int i) (.type "int") true := .inl ⟨_, .int i, by with_unfolding_all rfl⟩
theorem ty_ib {K : Frag} {H : Hp} {i : Int} : tyIs K H (.int i) (.type "bool") false := .inl ⟨_, .int i, by with_unfolding_all rfl⟩
theorem cOf_ref {a : Addr} {x : Value} : (cOf (.ref a) = some x) = (.ref a = x) := by simp [cOf]
theorem cOf_ty {n : String} {x : Value} : (cOf (.ty n) = some x) = (.type n = x) := by simp [cOf]
end L2


set_option Elab.async false
set_option linter.all false
set_option maxRecDepth 100000
set_option maxHeartbeats 1000000
namespace L2
open PySem PySem.Spec PyProof.Rows PySem.W


section
variable {X : Cx} {e st : Expr} {te ts : TE} {pos p2 : Pos}
def tRev (K : Frag) (te ts : TE) : TE := fun σ H Q => te σ H fun x H1 => ts σ H1 fun z H2 => ∃ a xs, x = .ref a ∧ z = .int (-1) ∧ SqL K H2 a xs ∧ ∀ p, H2 p = none → Q (.ref p) (upd H2 p (.lst xs.reverse))
end
end L2


set_option Elab.async false
set_option linter.all false
set_option maxRecDepth 100000
set_option maxHeartbeats 1000000
namespace L2
open PySem PySem.Spec PyProof.Rows PySem.W


theorem cut_to1 (xs : List V) : cutV xs none (some 1) = xs.take 1 := by
  unfold cutV HT.sIx
  cases xs <;> simp
def Rows (H : Hp) (l : Addr) (rs : List (List Int)) : Prop := ∃ as : List Addr, H l = some (.lst (as.map V.ref)) ∧ l ∉ as ∧ as.length = rs.length ∧ ∀ i (h1 : i < as.length) (h2 : i < rs.length), H as[i] = some (.lst (rs[i].map V.int))
theorem Rows.same {H H' : Hp} {l : Addr} {rs : List (List Int)} (R : Rows H l rs) (s : Same H H') : Rows H' l rs := by
  obtain ⟨as, e, n, hl, h⟩ := R
  exact ⟨as, s _ _ e, n, hl, fun i h1 h2 => s _ _ (h i h1 h2)⟩
theorem Rows.at {K : Frag} {H : Hp} {l : Addr} {rs : List (List Int)} (R : Rows H l rs) {i : Nat} (h : i < rs.length) : ∃ xs a, SqL K H l xs ∧ atI xs (i : Int) = some (.ref a) ∧ H a = some (.lst (rs[i].map V.int)) := by
  obtain ⟨as, e, n, hl, hh⟩ := R
  have hi : i < as.length := by omega
  refine ⟨_, as[i], SqL.of e, ?_, hh i hi h⟩
  rw [atI_at rfl (by simpa using hi)]; simp
theorem Rows.push {H : Hp} {l p : Addr} {rs : List (List Int)} {r : List Int} {as : List Addr} (e : H l = some (.lst (as.map V.ref))) (n : l ∉ as) (hl : as.length = rs.length) (h : ∀ i (h1 : i < as.length) (h2 : i < rs.length), H as[i] = some (.lst (rs[i].map V.int)))
    (hp : H p = some (.lst (r.map V.int))) (np : p ≠ l) : Rows (upd H l (.lst (as.map V.ref ++ [.ref p]))) l (rs ++ [r]) := by
  refine ⟨as ++ [p], by rw [upd_same]; simp, ?_, by simp [hl], fun i h1 h2 => ?_⟩
  · simp only [List.mem_append, List.mem_singleton, not_or]
    exact ⟨n, fun z => np z.symm⟩
  · by_cases hi : i < as.length
    · have e1 : (as ++ [p])[i] = as[i] := List.getElem_append_left hi
      have e2 : (rs ++ [r])[i] = rs[i]'(by omega) := List.getElem_append_left (by omega)
      rw [e1, e2, upd_ne]
      · exact h i hi (by omega)
      · intro z; exact n (z ▸ List.getElem_mem hi)
    · have e1 : (as ++ [p])[i] = p := by rw [List.getElem_append_right (by omega)]; simp
      have e2 : (rs ++ [r])[i] = r := by rw [List.getElem_append_right (by omega)]; simp
      rw [e1, e2, upd_ne np]; exact hp
end L2


set_option Elab.async false
set_option linter.all false
set_option maxRecDepth 100000
set_option maxHeartbeats 1000000
namespace L2
open PySem PySem.Spec PyProof.Rows PySem.W


inductive EqD (K : Frag) (H : Hp) : Nat → V → V → Bool → Prop
  | flat {n : Nat} {x y : V} (fx : flatV x = true) (fy : flatV y = true) : EqD K H n x y (eqV x y)
  | lst {n : Nat} {a b : Addr} {xs ys : List V} (e : Nat → Bool) (hx : SqL K H a xs) (hy : SqL K H b ys) (hl : xs.length = ys.length) (h : ∀ j x y, xs[j]? = some x → ys[j]? = some y → EqD K H n x y (e j)) : EqD K H (n + 1) (.ref a) (.ref b) ((List.range xs.length).all e)
  | len {n : Nat} {a b : Addr} {xs ys : List V} (hx : SqL K H a xs) (hy : SqL K H b ys) (hl : xs.length ≠ ys.length) : EqD K H (n + 1) (.ref a) (.ref b) false
  | tup {n : Nat} {a b : Addr} {xs ys : List V} (e : Nat → Bool) (hx : SqT K H a xs) (hy : SqT K H b ys) (h : ∀ j x y, xs[j]? = some x → ys[j]? = some y → EqD K H n x y (e j)) : EqD K H (n + 1) (.ref a) (.ref b) ((List.range (min xs.length ys.length)).all e && xs.length == ys.length)
theorem eqV_refl {x : V} (h : flatV x = true) : eqV x x = true := by
  cases x <;> first
    | rfl
    | (simp [eqV]; done)
    | cases h
section
variable {X : Cx} {pins : List (Addr × Obj)} {σ : St} {H : Hp} {s : Shared}
theorem eqd_refl (I : Inv X pins σ H s) {n : Nat} {x y : V} {b : Bool} (h : EqD X.K H n x y b) : x = y → b = true := by
  induction h with
  | flat fx fy => rintro rfl; exact eqV_refl fx
  | lst e hx hy hl h ih =>
    intro z
    cases z
    have := I.list_inj hx hy
    subst this
    refine List.all_eq_true.mpr fun j hj => ?_
    have hj' := List.mem_range.mp hj
    exact ih j _ _ (List.getElem?_eq_getElem hj') (List.getElem?_eq_getElem hj') rfl
  | len hx hy hl =>
    intro z
    cases z
    have := I.list_inj hx hy
    subst this
    exact absurd rfl hl
  | tup e hx hy h ih =>
    intro z
    cases z
    have := I.tuple_inj hx hy
    subst this
    rw [Nat.min_self]
    have : (List.range _).all e = true := List.all_eq_true.mpr fun j hj => by
      have hj' := List.mem_range.mp hj
      exact ih j _ _ (List.getElem?_eq_getElem hj') (List.getElem?_eq_getElem hj') rfl
    rw [this]; simp
theorem eqd_at (I : Inv X pins σ H s) {n : Nat} {x y : V} {b : Bool} (h : EqD X.K H n x y b) : ∀ (A : Around) (u v : Value), A.units + n < cLine → RelV x u → RelV y v → SeqAt.EqAt A s u v b := by
  induction h with
  | flat fx fy => intro A u v _ ru rv; exact eqAt_V ru rv fx fy
  | @lst n a b xs ys e hx hy hl h ih =>
    intro A u v hu ru rv
    have hb := eqd_refl I (.lst e hx hy hl h)
    cases ru
    cases rv
    by_cases hab : a = b
    · subst hab
      rw [hb rfl]; exact SeqAt.EqAt.same _
    · obtain ⟨is1, r1, p1, _⟩ := I.list hx
      obtain ⟨is2, r2, p2, _⟩ := I.list hy
      have e1 := r1.length
      have e2 := r2.length
      have key := SeqAt.RcAt.lists (A := A) (s := s) (e := e) p1.isList p2.isList (by simp; omega) (by omega) fun j h1 h2 => by
        have h1' : j < xs.length := by simpa [e1] using h1
        have h2' : j < ys.length := by simpa [e2] using h2
        obtain ⟨u, hu1, ru⟩ := r1.get (List.getElem?_eq_getElem h1')
        obtain ⟨v, hv1, rv⟩ := r2.get (List.getElem?_eq_getElem h2')
        have eu : is1.toArray[j] = u := by simpa using (List.getElem?_eq_some_iff.mp hu1).2
        have ev : is2.toArray[j] = v := by simpa using (List.getElem?_eq_some_iff.mp hv1).2
        rw [eu, ev]
        exact ih j _ _ (List.getElem?_eq_getElem h1') (List.getElem?_eq_getElem h2') A.in1 u v (by show A.units + 1 + n < cLine; omega) ru rv
      have e3 : is1.toArray.size = xs.length := by simp [e1]
      rw [e3] at key
      exact SeqAt.EqAt.of_refs hab key
  | @len n a b xs ys hx hy hl =>
    intro A u v hu ru rv
    cases ru
    cases rv
    have hab : a ≠ b := fun z => by subst z; exact hl (congrArg List.length (I.list_inj hx hy))
    obtain ⟨is1, r1, p1, _⟩ := I.list hx
    obtain ⟨is2, r2, p2, _⟩ := I.list hy
    have e1 := r1.length
    have e2 := r2.length
    exact SeqAt.EqAt.of_refs hab (SeqAt.RcAt.lists_lengths p1.isList p2.isList (by simp; omega) (by omega))
  | @tup n a b xs ys e hx hy h ih =>
    intro A u v hu ru rv
    have hb := eqd_refl I (.tup e hx hy h)
    cases ru
    cases rv
    by_cases hab : a = b
    · subst hab
      rw [hb rfl]; exact SeqAt.EqAt.same _
    · obtain ⟨is1, r1, p1, _⟩ := I.tuple hx
      obtain ⟨is2, r2, p2, _⟩ := I.tuple hy
      have e1 := r1.length
      have e2 := r2.length
      have key := SeqAt.RcAt.tuples (A := A) (s := s) (e := e) p1 p2 (by omega) fun j h1 h2 => by
        have h1' : j < xs.length := by simpa [e1] using h1
        have h2' : j < ys.length := by simpa [e2] using h2
        obtain ⟨u, hu1, ru⟩ := r1.get (List.getElem?_eq_getElem h1')
        obtain ⟨v, hv1, rv⟩ := r2.get (List.getElem?_eq_getElem h2')
        have eu : is1.toArray[j] = u := by simpa using (List.getElem?_eq_some_iff.mp hu1).2
        have ev : is2.toArray[j] = v := by simpa using (List.getElem?_eq_some_iff.mp hv1).2
        rw [eu, ev]
        exact ih j _ _ (List.getElem?_eq_getElem h1') (List.getElem?_eq_getElem h2') A.in1 u v (by show A.units + 1 + n < cLine; omega) ru rv
      have e3 : is1.toArray.size = xs.length := by simp [e1]
      have e4 : is2.toArray.size = ys.length := by simp [e2]
      rw [e3, e4] at key
      exact SeqAt.EqAt.of_refs hab key
end
def rEqD (K : Frag) (neg : Bool) : R2 := fun x y H Q => ∃ a b k, x = .ref a ∧ y = .ref b ∧ EqD K H 3 x y k ∧ Q (.bl (if neg then !k else k)) H
section
variable {X : Cx}
theorem op_eqD {K : Frag} (hK : X.K = K) {k : Nat} (hr : Room k X.A) : OpR X (compareOp .Eq) (rEqD K false) := by
  subst hK
  have hu0 := hr.un
  intro pins s σ H x y v u Q I rx ry h
  obtain ⟨a, b, k, rfl, rfl, h, q⟩ := h
  cases rx
  cases ry
  cases h with
  | flat fx fy => cases fx
  | @lst n _ _ xs ys e hx hy hl h =>
    obtain ⟨is1, r1, p1, _⟩ := I.list hx
    obtain ⟨is2, r2, p2, _⟩ := I.list hy
    have e1 := r1.length
    have e2 := r2.length
    have e3 : is1.toArray.size = xs.length := by simp [e1]
    refine SeqAt.eq_listAt (e := e) p1.isList p2.isList (by simp; omega) (by omega) (fun j h1 h2 => ?_) ⟨.bl _, H, I, rfl, by rw [e3]; exact q⟩
    have h1' : j < xs.length := by simpa [e1] using h1
    have h2' : j < ys.length := by simpa [e2] using h2
    obtain ⟨u, hu1, ru⟩ := r1.get (List.getElem?_eq_getElem h1')
    obtain ⟨v, hv1, rv⟩ := r2.get (List.getElem?_eq_getElem h2')
    have eu : is1.toArray[j] = u := by simpa using (List.getElem?_eq_some_iff.mp hu1).2
    have ev : is2.toArray[j] = v := by simpa using (List.getElem?_eq_some_iff.mp hv1).2
    rw [eu, ev]
    exact eqd_at I (h j _ _ (List.getElem?_eq_getElem h1') (List.getElem?_eq_getElem h2')) X.A.in1 u v (by show X.A.units + 1 + 2 < cLine; omega) ru rv
  | @len n _ _ xs ys hx hy hl =>
    obtain ⟨is1, r1, p1, _⟩ := I.list hx
    obtain ⟨is2, r2, p2, _⟩ := I.list hy
    have e1 := r1.length
    have e2 := r2.length
    exact SeqAt.eq_list_lengthsAt p1.isList p2.isList (by simp; omega) (by omega) ⟨.bl _, H, I, rfl, q⟩
  | @tup n _ _ xs ys e hx hy h =>
    obtain ⟨is1, r1, p1, _⟩ := I.tuple hx
    obtain ⟨is2, r2, p2, _⟩ := I.tuple hy
    have e1 := r1.length
    have e2 := r2.length
    have e3 : is1.toArray.size = xs.length := by simp [e1]
    have e4 : is2.toArray.size = ys.length := by simp [e2]
    refine SeqAt.eq_tupleAt (e := e) p1 p2 (by omega) (fun j h1 h2 => ?_) ⟨.bl _, H, I, rfl, by rw [e3, e4]; exact q⟩
    have h1' : j < xs.length := by simpa [e1] using h1
    have h2' : j < ys.length := by simpa [e2] using h2
    obtain ⟨u, hu1, ru⟩ := r1.get (List.getElem?_eq_getElem h1')
    obtain ⟨v, hv1, rv⟩ := r2.get (List.getElem?_eq_getElem h2')
    have eu : is1.toArray[j] = u := by simpa using (List.getElem?_eq_some_iff.mp hu1).2
    have ev : is2.toArray[j] = v := by simpa using (List.getElem?_eq_some_iff.mp hv1).2
    rw [eu, ev]
    exact eqd_at I (h j _ _ (List.getElem?_eq_getElem h1') (List.getElem?_eq_getElem h2')) X.A.in1 u v (by show X.A.units + 1 + 2 < cLine; omega) ru rv
theorem op_neD {K : Frag} (hK : X.K = K) {k : Nat} (hr : Room k X.A) : OpR X (compareOp .NotEq) (rEqD K true) := by
  subst hK
  have hu0 := hr.un
  intro pins s σ H x y v u Q I rx ry h
  obtain ⟨a, b, k, rfl, rfl, h, q⟩ := h
  cases rx
  cases ry
  cases h with
  | flat fx fy => cases fx
  | @lst n _ _ xs ys e hx hy hl h =>
    obtain ⟨is1, r1, p1, _⟩ := I.list hx
    obtain ⟨is2, r2, p2, _⟩ := I.list hy
    have e1 := r1.length
    have e2 := r2.length
    have e3 : is1.toArray.size = xs.length := by simp [e1]
    refine SeqAt.RcNeAt.lists (e := e) p1.isList p2.isList (by simp; omega) (by omega) (fun j h1 h2 => ?_) _ _ _ _ ⟨.bl _, H, I, rfl, by rw [e3]; exact q⟩
    have h1' : j < xs.length := by simpa [e1] using h1
    have h2' : j < ys.length := by simpa [e2] using h2
    obtain ⟨u, hu1, ru⟩ := r1.get (List.getElem?_eq_getElem h1')
    obtain ⟨v, hv1, rv⟩ := r2.get (List.getElem?_eq_getElem h2')
    have eu : is1.toArray[j] = u := by simpa using (List.getElem?_eq_some_iff.mp hu1).2
    have ev : is2.toArray[j] = v := by simpa using (List.getElem?_eq_some_iff.mp hv1).2
    rw [eu, ev]
    exact eqd_at I (h j _ _ (List.getElem?_eq_getElem h1') (List.getElem?_eq_getElem h2')) X.A.in1 u v (by show X.A.units + 1 + 2 < cLine; omega) ru rv
  | @len n _ _ xs ys hx hy hl =>
    obtain ⟨is1, r1, p1, _⟩ := I.list hx
    obtain ⟨is2, r2, p2, _⟩ := I.list hy
    have e1 := r1.length
    have e2 := r2.length
    exact SeqAt.RcNeAt.lists_lengths p1.isList p2.isList (by simp; omega) (by omega) _ _ _ _ ⟨.bl _, H, I, rfl, q⟩
  | @tup n _ _ xs ys e hx hy h =>
    obtain ⟨is1, r1, p1, _⟩ := I.tuple hx
    obtain ⟨is2, r2, p2, _⟩ := I.tuple hy
    have e1 := r1.length
    have e2 := r2.length
    have e3 : is1.toArray.size = xs.length := by simp [e1]
    have e4 : is2.toArray.size = ys.length := by simp [e2]
    refine SeqAt.RcNeAt.tuples (e := e) p1 p2 (by omega) (fun j h1 h2 => ?_) _ _ _ _ ⟨.bl _, H, I, rfl, by rw [e3, e4]; exact q⟩
    have h1' : j < xs.length := by simpa [e1] using h1
    have h2' : j < ys.length := by simpa [e2] using h2
    obtain ⟨u, hu1, ru⟩ := r1.get (List.getElem?_eq_getElem h1')
    obtain ⟨v, hv1, rv⟩ := r2.get (List.getElem?_eq_getElem h2')
    have eu : is1.toArray[j] = u := by simpa using (List.getElem?_eq_some_iff.mp hu1).2
    have ev : is2.toArray[j] = v := by simpa using (List.getElem?_eq_some_iff.mp hv1).2
    rw [eu, ev]
    exact eqd_at I (h j _ _ (List.getElem?_eq_getElem h1') (List.getElem?_eq_getElem h2')) X.A.in1 u v (by show X.A.units + 1 + 2 < cLine; omega) ru rv
end

def IsI (v : V) (i : Int) : Prop := v = .int i
def IsL (K : Frag) (H : Hp) {α : Type} (P : V → α → Prop) (v : V) (as : List α) : Prop := ∃ a xs, v = .ref a ∧ SqL K H a xs ∧ xs.length = as.length ∧ ∀ (j : Nat) (x : V) (y : α), xs[j]? = some x → as[j]? = some y → P x y
def IsT (K : Frag) (H : Hp) {α : Type} (P : V → α → Prop) (v : V) (as : List α) : Prop := ∃ a xs, v = .ref a ∧ SqT K H a xs ∧ xs.length = as.length ∧ ∀ (j : Nat) (x : V) (y : α), xs[j]? = some x → as[j]? = some y → P x y
def EqP (K : Frag) (H : Hp) (n : Nat) {α : Type} [DecidableEq α] (P : V → α → Prop) : Prop := ∀ x y a b, P x a → P y b → EqD K H n x y (decide (a = b))
theorem eqp_int {K : Frag} {H : Hp} {n : Nat} : EqP K H n IsI := by
  rintro x y a b rfl rfl
  have := EqD.flat (K := K) (H := H) (n := n) (x := .int a) (y := .int b) rfl rfl
  have e : eqV (.int a) (.int b) = decide (a = b) := by simp [eqV, Bool.beq_eq_decide_eq]
  rw [← e]; exact this
theorem all_eq {α : Type} [DecidableEq α] (as bs : List α) (h : as.length = bs.length) : (List.range as.length).all (fun j => decide (as[j]? = bs[j]?)) = decide (as = bs) := by
  rw [Bool.eq_iff_iff, List.all_eq_true, decide_eq_true_iff]
  constructor
  · intro q
    refine List.ext_getElem? fun j => ?_
    by_cases hj : j < as.length
    · simpa using q j (List.mem_range.mpr hj)
    · rw [List.getElem?_eq_none (by omega), List.getElem?_eq_none (by omega)]
  · rintro rfl j _; simp
theorem eqp_lst {K : Frag} {H : Hp} {n : Nat} {α : Type} [DecidableEq α] {P : V → α → Prop} (h : EqP K H n P) : EqP K H (n + 1) (IsL K H P) := by
  rintro x y as bs ⟨a, xs, rfl, hx, lx, px⟩ ⟨b, ys, rfl, hy, ly, py⟩
  by_cases hl : as.length = bs.length
  · rw [← all_eq as bs hl, ← lx]
    refine .lst _ hx hy (by omega) fun j x y h1 h2 => ?_
    have j1 := (List.getElem?_eq_some_iff.mp h1).1
    have j2 := (List.getElem?_eq_some_iff.mp h2).1
    have ha : as[j]? = some as[j] := List.getElem?_eq_getElem (by omega)
    have hb : bs[j]? = some bs[j] := List.getElem?_eq_getElem (by omega)
    have := h x y _ _ (px j _ _ h1 ha) (py j _ _ h2 hb)
    rw [ha, hb]
    simpa using this
  · have e : decide (as = bs) = false := by simp; intro z; exact hl (congrArg List.length z)
    rw [e]
    exact .len hx hy (by omega)
theorem eqp_tup {K : Frag} {H : Hp} {n : Nat} {α : Type} [DecidableEq α] {P : V → α → Prop} (h : EqP K H n P) : EqP K H (n + 1) (IsT K H P) := by
  rintro x y as bs ⟨a, xs, rfl, hx, lx, px⟩ ⟨b, ys, rfl, hy, ly, py⟩
  have key := EqD.tup (K := K) (H := H) (n := n) (fun j => decide (as[j]? = bs[j]?)) hx hy fun j x y h1 h2 => by
    have j1 := (List.getElem?_eq_some_iff.mp h1).1
    have j2 := (List.getElem?_eq_some_iff.mp h2).1
    have ha : as[j]? = some as[j] := List.getElem?_eq_getElem (by omega)
    have hb : bs[j]? = some bs[j] := List.getElem?_eq_getElem (by omega)
    have := h x y _ _ (px j _ _ h1 ha) (py j _ _ h2 hb)
    rw [ha, hb]
    simpa using this
  have e : ((List.range (min xs.length ys.length)).all (fun j => decide (as[j]? = bs[j]?)) && xs.length == ys.length) = decide (as = bs) := by
    rw [lx, ly]
    by_cases hl : as.length = bs.length
    · rw [← hl, Nat.min_self, all_eq as bs hl]; simp
    · have e : decide (as = bs) = false := by simp; intro z; exact hl (congrArg List.length z)
      rw [e]
      simp [hl]
  rw [e] at key
  exact key
theorem isL_ints {K : Frag} {H : Hp} {a : Addr} {ns : List Int} (h : SqL K H a (ns.map V.int)) : IsL K H IsI (.ref a) ns := ⟨a, _, rfl, h, by simp, fun j x y h1 h2 => by
  rw [List.getElem?_map, h2] at h1
  exact (Option.some.inj h1).symm⟩
theorem isT_ints {K : Frag} {H : Hp} {a : Addr} {ns : List Int} (h : SqT K H a (ns.map V.int)) : IsT K H IsI (.ref a) ns := ⟨a, _, rfl, h, by simp, fun j x y h1 h2 => by
  rw [List.getElem?_map, h2] at h1
  exact (Option.some.inj h1).symm⟩
end L2


set_option Elab.async false
set_option linter.all false
set_option maxRecDepth 100000
set_option maxHeartbeats 1000000
namespace L2
open PySem PySem.Spec PyProof.Rows PySem.W


section
variable {X : Cx}
def tRngV (ta : TA) : TE := fun σ H Q => ta σ H fun vs H1 => ∃ j : Int, vs = [.int j] ∧ -(2 ^ 62) ≤ j ∧ j < 2 ^ 62 ∧ ∀ p, H1 p = none → Q (.ref p) (upd H1 p (.rng 0 j))
def rLstR : List V → Hp → VK → Prop := fun xs H Q => ∃ p j, xs = [.ref p] ∧ H p = some (.rng 0 j) ∧ 0 ≤ j ∧ j ≤ 1000 ∧ ∀ l, H l = none → Q (.ref l) (upd H l (.lst ((List.range j.toNat).map fun (i : Nat) => V.int (i : Int))))
def rAll (K : Frag) : List V → Hp → VK → Prop := fun xs H Q => ∃ (p : Addr) (bs : List Bool), xs = [.ref p] ∧ SqL K H p (bs.map V.bl) ∧ Q (.bl (bs.all id)) H
def rAny (K : Frag) : List V → Hp → VK → Prop := fun xs H Q => ∃ (p : Addr) (bs : List Bool), xs = [.ref p] ∧ SqL K H p (bs.map V.bl) ∧ Q (.bl (bs.any id)) H
theorem all_ix (bs : List Bool) : (List.range bs.length).all (fun i => bs.getD i false) = bs.all id := by
  rw [Bool.eq_iff_iff, List.all_eq_true, List.all_eq_true]
  constructor
  · intro h x hx
    obtain ⟨j, hj, rfl⟩ := List.getElem_of_mem hx
    have := h j (List.mem_range.mpr hj)
    simpa [List.getD_eq_getElem?_getD, hj] using this
  · intro h j hj
    have hj' := List.mem_range.mp hj
    have := h _ (List.getElem_mem hj')
    simpa [List.getD_eq_getElem?_getD, hj'] using this
theorem truth_bools {prog : Program} {w : World} {A : Around} {bs : List Bool} {its : List Value} (r : Vals (bs.map V.bl) its) : TruthOf prog w A (fun i v => its.toArray[i]? = some v) (fun i => bs.getD i false) := by
  intro i v s Q E hv hq
  have hv' : its[i]? = some v := by simpa using hv
  have hl := r.length
  have hi : i < bs.length := by
    have := (List.getElem?_eq_some_iff.mp hv').1
    rw [List.length_map] at hl; omega
  obtain ⟨u, hu, ru⟩ := r.get (i := i) (x := V.bl bs[i]) (by rw [List.getElem?_map, List.getElem?_eq_getElem hi]; rfl)
  rw [hv'] at hu
  cases hu
  cases ru
  refine wpAny_truthy_bool ?_
  simpa [List.getD_eq_getElem?_getD, hi] using hq
theorem call_all {K : Frag} (hK : X.K = K) (hc : X.calm = true) : CallR X (.builtin "all") (rAll K) := by
  subst hK
  intro pins s σ H xs us Q I r h
  obtain ⟨p, bs, rfl, hp, q⟩ := h
  obtain ⟨u, rfl, ru⟩ := r.one
  cases (show u = Value.ref p from ru)
  obtain ⟨its, r', pl, hz⟩ := I.list hp
  have hl := r'.length
  refine call_all_walk (wpAny_pyIter_list pl.isList ?_)
  have hne : p ≠ s.heap.objs.size := by obtain ⟨o, e, _⟩ := pl.isList; exact Nat.ne_of_lt (Heap.lt_size e)
  refine ⟨s.heap.objs.size, _, _, _, _, _, fun i => bs.getD i false, rfl, Walks.list (A := X.A.in1) (show X.A.in1.handled = none from I.ok.hd hc) _ p hne its.toArray, ⟨⟨_, Heap.get?_push_size _ rfl, rfl, rfl⟩, pl.isList.push _⟩, truth_bools r', fun h' tk kp => ?_⟩
  have e1 : its.toArray.size = bs.length := by rw [List.size_toArray]; rw [List.length_map] at hl; omega
  rw [e1, all_ix]
  exact ⟨.bl _, H, I.kept (t' := tk) fun b o e => kp b o (by simp; exact Nat.ne_of_lt (Heap.lt_size e)) (Heap.get?_push_of_some _ e), rfl, q⟩
def ipM : TIp := fun x y H Q => ∃ i j, x = .int i ∧ y = .int j ∧ IntMulOk i j ∧ Q (.int (i * j)) H
def rIxQ (K : Frag) : R2 := fun x y H Q => ∃ p xs i v, x = .ref p ∧ y = .int i ∧ (SqL K H p xs ∨ SqT K H p xs) ∧ atI xs i = some v ∧ Q v H
theorem ix_q {K : Frag} (hK : X.K = K) : IxR X (rIxQ K) := by
  subst hK
  intro value slice pins s σ H x y v u Q I rx ry h hs
  refine (ix_list.or ix_tup) (value := value) (slice := slice) pins s σ H x y v u Q I rx ry ?_ hs
  obtain ⟨p, xs, i, v, rfl, rfl, hq, ha, q⟩ := h
  rcases hq with hq | hq
  · exact .inl ⟨p, xs, i, v, rfl, rfl, hq, ha, q⟩
  · exact .inr ⟨p, xs, i, v, rfl, rfl, hq, ha, q⟩
theorem bt_all : bootBuiltins "all" = some (.builtin "all") := by decide +kernel
end
end L2


set_option Elab.async false
set_option linter.all false
set_option maxRecDepth 100000
set_option maxHeartbeats 1000000
namespace L2
open PySem PySem.Spec PyProof.Rows PySem.W


def IsLow (f : Nat → Int) (a b p : Nat) : Prop := a ≤ p ∧ p ≤ b ∧ (∀ q, a ≤ q → q < p → f p < f q) ∧ ∀ q, p < q → q ≤ b → f p ≤ f q
theorem IsLow.unique {f : Nat → Int} {a b p q : Nat} (h : IsLow f a b p) (k : IsLow f a b q) : p = q := by
  obtain ⟨h1, h2, h3, h4⟩ := h
  obtain ⟨k1, k2, k3, k4⟩ := k
  rcases Nat.lt_trichotomy p q with z | z | z
  · have := k3 p h1 z
    have := h4 q z k2
    omega
  · exact z
  · have := h3 q k1 z
    have := k4 p z h2
    omega
theorem IsLow.join {f : Nat → Int} {a m a' b p q : Nat} (h : IsLow f a m p) (k : IsLow f a' b q) (h1 : a ≤ a') (h2 : a' ≤ m + 1) (h3 : m ≤ b) : IsLow f a b (if f q < f p then q else p) := by
  obtain ⟨p1, p2, p3, p4⟩ := h
  obtain ⟨q1, q2, q3, q4⟩ := k
  have pm : ∀ r, a ≤ r → r ≤ m → f p ≤ f r := fun r r1 r2 => by
    rcases Nat.lt_trichotomy r p with z | z | z
    · exact Int.le_of_lt (p3 r r1 z)
    · rw [z]; exact Int.le_refl _
    · exact p4 r z r2
  have qm : ∀ r, a' ≤ r → r ≤ b → f q ≤ f r := fun r r1 r2 => by
    rcases Nat.lt_trichotomy r q with z | z | z
    · exact Int.le_of_lt (q3 r r1 z)
    · rw [z]; exact Int.le_refl _
    · exact q4 r z r2
  split
  · rename_i hlt
    refine ⟨by omega, q2, fun r r1 r2 => ?_, fun r r1 r2 => qm r (by omega) r2⟩
    by_cases z : a' ≤ r
    · exact q3 r z r2
    · have := pm r r1 (by omega); omega
  · rename_i hle
    refine ⟨p1, by omega, p3, fun r r1 r2 => ?_⟩
    by_cases z : r ≤ m
    · exact p4 r r1 z
    · have := qm r (by omega) r2; omega
def lowF (f : Nat → Int) (a : Nat) : Nat → Nat
  | 0 => a
  | c + 1 => if f (a + c + 1) < f (lowF f a c) then a + c + 1 else lowF f a c
theorem isLow_one (f : Nat → Int) (a : Nat) : IsLow f a a a := ⟨Nat.le_refl _, Nat.le_refl _, fun q h1 h2 => by omega, fun q h1 h2 => by omega⟩
theorem lowF_is (f : Nat → Int) (a c : Nat) : IsLow f a (a + c) (lowF f a c) := by
  induction c with
  | zero => exact isLow_one f a
  | succ c ih =>
    rw [lowF]
    exact ih.join (isLow_one f (a + c + 1)) (by omega) (by omega) (by omega)
def nth (ns : List Int) (i : Nat) : Int := ns.getD i 0
theorem nth_at {ns : List Int} {i : Nat} (h : i < ns.length) : atI (ns.map V.int) (i : Int) = some (V.int (nth ns i)) := by
  rw [atI_at rfl (by simpa using h)]
  simp [nth, List.getD_eq_getElem?_getD, h]
theorem lowF_lt (f : Nat → Int) (a c : Nat) : a ≤ lowF f a c ∧ lowF f a c ≤ a + c := ⟨(lowF_is f a c).1, (lowF_is f a c).2.1⟩

def Tall (n i : Nat) : Prop := n < 2 ^ i ∧ ∀ j, j < i → 2 ^ j ≤ n
theorem Tall.unique {n i j : Nat} (h : Tall n i) (k : Tall n j) : i = j := by
  rcases Nat.lt_trichotomy i j with z | z | z
  · have := k.2 i z; have := h.1; omega
  · exact z
  · have := h.2 j z; have := k.1; omega

def WI (N : Nat) (Pv : Nat → St → Hp → Prop) (m : Nat) (σ : St) (H : Hp) : Prop := ∃ i, m = N - i ∧ i ≤ N ∧ Pv i σ H
theorem WI.next {N : Nat} {Pv : Nat → St → Hp → Prop} {i : Nat} : ∀ σ' H', (i + 1 ≤ N ∧ Pv (i + 1) σ' H') → ∃ m', m' < N - i ∧ WI N Pv m' σ' H' := fun σ' H' h => ⟨N - (i + 1), by omega, i + 1, rfl, h.1, h.2⟩
theorem while_i {c : TT} {tb : TS} {D : Ends} {σ : St} {H : Hp} (N : Nat) (Pv : Nat → St → Hp → Prop) (h0 : Pv 0 σ H)
    (hs : ∀ i σ H, i ≤ N → Pv i σ H → c σ H fun b H1 => if b = true then ∃ Nx : St → Hp → Prop, (∀ σ' H', Nx σ' H' → ∃ m', m' < N - i ∧ WI N Pv m' σ' H') ∧ tb { D with nx := Nx, ct := Nx, bk := D.nx } σ H1 else D.nx σ H1) : WhileR c tb D σ H := by
  refine ⟨WI N Pv, ⟨N, 0, rfl, Nat.zero_le _, h0⟩, ?_⟩
  rintro m σ H ⟨i, rfl, hi, p⟩
  exact hs i σ H hi p
theorem Same.seqT {K : Frag} {H H' : Hp} {a : Addr} {xs : List V} (e : Same H H') (h : SqT K H a xs) : SqT K H' a xs := by
  rcases h with (h | ⟨o, h⟩) | h
  · exact .inl (.inl (e _ _ h))
  · exact .inl (.inr ⟨o, e _ _ h⟩)
  · exact .inr h
theorem Same.q {K : Frag} {H H' : Hp} {a : Addr} {xs : List V} (e : Same H H') (h : SqL K H a xs ∨ SqT K H a xs) : SqL K H' a xs ∨ SqT K H' a xs := h.imp e.seq e.seqT
theorem Exc.trans {p : Addr} {H H1 H2 : Hp} (a : Exc p H H1) (b : Exc p H1 H2) : Exc p H H2 := fun c o n z => b c o n (a c o n z)
theorem Exc.free {p q : Addr} {H H' : Hp} (e : Exc p H H') (n : q ≠ p) (h : H' q = none) : H q = none := by
  cases z : H q with
  | none => rfl
  | some o => rw [e q o n z] at h; cases h
theorem Exc.updN {p q : Addr} {H H' : Hp} {o : HO} (e : Exc p H H') (h : H q = none) : Exc p H (L2.upd H' q o) := fun b u n z => by
  rw [upd_ne (ne_of_none z h)]; exact e b u n z
theorem Exc.same {p : Addr} {H H1 H2 : Hp} (a : Exc p H H1) (s : Same H1 H2) : Exc p H H2 := a.trans s.toExc

def RowsN (H0 H : Hp) (l : Addr) (rs : List (List Int)) : Prop := ∃ as : List Addr, H l = some (.lst (as.map V.ref)) ∧ l ∉ as ∧ as.length = rs.length ∧ (∀ i (h1 : i < as.length) (h2 : i < rs.length), H as[i] = some (.lst (rs[i].map V.int))) ∧ H0 l = none ∧ ∀ a ∈ as, H0 a = none
theorem RowsN.rows {H0 H : Hp} {l : Addr} {rs : List (List Int)} (R : RowsN H0 H l rs) : Rows H l rs := by
  obtain ⟨as, h1, h2, h3, h4, _⟩ := R
  exact ⟨as, h1, h2, h3, h4⟩
theorem RowsN.same {H0 H H' : Hp} {l : Addr} {rs : List (List Int)} (R : RowsN H0 H l rs) (s : Same H H') : RowsN H0 H' l rs := by
  obtain ⟨as, e, n, hl, h, z⟩ := R
  exact ⟨as, s _ _ e, n, hl, fun i h1 h2 => s _ _ (h i h1 h2), z⟩
theorem RowsN.from {H0 H1 H : Hp} {l : Addr} {rs : List (List Int)} (R : RowsN H1 H l rs) (s : Same H0 H1) : RowsN H0 H l rs := by
  obtain ⟨as, e, n, hl, h, z1, z2⟩ := R
  exact ⟨as, e, n, hl, h, s.free z1, fun a ha => s.free (z2 a ha)⟩
theorem RowsN.push {H0 H : Hp} {l p : Addr} {rs : List (List Int)} {r : List Int} {as : List Addr} (e : H l = some (.lst (as.map V.ref))) (n : l ∉ as) (hl : as.length = rs.length) (h : ∀ i (h1 : i < as.length) (h2 : i < rs.length), H as[i] = some (.lst (rs[i].map V.int)))
    (z1 : H0 l = none) (z2 : ∀ a ∈ as, H0 a = none) (hp : H p = some (.lst (r.map V.int))) (np : p ≠ l) (zp : H0 p = none) : RowsN H0 (upd H l (.lst (as.map V.ref ++ [.ref p]))) l (rs ++ [r]) := by
  obtain ⟨bs, q1, q2, q3, q4⟩ := Rows.push e n hl h hp np
  rw [upd_same] at q1
  have e2 : bs = as ++ [p] := by
    have q1' : (as ++ [p]).map V.ref = bs.map V.ref := by
      have := HO.lst.inj (Option.some.inj q1)
      simpa using this
    have inj : ∀ (u v : List Addr), u.map V.ref = v.map V.ref → u = v := by
      intro u
      induction u with
      | nil => intro v hv; cases v with | nil => rfl | cons _ _ => cases hv
      | cons x u ih =>
        intro v hv
        cases v with
        | nil => cases hv
        | cons y v =>
          rw [List.map_cons, List.map_cons] at hv
          injection hv with h1 h2
          injection h1 with h1
          rw [h1, ih v h2]
    exact (inj _ _ q1').symm
  subst e2
  refine ⟨as ++ [p], upd_same.trans (by simp), q2, q3, q4, z1, fun a ha => ?_⟩
  rcases List.mem_append.mp ha with ha | ha
  · exact z2 a ha
  · have : a = p := by simpa using ha
    rw [this]; exact zp
theorem RowsN.nil {H : Hp} {p : Addr} (hp : H p = none) : RowsN H (upd H p (.lst [])) p [] := ⟨[], upd_same, by simp, rfl, fun i h1 h2 => absurd h1 (by simp), hp, fun a ha => nomatch ha⟩
theorem Rows.isL {K : Frag} {H : Hp} {l : Addr} {rs : List (List Int)} (R : Rows H l rs) : IsL K H (IsL K H IsI) (.ref l) rs := by
  obtain ⟨as, e, n, hl, h⟩ := R
  refine ⟨l, _, rfl, SqL.of e, by simpa using hl, fun j x y h1 h2 => ?_⟩
  have j2 := (List.getElem?_eq_some_iff.mp h2)
  obtain ⟨j2, e2⟩ := j2
  have j1 : j < as.length := by omega
  rw [List.getElem?_map, List.getElem?_eq_getElem j1] at h1
  have h1' : x = V.ref as[j] := (Option.some.inj h1).symm
  rw [h1', ← e2]
  exact isL_ints (SqL.of (h j j1 j2))
end L2


set_option Elab.async false
set_option linter.all false
set_option maxRecDepth 100000
set_option maxHeartbeats 1000000
namespace L2
open PySem PySem.Spec PyProof.Rows PySem.W


section
variable {X : Cx} {a b c d : Expr} {ta tb tc td : TE} {pos : Pos}
def tChain3 (r r' r'' : R2) (ta tb tc td : TE) : TE := fun σ H Q => ta σ H fun x H1 => tb σ H1 fun y H2 => r x y H2 fun z H3 => ∃ k, z = .bl k ∧
  (if k = true then tc σ H3 fun y' H4 => r' y y' H4 fun z' H5 => ∃ k', z' = .bl k' ∧ (if k' = true then td σ H5 fun y'' H6 => r'' y' y'' H6 Q else Q (.bl false) H5) else Q (.bl false) H3)
def rBits : V → List V → Hp → VK → Prop := fun x vs H Q => ∃ i, x = .int i ∧ vs = [] ∧ Q (.int (Builtin.Int.intBits i : Nat)) H
def iSeq (K : Frag) (tl : TE) : TI := fun σ H R => tl σ H fun x H1 => ∃ a, x = .ref a ∧ (((∃ xs, SqL K H1 a xs) ∧ R (Itl K a) H1) ∨ ((∃ xs, SqT K H1 a xs) ∧ R (Itt K a) H1))
end

def CA (n : Nat) (Pv : Nat → List V → Hp → Prop) (i m : Nat) (acc : List V) (H : Hp) : Prop := m = n - i ∧ i ≤ n ∧ acc.length ≤ i ∧ Pv i acc H
theorem CA.take {n : Nat} {Pv : Nat → List V → Hp → Prop} {i : Nat} {acc : List V} {v : V} {H : Hp} (hi : i < n) (hl : acc.length ≤ i) (h : Pv (i + 1) (acc ++ [v]) H) : ∃ m', m' < n - i ∧ CA n Pv (i + 1) m' (acc ++ [v]) H := ⟨n - (i + 1), by omega, rfl, hi, by simp; omega, h⟩
theorem CA.skip {n : Nat} {Pv : Nat → List V → Hp → Prop} {i : Nat} {acc : List V} {H : Hp} (hi : i < n) (hl : acc.length ≤ i) (h : Pv (i + 1) acc H) : ∃ m', m' < n - i ∧ CA n Pv (i + 1) m' acc H := ⟨n - (i + 1), by omega, rfl, hi, by omega, h⟩
theorem comp_inv {J : It} {n : Nat} {H1 : Hp} {g : TG} {tt : TT} {te : TE} {σ0 : St} {Q : VK} (Pv : Nat → List V → Hp → Prop) (hn : n < sizeLine) (h0 : Pv 0 [] H1) (hgo : ∀ i acc H, Pv i acc H → i < n → J.go i H) (hstop : ∀ acc H, Pv n acc H → J.stop n H)
    (hb : ∀ i x acc H H', i < n → acc.length ≤ i → Pv i acc H → J.yld i H x H' → g x σ0 H' fun σ2 H2 => tt σ2 H2 fun b H3 => if b = true then te σ2 H3 fun v H4 => ∃ m', m' < n - i ∧ CA n Pv (i + 1) m' (acc ++ [v]) H4 else ∃ m', m' < n - i ∧ CA n Pv (i + 1) m' acc H3)
    (hk : ∀ l acc H', Pv n acc H' → acc.length ≤ n → H' l = none → Q (.ref l) (upd H' l (.lst acc))) : CompR J g tt te σ0 Q H1 := by
  refine ⟨CA n Pv, ⟨n, rfl, Nat.zero_le _, Nat.le_refl _, h0⟩, ?_⟩
  rintro i m acc H ⟨rfl, hi, hl, p⟩
  by_cases h : i < n
  · exact .inr ⟨hgo i acc H p h, by omega, fun x H' y => hb i x acc H H' h hl p y⟩
  · have e : i = n := by omega
    subst e
    exact .inl ⟨hstop acc H p, by omega, fun q hq => hk q acc H p hl hq⟩

def IsQ (K : Frag) (H : Hp) {α : Type} (P : V → α → Prop) (v : V) (as : List α) : Prop := ∃ a xs, v = .ref a ∧ (SqL K H a xs ∨ SqT K H a xs) ∧ xs.length = as.length ∧ ∀ (j : Nat) (x : V) (y : α), xs[j]? = some x → as[j]? = some y → P x y
theorem IsQ.mono {K : Frag} {H H' : Hp} {α : Type} {P P' : V → α → Prop} {v : V} {as : List α} (h : IsQ K H P v as) (s : Same H H') (hp : ∀ x y, P x y → P' x y) : IsQ K H' P' v as := by
  obtain ⟨a, xs, e, q, l, r⟩ := h
  exact ⟨a, xs, e, s.q q, l, fun j x y h1 h2 => hp _ _ (r j x y h1 h2)⟩
theorem IsI.list {xs : List V} {ns : List Int} (hl : xs.length = ns.length) (h : ∀ (j : Nat) (x : V) (y : Int), xs[j]? = some x → ns[j]? = some y → IsI x y) : xs = ns.map V.int := by
  refine List.ext_getElem (by simpa using hl) fun j h1 h2 => ?_
  have h2' : j < ns.length := by simpa using h2
  rw [List.getElem_map]
  exact h j _ _ (List.getElem?_eq_getElem h1) (List.getElem?_eq_getElem h2')
theorem IsQ.at {K : Frag} {H : Hp} {α : Type} {P : V → α → Prop} {a : Addr} {as : List α} (h : IsQ K H P (.ref a) as) {j : Nat} (hj : j < as.length) : ∃ xs x, (SqL K H a xs ∨ SqT K H a xs) ∧ atI xs (j : Int) = some x ∧ P x as[j] := by
  obtain ⟨b, xs, e, q, l, r⟩ := h
  cases e
  have hj' : j < xs.length := by omega
  exact ⟨xs, xs[j], q, atI_at rfl hj', r j _ _ (List.getElem?_eq_getElem hj') (List.getElem?_eq_getElem hj)⟩

def ItemsOf2 (F : List V → HO) (H : Hp) (rs : List (List Int)) (acc : List V) : Prop := acc.length = rs.length ∧ ∀ (j : Nat) (x : V) (ns : List Int), acc[j]? = some x → rs[j]? = some ns → ∃ a, x = .ref a ∧ H a = some (F (ns.map V.int))
theorem Rows.walk {K : Frag} {H1 : Hp} {d : Addr} {rs : List (List Int)} (R : Rows H1 d rs) : (∀ i H, Same H1 H → i < rs.length → (Itl K d).go i H) ∧ (∀ H, Same H1 H → (Itl K d).stop rs.length H) ∧
    ∀ i x H H' (h : i < rs.length), Same H1 H → (Itl K d).yld i H x H' → H' = H ∧ ∃ a, x = .ref a ∧ H a = some (.lst (rs[i].map V.int)) := by
  obtain ⟨as, e, n, hl, hh⟩ := R
  refine ⟨fun i H s hi => ⟨_, V.ref (as[i]'(by omega)), SqL.of (s _ _ e), by simp [show i < as.length by omega]⟩, fun H s => ⟨_, SqL.of (s _ _ e), by simp [hl]⟩, fun i x H H' hi s y => ?_⟩
  obtain ⟨e1, y⟩ := y
  have h1 := y _ (SqL.of (s _ _ e))
  have hia : i < as.length := by omega
  rw [List.getElem?_map, List.getElem?_eq_getElem hia] at h1
  exact ⟨e1, as[i], (Option.some.inj h1).symm, s _ _ (hh i hia hi)⟩
theorem ItemsOf2.isL {K : Frag} {H : Hp} {rs : List (List Int)} {acc : List V} {l : Addr} (h : ItemsOf2 HO.lst H rs acc) (hl : H l = some (.lst acc)) : IsL K H (IsL K H IsI) (.ref l) rs :=
  ⟨l, acc, rfl, SqL.of hl, h.1, fun j x y h1 h2 => by obtain ⟨a, rfl, e⟩ := h.2 j x y h1 h2; exact isL_ints (SqL.of e)⟩
theorem IsQ.same {K : Frag} {H H' : Hp} {v : V} {rs : List (List Int)} (h : IsQ K H (IsQ K H IsI) v rs) (s : Same H H') : IsQ K H' (IsQ K H' IsI) v rs := h.mono s fun x y q => q.mono s fun _ _ z => z

theorem IsQ.walk {K : Frag} {H1 : Hp} {l : Addr} {rs : List (List Int)} {R : It → Hp → Prop} (h : IsQ K H1 (IsQ K H1 IsI) (.ref l) rs)
    (hk : ∀ J : It, (∀ i H, Same H1 H → i < rs.length → J.go i H) → (∀ H, Same H1 H → J.stop rs.length H) → (∀ i x H H' (h : i < rs.length), Same H1 H → J.yld i H x H' → H' = H ∧ IsQ K H IsI x rs[i]) → R J H1) :
    ((∃ xs, SqL K H1 l xs) ∧ R (Itl K l) H1) ∨ ((∃ xs, SqT K H1 l xs) ∧ R (Itt K l) H1) := by
  obtain ⟨b, xs, e, q, hl, r⟩ := h
  cases e
  rcases q with q | q
  · refine .inl ⟨⟨_, q⟩, hk _ (fun i H s hi => ⟨xs, xs[i]'(by omega), s.seq q, List.getElem?_eq_getElem (by omega)⟩) (fun H s => ⟨xs, s.seq q, by omega⟩) fun i x H H' hi s y => ?_⟩
    obtain ⟨e1, y⟩ := y
    exact ⟨e1, (r i x _ (y _ (s.seq q)) (List.getElem?_eq_getElem hi)).mono s fun _ _ z => z⟩
  · refine .inr ⟨⟨_, q⟩, hk _ (fun i H s hi => ⟨xs, xs[i]'(by omega), s.seqT q, List.getElem?_eq_getElem (by omega)⟩) (fun H s => ⟨xs, s.seqT q, by omega⟩) fun i x H H' hi s y => ?_⟩
    obtain ⟨e1, y⟩ := y
    exact ⟨e1, (r i x _ (y _ (s.seqT q)) (List.getElem?_eq_getElem hi)).mono s fun _ _ z => z⟩

theorem ItemsOf2.same {F : List V → HO} {H H' : Hp} {rs : List (List Int)} {acc : List V} (h : ItemsOf2 F H rs acc) (s : Same H H') : ItemsOf2 F H' rs acc := ⟨h.1, fun j x ns h1 h2 => by obtain ⟨a, e1, e2⟩ := h.2 j x ns h1 h2; exact ⟨a, e1, s _ _ e2⟩⟩
theorem PoolAt.some {H : Hp} {p : Addr} (P : PoolAt H p) : H p ≠ none := fun z => by obtain ⟨x, y, e, _⟩ := P; rw [z] at e; cases e
end L2


set_option Elab.async false
set_option linter.all false
set_option maxRecDepth 100000
set_option maxHeartbeats 1000000
namespace L2
open PySem PySem.Spec PyProof.Rows PySem.W


section
variable {X : Cx}
def rInsert : V → List V → Hp → VK → Prop := fun x vs H Q => ∃ l xs i y, x = .ref l ∧ vs = [.int i, y] ∧ H l = some (.lst xs) ∧ 0 ≤ i ∧ i < 2 ^ 62 ∧ xs.length < sizeLine ∧ Q .non (upd H l (.lst (xs.take i.toNat ++ y :: xs.drop i.toNat)))
theorem Vals.takeN : ∀ {xs : List V} {us : List Value} (k : Nat), Vals xs us → Vals (xs.take k) (us.take k)
  | _, _, 0, _ => by simp; exact .nil
  | _, _, _ + 1, .nil => .nil
  | _, _, k + 1, .cons r h => .cons r (Vals.takeN k h)
theorem Vals.dropN : ∀ {xs : List V} {us : List Value} (k : Nat), Vals xs us → Vals (xs.drop k) (us.drop k)
  | _, _, 0, h => by simpa using h
  | _, _, _ + 1, .nil => .nil
  | _, _, k + 1, .cons _ h => Vals.dropN k h
theorem mt_insert : MtM X "list.insert" rInsert := by
  intro pins s σ H x vs v us Q I rx rv h
  obtain ⟨l, xs, i, y, rfl, rfl, hH, h1, h2, hz, q⟩ := h
  cases rx
  obtain ⟨u, u2, rfl, ru, ru2⟩ := rv.two
  obtain ⟨t, rfl⟩ := ru
  obtain ⟨z, its, n, r, hl, e⟩ := I.lstM hH
  have hf : ¬ (!Builtin.List.listFitsIndex i) = true := by
    unfold Builtin.List.listFitsIndex
    have a1 : decide (-(2 ^ 63 : Int) ≤ i) = true := decide_eq_true (by omega)
    have a2 : decide (i < (2 ^ 63 : Int)) = true := decide_eq_true (by omega)
    rw [a1, a2]; decide
  refine call_meets F.slot_list_insert ⟨_, e, rfl⟩ F.entry_list_insert (F.args_list_insert_3 _ _ _) (AutoListH.list_insert_list_int_val_1 l its.toArray n i t u2 hf (by rw [List.size_toArray]; omega)) ⟨e, ?_⟩
  refine ⟨.non, _, I.lset (its' := its.take i.toNat ++ u2 :: its.drop i.toNat) (ys := xs.take i.toNat ++ y :: xs.drop i.toNat) hH e ?_ ((r.takeN _).append (.cons ru2 (r.dropN _))) ?_, rfl, q⟩
  · show ((its.toArray.extract 0 (if i < 0 then (i + ((its.toArray.size : Nat) : Int)).toNat else min i.toNat its.toArray.size)).push u2 ++ its.toArray.extract (if i < 0 then (i + ((its.toArray.size : Nat) : Int)).toNat else min i.toNat its.toArray.size)) = _
    rw [if_neg (by omega)]
    have e1 : its.take (min i.toNat its.length) = its.take i.toNat := by
      by_cases hh : i.toNat ≤ its.length
      · rw [Nat.min_eq_left hh]
      · rw [Nat.min_eq_right (by omega), List.take_of_length_le (by omega), List.take_of_length_le (by omega)]
    have e2 : its.drop (min i.toNat its.length) = its.drop i.toNat := by
      by_cases hh : i.toNat ≤ its.length
      · rw [Nat.min_eq_left hh]
      · rw [Nat.min_eq_right (by omega), List.drop_of_length_le (by omega), List.drop_of_length_le (by omega)]
    apply Array.ext'
    simp [e1, e2]
    exact List.take_of_length_le (by rw [List.length_drop]; omega)
  · rw [List.length_append, List.length_cons, List.length_take, List.length_drop]; omega
def rIndex (K : Frag) : V → List V → Hp → VK → Prop := fun x vs H Q => ∃ (l : Addr) (ns : List Int) (k : Int), x = .ref l ∧ vs = [.int k] ∧ SqL K H l (ns.map V.int) ∧ ns.length ≤ 100000 ∧ k ∈ ns ∧ Q (.int (ns.idxOf k : Nat)) H
theorem mt_index {K : Frag} (hK : X.K = K) : MtM X "list.index" (rIndex K) := by
  subst hK
  intro pins s σ H x vs v us Q I rx rv h
  obtain ⟨l, ns, k, rfl, rfl, hH, hz, hk, q⟩ := h
  cases rx
  obtain ⟨u, rfl, ru⟩ := rv.one
  obtain ⟨t, rfl⟩ := ru
  obtain ⟨its, r, pl, _⟩ := I.list hH
  have hi : IntsAre its ns := intsAre_of r
  have hlen := r.length
  rw [List.length_map] at hlen
  obtain ⟨⟨cls, dd, data, sl⟩, ho, hc, n, hd⟩ := pl.isList
  simp only at hc hd
  subst hc hd
  have hj : ns.idxOf k < ns.length := List.idxOf_lt_length_iff.mpr hk
  refine call_meets F.slot_list_index ⟨_, ho, rfl⟩ F.entry_list_index (F.args_list_index_2 _ _)
    (SeqAt.list_indexAt l its.toArray n dd sl (.int k t) (isInt k) (ns.idxOf k) (by rw [List.size_toArray]; omega) (by omega) ?_ ?_) ⟨ho, fun y hy => (eq_isInt k t hi y (by simpa using hy)).at _ _, ⟨.int _, H, I.tok _, ⟨_, rfl⟩, q⟩⟩
  · show isInt k its[ns.idxOf k] = true
    rw [isInt_at k hi _ (by omega) hj]
    simpa using List.getElem_idxOf hj
  · intro j hjs hlt
    show isInt k its[j] = false
    rw [isInt_at k hi j (by simpa using hjs) (by omega)]
    exact ne_of_lt_idxOf hlt _
end
def rIntB : List V → Hp → VK → Prop := fun xs H Q => ∃ k, xs = [.bl k] ∧ Q (.int (if k = true then 1 else 0)) H
def PotAt (H : Hp) (p : Addr) : Prop := ∃ x : Int, H p = some (.lst [.int x]) ∧ 0 ≤ x
theorem PotAt.ne {H : Hp} {p q : Addr} (P : PotAt H p) (h : H q = none) : q ≠ p := by
  obtain ⟨x, e, _⟩ := P
  exact (ne_of_none e h).symm
theorem PotAt.same {H H' : Hp} {p : Addr} (P : PotAt H p) (s : Same H H') : PotAt H' p := by
  obtain ⟨x, e, r⟩ := P
  exact ⟨x, s _ _ e, r⟩
theorem PotAt.upd {H : Hp} {p q : Addr} {o : HO} (P : PotAt H p) (h : H q = none) : PotAt (L2.upd H q o) p := P.same ((Same.refl H).upd h)
theorem PotAt.updN {H : Hp} {p q : Addr} {o : HO} (P : PotAt H p) (h : q ≠ p) : PotAt (L2.upd H q o) p := by
  obtain ⟨x, e, r⟩ := P
  exact ⟨x, by rw [upd_ne h.symm]; exact e, r⟩
theorem PotAt.some {H : Hp} {p : Addr} (P : PotAt H p) : H p ≠ none := fun z => by obtain ⟨x, e, _⟩ := P; rw [z] at e; cases e
theorem cp60 : CPow 10 60 := by unfold CPow; decide
theorem qm1 : IntMulOk (10 ^ Int.toNat 60) (10 ^ Int.toNat 60) := big_mul (by decide +kernel) (by decide +kernel)
theorem qm2 : IntMulOk (10 ^ Int.toNat 60 * 10 ^ Int.toNat 60) (10 ^ Int.toNat 60) := big_mul (by decide +kernel) (by decide +kernel)
theorem qm3 : IntMulOk (10 ^ Int.toNat 60 * 10 ^ Int.toNat 60 * 10 ^ Int.toNat 60) (10 ^ Int.toNat 60) := big_mul (by decide +kernel) (by decide +kernel)
theorem qm4 : (0 : Int) < 10 ^ Int.toNat 60 * 10 ^ Int.toNat 60 * 10 ^ Int.toNat 60 * 10 ^ Int.toNat 60 := by decide +kernel
end L2


set_option Elab.async false
set_option linter.all false
set_option maxRecDepth 100000
set_option maxHeartbeats 1000000
namespace L2


def IsPrev (f : Nat → Int) (p q : Nat) : Prop := q < p ∧ f q ≤ f p ∧ ∀ r, q < r → r < p → f p < f r
def IsNext (f : Nat → Int) (n p r : Nat) : Prop := p < r ∧ r < n ∧ f r < f p ∧ ∀ s, p < s → s < r → f p ≤ f s
def NoPrev (f : Nat → Int) (p : Nat) : Prop := ∀ q, q < p → f p < f q
def NoNext (f : Nat → Int) (n p : Nat) : Prop := ∀ r, p < r → r < n → f p ≤ f r

def ElderIs (f : Nat → Int) (n p : Nat) (e : Int) : Prop :=
  (NoPrev f p ∧ NoNext f n p ∧ e = -1) ∨ (∃ q, IsPrev f p q ∧ NoNext f n p ∧ e = q) ∨ (∃ r, NoPrev f p ∧ IsNext f n p r ∧ e = r) ∨
  ∃ q r, IsPrev f p q ∧ IsNext f n p r ∧ e = if f q ≤ f r then (r : Int) else q
theorem exists_last {P : Nat → Prop} [DecidablePred P] (i : Nat) : ∀ d r, r + d = i → P r → ∃ t, r ≤ t ∧ t ≤ i ∧ P t ∧ ∀ s, t < s → s ≤ i → ¬ P s := by
  intro d
  induction d with
  | zero => intro r e h; exact ⟨r, Nat.le_refl _, by omega, h, fun s h1 h2 => by omega⟩
  | succ d ih =>
    intro r e h
    by_cases hx : ∃ t, r < t ∧ t ≤ i ∧ P t
    · obtain ⟨t, h1, h2, h3⟩ := hx
      -- step to r + 1 by cases
      by_cases h4 : P (r + 1)
      · obtain ⟨u, u1, u2, u3, u4⟩ := ih (r + 1) (by omega) h4
        exact ⟨u, by omega, u2, u3, u4⟩
      · -- go on from the next one
        have gen : ∀ k t, t + k = i → r < t → P t → ∃ u, r ≤ u ∧ u ≤ i ∧ P u ∧ ∀ s, u < s → s ≤ i → ¬ P s := by
          intro k
          induction k with
          | zero => intro t e h1 h3; exact ⟨t, by omega, by omega, h3, fun s h1 h2 => by omega⟩
          | succ k ihk =>
            intro t e h1 h3
            by_cases hy : ∃ s, t < s ∧ s ≤ i ∧ P s
            · -- the last one of the rest
              have key : ∀ m, m ≤ i → (∃ s, t < s ∧ s ≤ m ∧ P s) → ∃ u, t < u ∧ u ≤ m ∧ P u ∧ ∀ s, u < s → s ≤ m → ¬ P s := by
                intro m
                induction m with
                | zero => rintro _ ⟨s, h5, h6, _⟩; omega
                | succ m ihm =>
                  rintro hm ⟨s, h5, h6, h7⟩
                  by_cases hp : P (m + 1)
                  · exact ⟨m + 1, by omega, Nat.le_refl _, hp, fun s h1 h2 => by omega⟩
                  · have hs : s ≤ m := by
                      rcases Nat.lt_or_ge m s with z | z
                      · have : s = m + 1 := by omega
                        rw [this] at h7; exact absurd h7 hp
                      · exact z
                    obtain ⟨u, u1, u2, u3, u4⟩ := ihm (by omega) ⟨s, h5, hs, h7⟩
                    refine ⟨u, u1, by omega, u3, fun s' h1 h2 => ?_⟩
                    by_cases e : s' = m + 1
                    · rw [e]; exact hp
                    · exact u4 s' h1 (by omega)
              obtain ⟨u, u1, u2, u3, u4⟩ := key i (Nat.le_refl _) hy
              exact ⟨u, by omega, u2, u3, u4⟩
            · exact ⟨t, by omega, by omega, h3, fun s h1 h2 h5 => hy ⟨s, h1, h2, h5⟩⟩
        exact gen (i - t) t (by omega) h1 h3
    · exact ⟨r, Nat.le_refl _, by omega, h, fun s h1 h2 h3 => hx ⟨s, h1, h2, h3⟩⟩

theorem last_below {P : Nat → Prop} [DecidablePred P] {n r : Nat} (hr : r < n) (h : P r) : ∃ t, r ≤ t ∧ t < n ∧ P t ∧ ∀ s, t < s → s < n → ¬ P s := by
  obtain ⟨t, h1, h2, h3, h4⟩ := exists_last (P := P) (n - 1) (n - 1 - r) r (by omega) h
  exact ⟨t, h1, by omega, h3, fun s a b => h4 s a (by omega)⟩
def Spine (f : Nat → Int) (i : Nat) (sp : List Nat) : Prop := sp.Pairwise (· < ·) ∧ ∀ q, q ∈ sp ↔ q < i ∧ ∀ r, q < r → r < i → f q ≤ f r
theorem prev_or (f : Nat → Int) (p : Nat) : NoPrev f p ∨ ∃ q, IsPrev f p q := by
  by_cases h : ∃ q, q < p ∧ f q ≤ f p
  · obtain ⟨q, h1, h2⟩ := h
    obtain ⟨t, _, t2, t3, t4⟩ := last_below (P := fun q => f q ≤ f p) h1 h2
    exact .inr ⟨t, t2, t3, fun r a b => by have := t4 r a b; omega⟩
  · exact .inl fun q hq => by
      have : ¬ (f q ≤ f p) := fun z => h ⟨q, hq, z⟩
      omega

theorem prev_open {f : Nat → Int} {i p q : Nat} (hp : p < i) (ho : ∀ r, p < r → r < i → f p ≤ f r) (h : IsPrev f p q) : (∀ r, q < r → r < i → f q ≤ f r) ∧ ∀ s, q < s → s < p → ¬ ∀ r, s < r → r < i → f s ≤ f r := by
  obtain ⟨h1, h2, h3⟩ := h
  refine ⟨fun r a b => ?_, fun s a b z => ?_⟩
  · rcases Nat.lt_trichotomy r p with c | c | c
    · have := h3 r a c; omega
    · rw [c]; exact h2
    · have := ho r c b; omega
  · have := z p b hp
    have := h3 s a b
    omega
theorem spine_step {f : Nat → Int} {i : Nat} {A B : List Nat} (hs : Spine f i (A ++ B)) (hA : ∀ q ∈ A, f q ≤ f i) (hB : ∀ q ∈ B, f i < f q) :
    Spine f (i + 1) (A ++ [i]) ∧ ElderIs f (i + 1) i (match A.getLast? with | some q => (q : Int) | none => -1) ∧ ∀ p e, p < i → ElderIs f i p e → ElderIs f (i + 1) p (if B.head? = some p then (i : Int) else e) := by
  obtain ⟨hso, hm⟩ := hs
  have hAB := List.pairwise_append.mp hso
  have noNx : NoNext f (i + 1) i := fun r a b => by omega
  refine ⟨⟨?_, fun q => ?_⟩, ?_, fun p e hp he => ?_⟩
  · refine List.pairwise_append.mpr ⟨hAB.1, List.pairwise_singleton _ _, fun a ha b hb => ?_⟩
    have : b = i := by simpa using hb
    rw [this]
    exact ((hm a).mp (List.mem_append_left _ ha)).1
  · rw [List.mem_append, List.mem_singleton]
    constructor
    · rintro (h | h)
      · obtain ⟨h1, h2⟩ := (hm q).mp (List.mem_append_left _ h)
        refine ⟨by omega, fun r a b => ?_⟩
        by_cases e : r = i
        · rw [e]; exact hA q h
        · exact h2 r a (by omega)
      · subst h; exact ⟨by omega, fun r a b => by omega⟩
    · rintro ⟨h1, h2⟩
      by_cases e : q = i
      · exact .inr e
      · have hq : q ∈ A ++ B := (hm q).mpr ⟨by omega, fun r a b => h2 r a (by omega)⟩
        rcases List.mem_append.mp hq with h | h
        · exact .inl h
        · have := hB q h
          have := h2 i (by omega) (by omega)
          omega
  · -- the elder of i
    rcases prev_or f i with h | ⟨q, h⟩
    · have hA0 : A = [] := by
        cases A with
        | nil => rfl
        | cons a r =>
          have h1 := ((hm a).mp (by simp)).1
          have := hA a (by simp)
          have := h a h1
          omega
      rw [hA0]
      exact .inl ⟨h, noNx, rfl⟩
    · have ho : ∀ r, q < r → r < i → f q ≤ f r := fun r a b => by have := h.2.2 r a b; have := h.2.1; omega
      have hqA : q ∈ A := by
        rcases List.mem_append.mp ((hm q).mpr ⟨h.1, ho⟩) with z | z
        · exact z
        · have := hB q z; have := h.2.1; omega
      have hlast : A.getLast? = some q := by
        have hne : A ≠ [] := fun z => by rw [z] at hqA; cases hqA
        rw [List.getLast?_eq_some_getLast hne]
        congr 1
        have hl : A.getLast hne ∈ A := List.getLast_mem hne
        -- q ≤ last, and last is not past q
        by_cases e : A.getLast hne = q
        · exact e
        · exfalso
          have hlt : q < A.getLast hne := by
            have hd := List.dropLast_concat_getLast hne
            have hq2 : q ∈ A.dropLast := by
              rw [← hd] at hqA
              rcases List.mem_append.mp hqA with z | z
              · exact z
              · exact absurd (by simpa using z) (Ne.symm e)
            have hp2 := hAB.1
            rw [← hd] at hp2
            exact (List.pairwise_append.mp hp2).2.2 q hq2 _ (by simp)
          have h1 := ((hm (A.getLast hne)).mp (List.mem_append_left _ hl)).1
          have := h.2.2 _ hlt h1
          have := hA _ hl
          omega
      rw [hlast]
      exact .inr (.inl ⟨q, h, noNx, rfl⟩)
  · -- the elder of an earlier place
    have nxt : ∀ r, IsNext f i p r → IsNext f (i + 1) p r := fun r ⟨a, b, c, d⟩ => ⟨a, by omega, c, d⟩
    by_cases hop : NoNext f i p
    · have hmem : p ∈ A ++ B := (hm p).mpr ⟨hp, hop⟩
      by_cases hlt : f i < f p
      · have hnx : IsNext f (i + 1) p i := ⟨hp, by omega, hlt, fun s a b => hop s a b⟩
        have hpB : p ∈ B := by
          rcases List.mem_append.mp hmem with z | z
          · have := hA p z; omega
          · exact z
        obtain ⟨b0, Br, rfl⟩ : ∃ b0 Br, B = b0 :: Br := by
          cases B with
          | nil => cases hpB
          | cons b0 Br => exact ⟨b0, Br, rfl⟩
        have hhead : (b0 :: Br).head? = some b0 := rfl
        rw [hhead]
        rcases prev_or f p with hn | ⟨q, hq⟩
        · -- nothing ahead: p is the first of all
          have e0 : b0 = p := by
            by_cases z : b0 = p
            · exact z
            · exfalso
              have hpr : p ∈ Br := by
                rcases List.mem_cons.mp hpB with y | y
                · exact absurd y.symm z
                · exact y
              have hlt2 : b0 < p := (List.pairwise_cons.mp hAB.2.1).1 p hpr
              have := ((hm b0).mp (by simp)).2 p hlt2 hp
              have := hn b0 hlt2
              omega
          rw [if_pos (by rw [e0])]
          exact .inr (.inr (.inl ⟨i, hn, hnx, rfl⟩))
        · obtain ⟨hq1, hq2⟩ := prev_open hp hop hq
          have hqm : q ∈ A ++ b0 :: Br := (hm q).mpr ⟨Nat.lt_trans hq.1 hp, hq1⟩
          by_cases hqi : f q ≤ f i
          · -- q is kept: p is the first of B
            have e0 : b0 = p := by
              by_cases z : b0 = p
              · exact z
              · exfalso
                have hpr : p ∈ Br := by
                  rcases List.mem_cons.mp hpB with y | y
                  · exact absurd y.symm z
                  · exact y
                have hlt2 : b0 < p := (List.pairwise_cons.mp hAB.2.1).1 p hpr
                have hb0 := (hm b0).mp (by simp)
                have hqA : q ∈ A := by
                  rcases List.mem_append.mp hqm with y | y
                  · exact y
                  · have := hB q y; omega
                have hqb : q < b0 := hAB.2.2 q hqA b0 (by simp)
                exact hq2 b0 hqb hlt2 hb0.2
            rw [if_pos (by rw [e0])]
            refine .inr (.inr (.inr ⟨q, i, hq, hnx, ?_⟩))
            rw [if_pos hqi]
          · -- q goes, too: the elder stays
            have hqB : q ∈ b0 :: Br := by
              rcases List.mem_append.mp hqm with y | y
              · exact absurd (hA q y) hqi
              · exact y
            have hne : b0 ≠ p := by
              intro z
              subst z
              rcases List.mem_cons.mp hqB with y | y
              · have := hq.1; omega
              · have := (List.pairwise_cons.mp hAB.2.1).1 q y
                have := hq.1; omega
            rw [if_neg (by intro z; exact hne (Option.some.inj z))]
            have ee : e = q := by
              rcases he with ⟨h1, _, _⟩ | ⟨q', h1, _, h3⟩ | ⟨r, h1, _, _⟩ | ⟨q', r, _, h2, _⟩
              · have := h1 q hq.1; have := hq.2.1; omega
              · have : q' = q := by
                  rcases Nat.lt_trichotomy q' q with y | y | y
                  · have := h1.2.2 q y hq.1; have := hq.2.1; omega
                  · exact y
                  · have := hq.2.2 q' y h1.1; have := h1.2.1; omega
                rw [h3, this]
              · have := h1 q hq.1; have := hq.2.1; omega
              · have := hop r h2.1 h2.2.1; have := h2.2.2.1; omega
            refine .inr (.inr (.inr ⟨q, i, hq, hnx, ?_⟩))
            rw [if_neg hqi, ee]
      · -- still open: not of B
        have hnn : NoNext f (i + 1) p := fun r a b => by
          by_cases z : r = i
          · rw [z]; omega
          · exact hop r a (by omega)
        have hne : B.head? ≠ some p := fun z => by
          have : p ∈ B := List.mem_of_head? z
          have := hB p this
          omega
        rw [if_neg hne]
        rcases he with ⟨h1, _, h3⟩ | ⟨q, h1, _, h3⟩ | ⟨r, _, h2, _⟩ | ⟨q, r, _, h2, _⟩
        · exact .inl ⟨h1, hnn, h3⟩
        · exact .inr (.inl ⟨q, h1, hnn, h3⟩)
        · have := hop r h2.1 h2.2.1; have := h2.2.2.1; omega
        · have := hop r h2.1 h2.2.1; have := h2.2.2.1; omega
    · -- shut already
      have hne : B.head? ≠ some p := fun z => hop ((hm p).mp (List.mem_append_right _ (List.mem_of_head? z))).2
      rw [if_neg hne]
      rcases he with ⟨_, h2, _⟩ | ⟨q, _, h2, _⟩ | ⟨r, h1, h2, h3⟩ | ⟨q, r, h1, h2, h3⟩
      · exact absurd h2 hop
      · exact absurd h2 hop
      · exact .inr (.inr (.inl ⟨r, h1, nxt r h2, h3⟩))
      · exact .inr (.inr (.inr ⟨q, r, h1, nxt r h2, h3⟩))
end L2


set_option Elab.async false
set_option linter.all false
set_option maxRecDepth 100000
set_option maxHeartbeats 1000000
namespace L2
open PySem PySem.Spec PyProof.Rows PySem.W


theorem fm_congr {α β : Type} {f g : α → Option β} : ∀ {l : List α}, (∀ x ∈ l, f x = g x) → l.filterMap f = l.filterMap g
  | [], _ => rfl
  | x :: r, h => by rw [List.filterMap_cons, List.filterMap_cons, h x (List.mem_cons_self ..), fm_congr fun y hy => h y (List.mem_cons_of_mem _ hy)]
theorem keep_take (its : List Value) (k : Nat) (hk : k ≤ its.length) (start : Nat) : (its.zipIdx start).filterMap (fun xk => if (decide (((start + k : Nat) : Int) ≤ (xk.2 : Int)) && decide ((xk.2 : Int) < ((start + its.length : Nat) : Int)) && (((xk.2 : Int) - ((start + k : Nat) : Int)) % 1 == 0)) = true then none else some xk.1) = its.take k := by
  induction its generalizing k start with
  | nil => simp
  | cons x r ih =>
    rw [List.zipIdx_cons, List.filterMap_cons]
    cases k with
    | zero =>
      have h1 : (decide (((start + 0 : Nat) : Int) ≤ (start : Int)) && decide ((start : Int) < ((start + (x :: r).length : Nat) : Int)) && (((start : Int) - ((start + 0 : Nat) : Int)) % 1 == 0)) = true := by
        simp; omega
      simp only [h1, if_true]
      have := ih 0 (by omega) (start + 1)
      rw [List.take_zero] at this ⊢
      rw [← this]
      refine fm_congr fun xk hxk => ?_
      have hm := List.mem_zipIdx hxk
      have e1 : (decide (((start + 0 : Nat) : Int) ≤ (xk.2 : Int))) = (decide (((start + 1 + 0 : Nat) : Int) ≤ (xk.2 : Int))) := by
        rw [decide_eq_decide]; omega
      have e2 : ((start + (x :: r).length : Nat) : Int) = ((start + 1 + r.length : Nat) : Int) := by simp; omega
      have e3 : (((xk.2 : Int) - ((start + 0 : Nat) : Int)) % 1 == 0) = (((xk.2 : Int) - ((start + 1 + 0 : Nat) : Int)) % 1 == 0) := by simp [Int.emod_one]
      rw [e1, e2, e3]
    | succ k =>
      have h1 : (decide (((start + (k + 1) : Nat) : Int) ≤ (start : Int)) && decide ((start : Int) < ((start + (x :: r).length : Nat) : Int)) && (((start : Int) - ((start + (k + 1) : Nat) : Int)) % 1 == 0)) = false := by
        have : decide (((start + (k + 1) : Nat) : Int) ≤ (start : Int)) = false := decide_eq_false (by omega)
        rw [this]; rfl
      simp only [h1, Bool.false_eq_true, if_false]
      rw [List.take_succ_cons]
      congr 1
      have := ih k (by simpa using hk) (start + 1)
      rw [← this]
      refine fm_congr fun xk hxk => ?_
      have e1 : ((start + (k + 1) : Nat) : Int) = ((start + 1 + k : Nat) : Int) := by omega
      have e2 : ((start + (x :: r).length : Nat) : Int) = ((start + 1 + r.length : Nat) : Int) := by simp; omega
      rw [e1, e2]
section
variable {X : Cx} {e st : Expr} {te ts : TE} {pos pos1 p2 : Pos}
def tDelT (te ts : TE) : TS := fun D σ H => te σ H fun x H1 => ts σ H1 fun z H2 => ∃ (l : Addr) (xs : List V) (k : Nat), x = .ref l ∧ z = .int k ∧ H2 l = some (.lst xs) ∧ k ≤ xs.length ∧ D.nx σ (upd H2 l (.lst (xs.take k)))
theorem ps_delTail (he : PE X e te) (hs : PE X st ts) : PS X (.Delete [.Subscript e (.Slice (some st) none none p2) pos1] pos) (tDelT te ts) := by
  intro pins s σ H D I h
  refine wpAny_Delete (wpAny_deleteEach_cons ?_)
  show wpAny _ _ (eval e X.env >>= fun ov => holding [ov] (eval (.Slice (some st) none none p2) X.env) >>= fun iv => (do standAt pos1; holding [ov, iv] (delItem ov iv); release [ov, iv] [])) _ _ _
  refine wpAny_bind (thn (he pins s σ H _ I h) fun v s1 ⟨x, H1, I1, r1, q1⟩ => ?_)
  refine wpAny_bind (wpAny_holding ?_)
  refine wpAny_Slice ?_
  rw [evalPart_some]
  refine thn (hs pins s1 σ H1 _ I1 q1) fun vs s2 ⟨z, H2, I2, r2, l, xs, k, e1, e2, hx, hk, q⟩ => ?_
  subst e1 e2
  obtain ⟨tk, rfl⟩ := r2
  cases r1
  rw [evalPart_none]
  refine wpAny_pure ?_
  refine wpAny_pure ?_
  have I4 : Inv X pins σ H2 { s2 with heap := s2.heap.push { cls := .type "slice", data := .fields #[.int k tk, .none, .none] } } := I2.kept (t' := s2.toks) fun b ob q => Heap.get?_push_of_some _ q
  have hsl : ({ s2 with heap := s2.heap.push { cls := .type "slice", data := .fields #[.int k tk, .none, .none] } } : Shared).heap.get? s2.heap.objs.size = some { cls := .type "slice", data := .fields #[.int k tk, .none, .none] } := Heap.get?_push_size _ rfl
  obtain ⟨z, its, n, r, hlen, hob⟩ := I4.lstM hx
  generalize ({ s2 with heap := s2.heap.push { cls := .type "slice", data := .fields #[.int k tk, .none, .none] } } : Shared) = s4 at I4 hsl hob ⊢
  have hT : s4.TypeIs (.ref l) "list" := ⟨_, hob, rfl⟩
  have hTs : s4.TypeIs (.ref s2.heap.objs.size) "slice" := ⟨_, hsl, rfl⟩
  refine wpAny_bind (wpAny_standAt (wpAny_bind (wpAny_holding ?_)))
  refine wpAny_delItem_slot hT (by decide) F.slot_list_delitem (wpAny_call_entry F.slot_list_delitem hT F.entry_list_delitem ?_ (F.args_list_delitem_2 _ _))
  show wpAny _ _ (Builtin.List.listSubscript? (.ref s2.heap.objs.size) >>= _) _ _ s4
  refine wpAny_bind ?_; unfold Builtin.List.listSubscript?; refine wpAny_bind (wpAny_specialOf hTs slice_no_index ?_)
  simp only [Option.isNone_none, if_true]; refine wpAny_pure ?_
  show wpAny _ _ (typeOf (.ref s2.heap.objs.size) >>= _) _ _ s4
  refine wpAny_bind (wpAny_typeOf hTs ?_); rw [if_neg (by decide), listSliceParts_eq]
  refine wpAny_bind (wpAny_bind (wpAny_field hsl rfl (x := .none) rfl (wpAny_bind (wpAny_listPart (k := none) .none ?_)))); rw [if_neg (show ¬ ((rawPart none == rawInt 0) = true) from Bool.false_ne_true)]
  refine wpAny_bind (wpAny_field hsl rfl (x := .int k tk) rfl (wpAny_bind (wpAny_listPart (.int (k : Int) tk) ?_)))
  refine wpAny_bind (wpAny_field hsl rfl (x := .none) rfl (wpAny_bind (wpAny_listPart (k := none) .none (wpAny_pure ?_))))
  refine wpAny_bind (m := Builtin.List.listItems (.ref l)) ?_; unfold Builtin.List.listItems
  refine wpAny_bind (wpAny_seqItems hob rfl (wpAny_pure ?_)); refine wpAny_bind (wpAny_of_eq (sliceIndices_raw (some (k : Int)) none none its.toArray.size (by simp)) (wpAny_bind (wpAny_rule ?_)))
  have hb : sliceBounds (some (k : Int)) none none its.toArray.size = ((k : Int), ((its.length : Nat) : Int), 1) := by
    unfold sliceBounds
    simp
    omega
  rw [hb]
  have hf : ∀ f : Array Value → Array Value, (∀ ys : Array Value, f ys = (ys.toList.zipIdx.filterMap fun xk => if (decide ((k : Int) ≤ (xk.2 : Int)) && decide ((xk.2 : Int) < ((its.length : Nat) : Int)) && (((xk.2 : Int) - (k : Int)) % 1 == 0)) = true then none else some xk.1).toArray) → f its.toArray = (its.take k).toArray := fun f h => by
    rw [h]
    congr 1
    have := keep_take its k (by omega) 0
    simpa using this
  refine wpAny_bind (m := updateSeq l _) ?_
  refine wpAny_updateSeq (n := n) hob rfl ?_ (by rw [List.size_toArray]; omega) ?_
  · refine wpAny_bind (wpAny_letGo (wpAny_pure ⟨_, rfl, ?_⟩))
    refine wpAny_release (wpAny_deleteEach_nil ⟨σ, _, I4.lset hx hob (hf _ fun ys => rfl) (r.takeN k) ?_, q⟩)
    rw [List.length_take]; omega
  · rw [List.size_toArray]
    refine Nat.le_trans (List.length_filterMap_le _ _) ?_
    rw [List.length_zipIdx]
    show its.length ≤ sizeLine + 1
    omega
end
end L2


set_option Elab.async false
set_option linter.all false
set_option maxRecDepth 100000
set_option maxHeartbeats 1000000
namespace L2
open PySem PySem.Spec PyProof.Rows PySem.W


theorem IsPrev.unique {f : Nat → Int} {p q q' : Nat} (h : IsPrev f p q) (k : IsPrev f p q') : q = q' := by
  rcases Nat.lt_trichotomy q q' with z | z | z
  · have := h.2.2 q' z k.1; have := k.2.1; omega
  · exact z
  · have := k.2.2 q z h.1; have := h.2.1; omega
theorem IsNext.unique {f : Nat → Int} {n p r r' : Nat} (h : IsNext f n p r) (k : IsNext f n p r') : r = r' := by
  rcases Nat.lt_trichotomy r r' with z | z | z
  · have := k.2.2.2 r h.1 z; have := h.2.2.1; omega
  · exact z
  · have := h.2.2.2 r' k.1 z; have := k.2.2.1; omega
theorem IsPrev.no {f : Nat → Int} {p q : Nat} (h : IsPrev f p q) (k : NoPrev f p) : False := by have := k q h.1; have := h.2.1; omega
theorem IsNext.no {f : Nat → Int} {n p r : Nat} (h : IsNext f n p r) (k : NoNext f n p) : False := by have := k r h.1 h.2.1; have := h.2.2.1; omega
theorem ElderIs.unique {f : Nat → Int} {n p : Nat} {e e' : Int} (h : ElderIs f n p e) (k : ElderIs f n p e') : e = e' := by
  rcases h with ⟨h1, h2, h3⟩ | ⟨q, h1, h2, h3⟩ | ⟨r, h1, h2, h3⟩ | ⟨q, r, h1, h2, h3⟩ <;>
  rcases k with ⟨k1, k2, k3⟩ | ⟨q', k1, k2, k3⟩ | ⟨r', k1, k2, k3⟩ | ⟨q', r', k1, k2, k3⟩
  · rw [h3, k3]
  · exact (k1.no h1).elim
  · exact (k2.no h2).elim
  · exact (k1.no h1).elim
  · exact (h1.no k1).elim
  · rw [h3, k3, h1.unique k1]
  · exact (h1.no k1).elim
  · exact (k2.no h2).elim
  · exact (h2.no k2).elim
  · exact (k1.no h1).elim
  · rw [h3, k3, h2.unique k2]
  · exact (k1.no h1).elim
  · exact (h1.no k1).elim
  · exact (h2.no k2).elim
  · exact (h1.no k1).elim
  · rw [h3, k3, h1.unique k1, h2.unique k2]
def TreeIs (ns : List Int) (es : List Int) : Prop := es.length = ns.length ∧ ∀ p, p < ns.length → ElderIs (nth ns) ns.length p (es.getD p 0)
theorem TreeIs.unique {ns es es' : List Int} (h : TreeIs ns es) (k : TreeIs ns es') : es = es' := by
  refine List.ext_getElem (by rw [h.1, k.1]) fun j h1 h2 => ?_
  have hj : j < ns.length := by rw [← h.1]; exact h1
  have := (h.2 j hj).unique (k.2 j hj)
  simpa [List.getD_eq_getElem?_getD, h1, h2] using this

def GoodS (f : Nat → Int) (n : Nat) (a b e : Int) : Prop := 0 ≤ a ∧ a ≤ b + 1 ∧ b < n ∧ (∀ k : Nat, a = ((k + 1 : Nat) : Int) → ∀ q : Nat, a ≤ q → (q : Int) ≤ b → f k ≤ f q) ∧ (∀ k : Nat, b + 1 = (k : Int) → k < n → ∀ q : Nat, a ≤ q → (q : Int) ≤ b → f k < f q) ∧
  e = (if a = 0 then (if b + 1 = n then -1 else b + 1) else if b + 1 = n then a - 1 else if f (a - 1).toNat ≤ f (b + 1).toNat then b + 1 else a - 1)
theorem GoodS.elder {f : Nat → Int} {n : Nat} {a c : Nat} {e : Int} (h : GoodS f n a ((a + c : Nat) : Int) e) : ElderIs f n (lowF f a c) e := by
  obtain ⟨h0, h1, h2, h3, h4, h5⟩ := h
  obtain ⟨l1, l2, l3, l4⟩ := lowF_is f a c
  generalize lowF f a c = p at l1 l2 l3 l4
  have prevA : ∀ k, a = k + 1 → IsPrev f p k := fun k hk => ⟨by omega, h3 k (by omega) p (by omega) (by omega), fun r r1 r2 => l3 r (by omega) r2⟩
  have prev0 : a = 0 → NoPrev f p := fun z q hq => l3 q (by omega) hq
  have nextB : a + c + 1 < n → IsNext f n p (a + c + 1) := fun z => ⟨by omega, z, h4 (a + c + 1) (by omega) z p (by omega) (by omega), fun s s1 s2 => l4 s s1 (by omega)⟩
  have next0 : a + c + 1 = n → NoNext f n p := fun z r r1 r2 => l4 r r1 (by omega)
  by_cases za : a = 0
  · by_cases zb : a + c + 1 = n
    · refine .inl ⟨prev0 za, next0 zb, ?_⟩
      rw [h5, if_pos (by omega), if_pos (by omega)]
    · refine .inr (.inr (.inl ⟨a + c + 1, prev0 za, nextB (by omega), ?_⟩))
      rw [h5, if_pos (by omega), if_neg (by omega)]; omega
  · obtain ⟨k, hk⟩ : ∃ k, a = k + 1 := ⟨a - 1, by omega⟩
    by_cases zb : a + c + 1 = n
    · refine .inr (.inl ⟨k, prevA k hk, next0 zb, ?_⟩)
      rw [h5, if_neg (by omega), if_pos (by omega)]; omega
    · refine .inr (.inr (.inr ⟨k, a + c + 1, prevA k hk, nextB (by omega), ?_⟩))
      have e1 : ((a : Int) - 1).toNat = k := by omega
      have e2 : (((a + c : Nat) : Int) + 1).toNat = a + c + 1 := by omega
      rw [h5, if_neg (by omega), if_neg (by omega), e1, e2]
      split <;> omega
theorem GoodS.ahead {f : Nat → Int} {n : Nat} {a c : Nat} {e : Int} (h : GoodS f n a ((a + c : Nat) : Int) e) : GoodS f n a ((lowF f a c : Int) - 1) (lowF f a c) := by
  obtain ⟨h0, h1, h2, h3, h4, h5⟩ := h
  obtain ⟨l1, l2, l3, l4⟩ := lowF_is f a c
  generalize lowF f a c = p at l1 l2 l3 l4
  refine ⟨h0, by omega, by omega, fun k hk q q1 q2 => h3 k hk q q1 (by omega), fun k hk hkn q q1 q2 => ?_, ?_⟩
  · have : k = p := by omega
    subst this
    exact l3 q (by omega) (by omega)
  · by_cases za : a = 0
    · rw [if_pos (by omega), if_neg (by omega)]; omega
    · rw [if_neg (by omega), if_neg (by omega)]
      have e2 : ((p : Int) - 1 + 1).toNat = p := by omega
      have := h3 (a - 1) (by omega) p (by omega) (by omega)
      have e1 : ((a : Int) - 1).toNat = a - 1 := by omega
      rw [e1, e2, if_pos this]; omega
theorem GoodS.behind {f : Nat → Int} {n : Nat} {a c : Nat} {e : Int} (h : GoodS f n a ((a + c : Nat) : Int) e) : GoodS f n ((lowF f a c : Int) + 1) ((a + c : Nat) : Int) (lowF f a c) := by
  obtain ⟨h0, h1, h2, h3, h4, h5⟩ := h
  obtain ⟨l1, l2, l3, l4⟩ := lowF_is f a c
  generalize lowF f a c = p at l1 l2 l3 l4
  refine ⟨by omega, by omega, h2, fun k hk q q1 q2 => ?_, fun k hk hkn q q1 q2 => h4 k hk hkn q (by omega) q2, ?_⟩
  · have : k = p := by omega
    subst this
    exact l4 q (by omega) (by omega)
  · rw [if_neg (by omega)]
    by_cases zb : a + c + 1 = n
    · rw [if_pos (by omega)]; omega
    · rw [if_neg (by omega)]
      have e1 : ((p : Int) + 1 - 1).toNat = p := by omega
      have e2 : (((a + c : Nat) : Int) + 1).toNat = a + c + 1 := by omega
      have := h4 (a + c + 1) (by omega) (by omega) p (by omega) (by omega)
      rw [e1, e2, if_neg (by omega)]; omega

theorem elder_lists {f : Nat → Int} {n p : Nat} (hp : p < n) : ElderIs f n p
    (match ((List.range p).filter fun q => decide (f q ≤ f p)).getLast?, ((List.range (n - (p + 1))).filter fun j => decide (f (p + 1 + j) < f p)).head? with
      | none, none => -1
      | none, some j => ((p + 1 + j : Nat) : Int)
      | some q, none => q
      | some q, some j => if f q ≤ f (p + 1 + j) then ((p + 1 + j : Nat) : Int) else q) := by
  have hA : (((List.range p).filter fun q => decide (f q ≤ f p)).getLast? = none ∧ NoPrev f p) ∨ ∃ q, ((List.range p).filter fun q => decide (f q ≤ f p)).getLast? = some q ∧ IsPrev f p q := by
    induction p with
    | zero => exact .inl ⟨rfl, fun q hq => by omega⟩
    | succ p _ =>
      generalize p + 1 = P
      have key : ∀ m, m ≤ P → (((List.range m).filter fun q => decide (f q ≤ f P)).getLast? = none ∧ ∀ q, q < m → f P < f q) ∨ ∃ q, ((List.range m).filter fun q => decide (f q ≤ f P)).getLast? = some q ∧ q < m ∧ f q ≤ f P ∧ ∀ r, q < r → r < m → f P < f r := by
        intro m
        induction m with
        | zero => intro _; exact .inl ⟨rfl, fun q hq => by omega⟩
        | succ m ih =>
          intro hm
          rw [List.range_succ, List.filter_append]
          by_cases hle : f m ≤ f P
          · refine .inr ⟨m, ?_, by omega, hle, fun r r1 r2 => by omega⟩
            simp [hle]
          · have e : List.filter (fun q => decide (f q ≤ f P)) [m] = [] := by simp [hle]
            rw [e, List.append_nil]
            rcases ih (by omega) with ⟨i1, i2⟩ | ⟨q, i1, i2, i3, i4⟩
            · refine .inl ⟨i1, fun q hq => ?_⟩
              by_cases z : q = m
              · rw [z]; omega
              · exact i2 q (by omega)
            · refine .inr ⟨q, i1, by omega, i3, fun r r1 r2 => ?_⟩
              by_cases z : r = m
              · rw [z]; omega
              · exact i4 r r1 (by omega)
      rcases key P (Nat.le_refl _) with ⟨i1, i2⟩ | ⟨q, i1, i2, i3, i4⟩
      · exact .inl ⟨i1, i2⟩
      · exact .inr ⟨q, i1, i2, i3, i4⟩
  have hB : (((List.range (n - (p + 1))).filter fun j => decide (f (p + 1 + j) < f p)).head? = none ∧ NoNext f n p) ∨ ∃ j, ((List.range (n - (p + 1))).filter fun j => decide (f (p + 1 + j) < f p)).head? = some j ∧ IsNext f n p (p + 1 + j) := by
    have key : ∀ m, (((List.range m).filter fun j => decide (f (p + 1 + j) < f p)).head? = none ∧ ∀ j, j < m → f p ≤ f (p + 1 + j)) ∨ ∃ j, ((List.range m).filter fun j => decide (f (p + 1 + j) < f p)).head? = some j ∧ j < m ∧ f (p + 1 + j) < f p ∧ ∀ i, i < j → f p ≤ f (p + 1 + i) := by
      intro m
      induction m with
      | zero => exact .inl ⟨rfl, fun q hq => by omega⟩
      | succ m ih =>
        rw [List.range_succ, List.filter_append]
        rcases ih with ⟨i1, i2⟩ | ⟨j, i1, i2, i3, i4⟩
        · have e0 : List.filter (fun j => decide (f (p + 1 + j) < f p)) (List.range m) = [] := List.head?_eq_none_iff.mp i1
          rw [e0, List.nil_append]
          by_cases hlt : f (p + 1 + m) < f p
          · refine .inr ⟨m, by simp [hlt], by omega, hlt, fun i hi => i2 i hi⟩
          · refine .inl ⟨by simp [hlt], fun j hj => ?_⟩
            by_cases z : j = m
            · rw [z]; omega
            · exact i2 j (by omega)
        · refine .inr ⟨j, ?_, by omega, i3, i4⟩
          rw [List.head?_append, i1]; rfl
    rcases key (n - (p + 1)) with ⟨i1, i2⟩ | ⟨j, i1, i2, i3, i4⟩
    · refine .inl ⟨i1, fun r r1 r2 => ?_⟩
      have := i2 (r - (p + 1)) (by omega)
      have e : p + 1 + (r - (p + 1)) = r := by omega
      rw [e] at this; exact this
    · refine .inr ⟨j, i1, by omega, by omega, i3, fun s s1 s2 => ?_⟩
      have := i4 (s - (p + 1)) (by omega)
      have e : p + 1 + (s - (p + 1)) = s := by omega
      rw [e] at this; exact this
  rcases hA with ⟨a1, a2⟩ | ⟨q, a1, a2⟩ <;> rcases hB with ⟨b1, b2⟩ | ⟨j, b1, b2⟩ <;> rw [a1, b1]
  · exact .inl ⟨a2, b2, rfl⟩
  · exact .inr (.inr (.inl ⟨_, a2, b2, rfl⟩))
  · exact .inr (.inl ⟨_, a2, b2, rfl⟩)
  · exact .inr (.inr (.inr ⟨_, _, a2, b2, rfl⟩))

def StackAt (H : Hp) (l : Addr) (st : List (Int × Int × Int)) : Prop := ∃ qs : List Addr, H l = some (.lst (qs.map V.ref)) ∧ qs.length = st.length ∧ ∀ (j : Nat) (q : Addr) (x : Int × Int × Int), qs[j]? = some q → st[j]? = some x → H q = some (.tup [.int x.1, .int x.2.1, .int x.2.2])
theorem StackAt.same {H H' : Hp} {l : Addr} {st : List (Int × Int × Int)} (S : StackAt H l st) (s : Same H H') : StackAt H' l st := by
  obtain ⟨qs, h1, h2, h3⟩ := S
  exact ⟨qs, s _ _ h1, h2, fun j q x a b => s _ _ (h3 j q x a b)⟩
theorem StackAt.other {H : Hp} {l e : Addr} {st : List (Int × Int × Int)} {zs : List V} {o : HO} (S : StackAt H l st) (hne : e ≠ l) (he : H e = some (.lst zs)) : StackAt (upd H e o) l st := by
  obtain ⟨qs, h1, h2, h3⟩ := S
  refine ⟨qs, by rw [upd_ne hne.symm]; exact h1, h2, fun j q x a b => ?_⟩
  have h := h3 j q x a b
  rw [upd_ne]
  · exact h
  · intro z; subst z; rw [he] at h; cases h
theorem StackAt.push {H : Hp} {l q : Addr} {st : List (Int × Int × Int)} {x : Int × Int × Int} (S : StackAt H l st) (hq : H q = some (.tup [.int x.1, .int x.2.1, .int x.2.2])) : ∃ xs : List V, H l = some (.lst xs) ∧ xs.length = st.length ∧ StackAt (upd H l (.lst (xs ++ [V.ref q]))) l (st ++ [x]) := by
  obtain ⟨qs, h1, h2, h3⟩ := S
  have ql : q ≠ l := fun z => by rw [z, h1] at hq; cases hq
  refine ⟨_, h1, by simp [h2], qs ++ [q], by rw [upd_same]; simp, by simp [h2], fun j p y a b => ?_⟩
  by_cases hj : j < qs.length
  · rw [List.getElem?_append_left hj] at a
    rw [List.getElem?_append_left (by omega)] at b
    have h := h3 j p y a b
    rw [upd_ne]
    · exact h
    · intro z; rw [z, h1] at h; cases h
  · have hjl := (List.getElem?_eq_some_iff.mp a).1
    have e : j = qs.length := by simp at hjl; omega
    subst e
    rw [List.getElem?_append_right (Nat.le_refl _)] at a
    rw [h2, List.getElem?_append_right (Nat.le_refl _)] at b
    simp at a b
    rw [← a, ← b, upd_ne ql]; exact hq
end L2


set_option Elab.async false
set_option linter.all false
set_option maxRecDepth 100000
set_option maxHeartbeats 1000000
namespace L2


def Over (f : Nat → Int) (o p : Nat) : Prop := (o < p ∧ ∀ r, o < r → r ≤ p → f o ≤ f r) ∨ (p < o ∧ ∀ r, p ≤ r → r < o → f o < f r)
theorem Over.irrefl {f : Nat → Int} {p : Nat} : ¬ Over f p p := by rintro (⟨h, _⟩ | ⟨h, _⟩) <;> omega
theorem Over.ne {f : Nat → Int} {o p : Nat} (h : Over f o p) : o ≠ p := fun z => Over.irrefl (z ▸ h)
theorem Over.trans {f : Nat → Int} {o e p : Nat} (h : Over f o e) (k : Over f e p) : Over f o p := by
  rcases h with ⟨h1, h2⟩ | ⟨h1, h2⟩ <;> rcases k with ⟨k1, k2⟩ | ⟨k1, k2⟩
  · refine .inl ⟨by omega, fun r r1 r2 => ?_⟩
    by_cases z : r ≤ e
    · exact h2 r r1 z
    · have := k2 r (by omega) r2; have := h2 e h1 (Nat.le_refl _); omega
  · have he := h2 e h1 (Nat.le_refl _)
    rcases Nat.lt_trichotomy o p with z | z | z
    · exact .inl ⟨z, fun r r1 r2 => h2 r r1 (by omega)⟩
    · have := k2 p (Nat.le_refl _) k1; subst z; omega
    · exact .inr ⟨z, fun r r1 r2 => by have := k2 r r1 (by omega); omega⟩
  · have he := h2 e (Nat.le_refl _) h1
    rcases Nat.lt_trichotomy o p with z | z | z
    · exact .inl ⟨z, fun r r1 r2 => by have := k2 r (by omega) r2; omega⟩
    · have := k2 p k1 (Nat.le_refl _); subst z; omega
    · exact .inr ⟨z, fun r r1 r2 => h2 r (by omega) r2⟩
  · refine .inr ⟨by omega, fun r r1 r2 => ?_⟩
    by_cases z : r < e
    · have := k2 r r1 z; have := h2 e (Nat.le_refl _) h1; omega
    · exact h2 r (by omega) r2
theorem elder_over {f : Nat → Int} {n p : Nat} {e : Int} (hp : p < n) (h : ElderIs f n p e) : e = -1 ∨ ∃ q : Nat, e = q ∧ q < n ∧ Over f q p := by
  have pv : ∀ q, IsPrev f p q → Over f q p := fun q h => .inl ⟨h.1, fun r r1 r2 => by
    by_cases z : r = p
    · rw [z]; exact h.2.1
    · have := h.2.2 r r1 (by omega); have := h.2.1; omega⟩
  have nx : ∀ q, IsNext f n p q → Over f q p := fun q h => .inr ⟨h.1, fun r r1 r2 => by
    by_cases z : r = p
    · rw [z]; exact h.2.2.1
    · have := h.2.2.2 r (by omega) r2; have := h.2.2.1; omega⟩
  rcases h with ⟨_, _, h⟩ | ⟨q, h1, _, h⟩ | ⟨r, _, h1, h⟩ | ⟨q, r, h1, h2, h⟩
  · exact .inl h
  · exact .inr ⟨q, h, by have := h1.1; omega, pv q h1⟩
  · exact .inr ⟨r, h, h1.2.1, nx r h1⟩
  · by_cases z : f q ≤ f r
    · rw [if_pos z] at h; exact .inr ⟨r, h, h2.2.1, nx r h2⟩
    · rw [if_neg z] at h; exact .inr ⟨q, h, by have := h1.1; omega, pv q h1⟩
theorem over_step {f : Nat → Int} {n p o : Nat} {e : Int} (hp : p < n) (ho : o < n) (h : ElderIs f n p e) (hO : Over f o p) : ∃ q : Nat, e = q ∧ q < n ∧ (o = q ∨ Over f o q) := by
  rcases hO with ⟨o1, o2⟩ | ⟨o1, o2⟩
  · have op := o2 p o1 (Nat.le_refl _)
    have pv : ∀ q, IsPrev f p q → o = q ∨ (o < q ∧ Over f o q ∧ f o ≤ f q) := fun q h => by
      rcases Nat.lt_trichotomy o q with z | z | z
      · have := h.1; exact .inr ⟨z, .inl ⟨z, fun r r1 r2 => o2 r r1 (by omega)⟩, o2 q z (by omega)⟩
      · exact .inl z
      · have := h.2.2 o z o1; omega
    rcases h with ⟨h1, _, h⟩ | ⟨q, h1, _, h⟩ | ⟨r, h1, _, h⟩ | ⟨q, r, h1, h2, h⟩
    · have := h1 o o1; omega
    · refine ⟨q, h, by have := h1.1; omega, ?_⟩
      rcases pv q h1 with z | z
      · exact .inl z
      · exact .inr z.2.1
    · have := h1 o o1; omega
    · by_cases z : f q ≤ f r
      · rw [if_pos z] at h
        refine ⟨r, h, h2.2.1, .inr (.inl ⟨by have := h2.1; omega, fun s s1 s2 => ?_⟩)⟩
        by_cases sp : s ≤ p
        · exact o2 s s1 sp
        · by_cases sr : s = r
          · rw [sr]
            rcases pv q h1 with y | y
            · rw [y]; exact z
            · have := y.2.2; omega
          · have := h2.2.2.2 s (by omega) (by omega); omega
      · rw [if_neg z] at h
        refine ⟨q, h, by have := h1.1; omega, ?_⟩
        rcases pv q h1 with z | z
        · exact .inl z
        · exact .inr z.2.1
  · have op := o2 p (Nat.le_refl _) o1
    have nx : ∀ r, IsNext f n p r → o = r ∨ (r < o ∧ Over f o r ∧ f o < f r) := fun r h => by
      rcases Nat.lt_trichotomy o r with z | z | z
      · have := h.2.2.2 o o1 z; omega
      · exact .inl z
      · have := h.1; exact .inr ⟨z, .inr ⟨z, fun s s1 s2 => o2 s (by omega) s2⟩, o2 r (by omega) z⟩
    rcases h with ⟨_, h1, h⟩ | ⟨q, _, h1, h⟩ | ⟨r, _, h1, h⟩ | ⟨q, r, h1, h2, h⟩
    · have := h1 o o1 ho; omega
    · have := h1 o o1 ho; omega
    · refine ⟨r, h, h1.2.1, ?_⟩
      rcases nx r h1 with z | z
      · exact .inl z
      · exact .inr z.2.1
    · by_cases z : f q ≤ f r
      · rw [if_pos z] at h
        refine ⟨r, h, h2.2.1, ?_⟩
        rcases nx r h2 with z | z
        · exact .inl z
        · exact .inr z.2.1
      · rw [if_neg z] at h
        refine ⟨q, h, by have := h1.1; omega, .inr (.inr ⟨by have := h1.1; omega, fun s s1 s2 => ?_⟩)⟩
        by_cases sp : p ≤ s
        · exact o2 s sp s2
        · by_cases sq : s = q
          · rw [sq]
            rcases nx r h2 with y | y
            · rw [y]; omega
            · have := y.2.2; omega
          · have := h1.2.2 s (by omega) (by omega); omega
theorem over_iff {f : Nat → Int} {n p o q : Nat} (hp : p < n) (ho : o < n) (h : ElderIs f n p (q : Int)) : Over f o p ↔ o = q ∨ Over f o q := by
  refine ⟨fun k => ?_, fun k => ?_⟩
  · obtain ⟨q', e, _, z⟩ := over_step hp ho h k
    have : q' = q := by omega
    rw [this] at z; exact z
  · rcases elder_over hp h with z | ⟨q', e, _, z⟩
    · omega
    · have : q' = q := by omega
      rw [this] at z
      rcases k with k | k
      · rw [k]; exact z
      · exact k.trans z
theorem over_none {f : Nat → Int} {n p o : Nat} (hp : p < n) (ho : o < n) (h : ElderIs f n p (-1)) : ¬ Over f o p := fun k => by
  obtain ⟨q', e, _, z⟩ := over_step hp ho h k
  omega


theorem count_same {P Q : Nat → Bool} : ∀ n, (∀ o, o < n → P o = Q o) → (List.range n).countP P = (List.range n).countP Q
  | 0, _ => rfl
  | n + 1, h => by
    rw [List.range_succ, List.countP_append, List.countP_append, count_same n (fun o ho => h o (by omega))]
    simp [List.countP_cons, h n (by omega)]
theorem count_step {P Q : Nat → Bool} {e : Nat} : ∀ n, e < n → (∀ o, o < n → (P o = true ↔ o = e ∨ Q o = true)) → Q e = false → (List.range n).countP P = (List.range n).countP Q + 1
  | 0, h, _, _ => by omega
  | n + 1, h, hi, hq => by
    rw [List.range_succ, List.countP_append, List.countP_append]
    by_cases z : e = n
    · have e1 : (List.range n).countP P = (List.range n).countP Q := count_same n fun o ho => by
        have := hi o (by omega)
        cases hP : P o <;> cases hQ : Q o <;> simp [hP, hQ] at this <;> first | rfl | omega
      have hPn : P n = true := (hi n (by omega)).mpr (.inl z.symm)
      rw [z] at hq
      rw [e1]; simp [List.countP_cons, hPn, hq]
    · rw [count_step n (by omega) (fun o ho => hi o (by omega)) hq]
      have := hi n (by omega)
      have hn : P n = Q n := by
        cases hP : P n <;> cases hQ : Q n <;> simp [hP, hQ] at this <;> first | rfl | omega
      simp [List.countP_cons, hn]; omega
theorem count_lt {P : Nat → Bool} {e n : Nat} (he : e < n) (h : P e = false) : (List.range n).countP P < n := by
  have h1 := count_step (P := fun o => decide (o = e) || P o) (Q := P) n he (fun o _ => by simp) h
  have h2 := List.countP_le_length (p := fun o => decide (o = e) || P o) (l := List.range n)
  rw [h1, List.length_range] at h2
  omega


def wayF (T : List Int) : Nat → Int → List Nat
  | 0, _ => []
  | k + 1, at_ => if 0 ≤ at_ ∧ at_ < T.length then at_.toNat :: wayF T k (nth T at_.toNat) else []
open Classical in
noncomputable def dep (f : Nat → Int) (n p : Nat) : Nat := (List.range n).countP fun o => decide (Over f o p)
theorem dep_lt {f : Nat → Int} {n p : Nat} (hp : p < n) : dep f n p < n := by
  classical
  exact count_lt hp (by simpa using Over.irrefl)
theorem dep_elder {f : Nat → Int} {n p q : Nat} (hp : p < n) (h : ElderIs f n p (q : Int)) : dep f n p = dep f n q + 1 := by
  classical
  have hq : q < n := by
    rcases elder_over hp h with z | ⟨q', e, z, _⟩ <;> omega
  exact count_step n hq (fun o ho => by simpa using over_iff hp ho h) (by simpa using Over.irrefl)
theorem dep_top {f : Nat → Int} {n p : Nat} (hp : p < n) (h : ElderIs f n p (-1)) : dep f n p = 0 := by
  classical
  unfold dep
  rw [List.countP_eq_zero]
  intro o ho
  simpa using over_none hp (by simpa using ho) h
theorem way_tree {ns T : List Int} (hT : TreeIs ns T) : ∀ k p, p < ns.length → dep (nth ns) ns.length p ≤ k → (∀ o, o ∈ wayF T k (nth T p) ↔ o < ns.length ∧ Over (nth ns) o p) ∧ (wayF T k (nth T p)).length = dep (nth ns) ns.length p
  | k, p, hp, hk => by
    have hE : ElderIs (nth ns) ns.length p (nth T p) := hT.2 p hp
    rcases elder_over hp hE with z | ⟨q, e, hq, hO⟩
    · have e0 : wayF T k (nth T p) = [] := by
        cases k with
        | zero => rfl
        | succ k => rw [wayF, if_neg (by omega)]
      rw [e0]
      rw [z] at hE
      exact ⟨fun o => ⟨fun h => by simp at h, fun h => absurd h.2 (over_none hp h.1 hE)⟩, by rw [dep_top hp hE]; rfl⟩
    · rw [e] at hE
      have hd := dep_elder hp hE
      obtain ⟨k', rfl⟩ : ∃ k', k = k' + 1 := ⟨k - 1, by omega⟩
      have ih := way_tree hT k' q hq (by omega)
      have eT : ((q : Nat) : Int).toNat = q := by omega
      rw [wayF, e, if_pos ⟨by omega, by rw [hT.1]; omega⟩, eT]
      refine ⟨fun o => ?_, by simp [ih.2, hd]⟩
      rw [List.mem_cons, ih.1 o]
      refine ⟨fun h => ?_, fun h => ?_⟩
      · rcases h with h | h
        · rw [h]; exact ⟨hq, hO⟩
        · exact ⟨h.1, h.2.trans hO⟩
      · rcases (over_iff hp h.1 hE).mp h.2 with z | z
        · exact .inl z
        · exact .inr ⟨h.1, z⟩
inductive StT (T : Nat → Int) : Int → Int → Int → Prop
  | nil {a b e : Int} : b < a → StT T a b e
  | node {a b e : Int} (h : Nat) : a ≤ h → (h : Int) ≤ b → T h = e → (∀ q : Nat, a ≤ q → (q : Int) ≤ b → T q = e → q = h) → StT T a ((h : Int) - 1) h → StT T ((h : Int) + 1) b h → StT T a b e
inductive StG (T g : Nat → Int) : Int → Int → Int → Int → Prop
  | nil {a b e m : Int} : b < a → StG T g a b e m
  | node {a b e m : Int} (h : Nat) : a ≤ h → (h : Int) ≤ b → T h = e → g h = m → StG T g a ((h : Int) - 1) h (m + 1) → StG T g ((h : Int) + 1) b h (m + 1) → StG T g a b e m
theorem StG.congr {T g g' : Nat → Int} {a b e m : Int} (S : StG T g a b e m) : (∀ q : Nat, a ≤ q → (q : Int) ≤ b → g q = g' q) → StG T g' a b e m := by
  induction S with
  | nil z => intro _; exact .nil z
  | node h h1 h2 h3 h4 _ _ ih1 ih2 =>
    intro k
    exact .node h h1 h2 h3 (by rw [← k h h1 h2]; exact h4) (ih1 fun q q1 q2 => k q q1 (by omega)) (ih2 fun q q1 q2 => k q (by omega) q2)
theorem StT.row {T : Nat → Int} {a b e : Int} (S : StT T a b e) : ∀ m, ∃ g, StG T g a b e m := by
  induction S with
  | nil z => intro m; exact ⟨fun _ => 0, .nil z⟩
  | node h h1 h2 h3 h4 _ _ ih1 ih2 =>
    intro m
    obtain ⟨g1, k1⟩ := ih1 (m + 1)
    obtain ⟨g2, k2⟩ := ih2 (m + 1)
    refine ⟨fun q => if q < h then g1 q else if q = h then m else g2 q, .node h h1 h2 h3 ?_ (k1.congr fun q q1 q2 => ?_) (k2.congr fun q q1 q2 => ?_)⟩
    · show (if h < h then g1 h else if h = h then m else g2 h) = m
      rw [if_neg (by omega), if_pos rfl]
    · show g1 q = if q < h then g1 q else if q = h then m else g2 q
      rw [if_pos (by omega)]
    · show g2 q = if q < h then g1 q else if q = h then m else g2 q
      rw [if_neg (by omega), if_neg (by omega)]
theorem StG.ge {T g : Nat → Int} {a b e m : Int} (S : StG T g a b e m) : ∀ q : Nat, a ≤ q → (q : Int) ≤ b → m ≤ g q := by
  induction S with
  | nil z => intro q h1 h2; omega
  | node h h1 h2 h3 h4 _ _ ih1 ih2 =>
    intro q q1 q2
    rcases Nat.lt_trichotomy q h with y | y | y
    · have := ih1 q q1 (by omega); omega
    · rw [y]; omega
    · have := ih2 q (by omega) q2; omega
theorem StG.elder {T g : Nat → Int} {n : Nat} {a b e m : Int} (S : StG T g a b e m) : 0 ≤ a → a ≤ b + 1 → b < n → (∀ k : Nat, a = ((k + 1 : Nat) : Int) → g k < m) → (∀ k : Nat, b + 1 = (k : Int) → k < n → g k < m) →
    e = (if a = 0 then (if b + 1 = n then -1 else b + 1) else if b + 1 = n then a - 1 else if g (a - 1).toNat ≤ g (b + 1).toNat then b + 1 else a - 1) → ∀ p : Nat, a ≤ p → (p : Int) ≤ b → ElderIs g n p (T p) := by
  induction S with
  | nil z => intro _ _ _ _ _ _ p h1 h2; omega
  | @node a b e m h h1 h2 h3 h4 s1 s2 ih1 ih2 =>
    intro c0 c1 c2 c3 c4 c5 p p1 p2
    obtain ⟨a0, rfl⟩ : ∃ a0 : Nat, a = a0 := ⟨a.toNat, by omega⟩
    obtain ⟨c, rfl⟩ : ∃ c : Nat, b = ((a0 + c : Nat) : Int) := ⟨(b - a0).toNat, by omega⟩
    have hge := (StG.node h h1 h2 h3 h4 s1 s2).ge
    have g1 := s1.ge
    have g2 := s2.ge
    have hG : GoodS g n a0 ((a0 + c : Nat) : Int) e := ⟨c0, c1, c2, fun k hk q q1 q2 => by have := c3 k hk; have := hge q q1 q2; omega, fun k hk hkn q q1 q2 => by have := c4 k hk hkn; have := hge q q1 q2; omega, c5⟩
    have hlow : lowF g a0 c = h := by
      have : IsLow g a0 (a0 + c) h := ⟨by omega, by omega, fun r r1 r2 => by have := g1 r (by omega) (by omega); omega, fun r r1 r2 => by have := g2 r (by omega) (by omega); omega⟩
      exact (lowF_is g a0 c).unique this
    rcases Nat.lt_trichotomy p h with y | y | y
    · refine ih1 (by omega) (by omega) (by omega) (fun k hk => by have := c3 k hk; omega) (fun k hk hkn => ?_) ?_ p p1 (by omega)
      · have : k = h := by omega
        rw [this]; omega
      · by_cases z : (a0 : Int) = 0
        · rw [if_pos z, if_neg (by omega)]; omega
        · rw [if_neg z, if_neg (by omega), if_pos ?_]
          · omega
          · have e1 : (((h : Int) - 1 + 1)).toNat = h := by omega
            have := c3 ((a0 : Int) - 1).toNat (by omega)
            rw [e1]; omega
    · rw [y, h3, ← hlow]; exact hG.elder
    · refine ih2 (by omega) (by omega) (by omega) (fun k hk => ?_) (fun k hk hkn => by have := c4 k hk hkn; omega) ?_ p (by omega) p2
      · have : k = h := by omega
        rw [this]; omega
      · rw [if_neg (by omega)]
        by_cases z : ((a0 + c : Nat) : Int) + 1 = n
        · rw [if_pos z]; omega
        · rw [if_neg z, if_neg ?_]
          · omega
          · have e1 : (((h : Int) + 1 - 1)).toNat = h := by omega
            have := c4 (((a0 + c : Nat) : Int) + 1).toNat (by omega) (by omega)
            rw [e1]; omega
end L2


set_option Elab.async false
set_option linter.all false
set_option maxRecDepth 100000
set_option maxHeartbeats 1000000
namespace L2
open PySem PySem.Spec PyProof.Rows PySem.W
def setE (es : List Int) (A B : List Nat) (i : Nat) : List Int := match A.getLast? with
  | some q => (match B.head? with | some b => es.set b i | none => es).set i (q : Int)
  | none => match B.head? with | some b => es.set b i | none => es
def natsV (l : List Nat) : List V := l.map fun q => V.int (q : Nat)
theorem getD_set (l : List Int) (a p : Nat) (v : Int) (h : p < l.length) : (l.set a v).getD p 0 = if a = p then v else l.getD p 0 := by
  rw [List.getD_eq_getElem?_getD, List.getD_eq_getElem?_getD]
  by_cases e : a = p
  · subst e; rw [if_pos rfl, List.getElem?_set_self h]; rfl
  · rw [if_neg e, List.getElem?_set_ne e]
theorem setE_len (es : List Int) (A B : List Nat) (i : Nat) : (setE es A B i).length = es.length := by
  unfold setE
  cases A.getLast? <;> cases B.head? <;> simp
theorem setE_at (es : List Int) (A B : List Nat) (i p : Nat) (hp : p < es.length) (hb : ∀ b, B.head? = some b → b ≠ i) : (setE es A B i).getD p 0 = if p = i then (match A.getLast? with | some q => (q : Int) | none => es.getD i 0) else if B.head? = some p then (i : Int) else es.getD p 0 := by
  unfold setE
  cases hA : A.getLast? with
  | none =>
    cases hB : B.head? with
    | none =>
      by_cases e : p = i
      · rw [if_pos e, e]
      · rw [if_neg e, if_neg (by simp)]
    | some b =>
      show (es.set b i).getD p 0 = _
      rw [getD_set _ _ _ _ hp]
      by_cases e : p = i
      · rw [if_pos e, if_neg (by rw [e]; exact hb b hB), e]
      · rw [if_neg e]
        by_cases e2 : b = p
        · rw [if_pos e2, if_pos (by rw [e2])]
        · rw [if_neg e2, if_neg (by intro z; exact e2 (Option.some.inj z))]
  | some q =>
    cases hB : B.head? with
    | none =>
      show (es.set i q).getD p 0 = _
      rw [getD_set _ _ _ _ hp]
      by_cases e : p = i
      · rw [if_pos e, if_pos e.symm]
      · rw [if_neg e, if_neg (fun z => e z.symm), if_neg (by simp)]
    | some b =>
      show ((es.set b i).set i q).getD p 0 = _
      rw [getD_set _ _ _ _ (by simpa using hp), getD_set _ _ _ _ hp]
      by_cases e : p = i
      · rw [if_pos e, if_pos e.symm]
      · rw [if_neg e, if_neg (fun z => e z.symm)]
        by_cases e2 : b = p
        · rw [if_pos e2, if_pos (by rw [e2])]
        · rw [if_neg e2, if_neg (by intro z; exact e2 (Option.some.inj z))]
theorem pw_len : ∀ (l : List Nat) (i lo : Nat), l.Pairwise (· < ·) → (∀ q ∈ l, lo ≤ q ∧ q < i) → l.length + lo ≤ i ∨ l = []
  | [], _, _, _, _ => .inr rfl
  | q :: r, i, lo, h, hq => by
    have h1 := hq q (by simp)
    have hr := List.pairwise_cons.mp h
    rcases pw_len r i (q + 1) hr.2 (fun x hx => ⟨hr.1 x hx, (hq x (by simp [hx])).2⟩) with z | z
    · left; simp; omega
    · left; rw [z]; simp; omega
theorem natsV_len (l : List Nat) : (natsV l).length = l.length := by simp [natsV]
theorem natsV_app (a b : List Nat) : natsV (a ++ b) = natsV a ++ natsV b := by simp [natsV]
theorem natsV_at {l : List Nat} {j q : Nat} (h : l[j]? = some q) : atI (natsV l) (j : Int) = some (V.int (q : Nat)) := by
  have hj := (List.getElem?_eq_some_iff.mp h).1
  have e := (List.getElem?_eq_some_iff.mp h).2
  rw [atI_at rfl (by rw [natsV_len]; exact hj)]
  simp [natsV, e]
theorem ixN_nat {n j : Nat} (h : j < n) : ixN n (j : Int) = some j := by
  unfold ixN
  rw [if_pos (by omega), if_pos (by omega)]; simp
end L2


set_option Elab.async false
set_option linter.all false
set_option maxRecDepth 100000
set_option maxHeartbeats 1000000
namespace L2
open PySem PySem.Spec PyProof.Rows PySem.W
section
variable {X : Cx}

def tRngV2 (ta : TA) : TE := fun σ H Q => ta σ H fun vs H1 => ∃ i j : Int, vs = [.int i, .int j] ∧ -(2 ^ 62) ≤ i ∧ i < 2 ^ 62 ∧ -(2 ^ 62) ≤ j ∧ j < 2 ^ 62 ∧ ∀ p, H1 p = none → Q (.ref p) (upd H1 p (.rng i j))
def rLstR2 : List V → Hp → VK → Prop := fun xs H Q => ∃ p i j, xs = [.ref p] ∧ H p = some (.rng i j) ∧ -(2 ^ 62) ≤ i ∧ i < 2 ^ 62 ∧ -(2 ^ 62) ≤ j ∧ j < 2 ^ 62 ∧ j - i ≤ 1000 ∧ ∀ l, H l = none → Q (.ref l) (upd H l (.lst ((List.range (j - i).toNat).map fun (k : Nat) => V.int (i + (k : Int)))))
end
end L2


set_option Elab.async false
set_option linter.all false
set_option maxRecDepth 100000
set_option maxHeartbeats 1000000
namespace L2
open PySem PySem.Spec PyProof.Rows PySem.W

def wayI (T : List Int) (p : Nat) : List Int := (wayF T T.length (nth T p)).map fun q => ((q : Nat) : Int)
theorem wayF_len (T : List Int) : ∀ k a, (wayF T k a).length ≤ k
  | 0, _ => by simp [wayF]
  | k + 1, a => by
    rw [wayF]
    split
    · have := wayF_len T k (nth T a.toNat); simp; omega
    · simp

def wayAt (T : List Int) : Nat → Int → Int
  | 0, a => a
  | j + 1, a => if 0 ≤ a ∧ a < T.length then wayAt T j (nth T a.toNat) else a
theorem wayF_snoc (T : List Int) : ∀ j a, 0 ≤ wayAt T j a → wayAt T j a < T.length → (wayF T j a).length = j → wayF T (j + 1) a = wayF T j a ++ [(wayAt T j a).toNat] ∧ wayAt T (j + 1) a = nth T (wayAt T j a).toNat
  | 0, a, h0, h1, _ => by
    have h0' : 0 ≤ a := h0
    have h1' : a < T.length := h1
    constructor
    · simp [wayF, wayAt, h0', h1']
    · simp [wayAt, h0', h1']
  | j + 1, a, h0, h1, hl => by
    rw [wayF] at hl
    by_cases z : 0 ≤ a ∧ a < T.length
    · rw [if_pos z] at hl
      have e1 : wayAt T (j + 1) a = wayAt T j (nth T a.toNat) := by rw [wayAt, if_pos z]
      rw [e1] at h0 h1
      have ih := wayF_snoc T j (nth T a.toNat) h0 h1 (by simpa using hl)
      constructor
      · rw [wayF, if_pos z, ih.1, wayF.eq_def T (j + 1) a]
        simp only [if_pos z, e1]; simp
      · rw [wayAt, if_pos z, ih.2, e1]
    · rw [if_neg z] at hl; simp at hl
theorem wayF_stop (T : List Int) : ∀ j k a, j ≤ k → (wayF T j a).length = j → ¬ (0 ≤ wayAt T j a ∧ wayAt T j a < T.length) → wayF T k a = wayF T j a
  | 0, k, a, _, _, h => by
    have h' : ¬ (0 ≤ a ∧ a < T.length) := h
    cases k with
    | zero => rfl
    | succ k => rw [show wayF T 0 a = [] from rfl, wayF, if_neg h']
  | j + 1, k, a, hk, hl, h => by
    rw [wayF] at hl
    by_cases z : 0 ≤ a ∧ a < T.length
    · rw [if_pos z] at hl
      rw [wayAt, if_pos z] at h
      obtain ⟨k', rfl⟩ : ∃ k', k = k' + 1 := ⟨k - 1, by omega⟩
      rw [wayF, if_pos z, wayF_stop T j k' _ (by omega) (by simpa using hl) h, wayF, if_pos z]
    · rw [if_neg z] at hl; simp at hl
section
variable {X : Cx}
end
end L2


set_option Elab.async false
set_option linter.all false
set_option maxRecDepth 100000
set_option maxHeartbeats 1000000
namespace L2
open PySem PySem.Spec PyProof.Rows PySem.W

section
variable {prog : Program} {w : World} {A : Around} {E : Value → Shared → Prop} {s : Shared}
end
section
variable {X : Cx}
def gSubSl (to tl tu : TE) : TG := fun v σ H Q => to σ H fun x H1 => tl σ H1 fun y H2 => tu σ H2 fun z H3 => ∃ (l b : Addr) (xs ys : List V) (a c : Int), x = .ref l ∧ v = .ref b ∧ y = .int a ∧ z = .int c ∧ H3 l = some (.lst xs) ∧ H3 b = some (.lst ys) ∧ l ≠ b ∧ 0 ≤ a ∧ a ≤ c ∧ a ≤ xs.length ∧ xs.length + ys.length ≤ sizeLine ∧ Q σ (upd H3 l (.lst (xs.take a.toNat ++ ys ++ xs.drop c.toNat)))
end
end L2


set_option Elab.async false
set_option linter.all false
set_option maxRecDepth 100000
set_option maxHeartbeats 1000000
namespace L2
open PySem PySem.Spec PyProof.Rows PySem.W

theorem seqR {a b : TS} {D : Ends} {σ : St} {H : Hp} (Mid : St → Hp → Prop) (h1 : ∀ R : St → Hp → Prop, (∀ σ' H', Mid σ' H' → R σ' H') → a { D with nx := R } σ H) (h2 : ∀ σ' H', Mid σ' H' → b D σ' H') : tSeq a b D σ H := h1 _ h2
theorem cut_to (xs : List V) (j : Nat) : cutV xs none (some (j : Int)) = xs.take j := by
  have h : ¬ ((j : Int) < 0) := by omega
  unfold cutV HT.sIx
  simp only [if_neg h, List.drop_zero, Nat.sub_zero]
  rw [List.take_eq_take_iff]
  omega
end L2


set_option Elab.async false
set_option linter.all false
set_option maxRecDepth 100000
set_option maxHeartbeats 1000000
namespace L2
open PySem PySem.Spec PyProof.Rows


structure CellsOf (cl : List (Str × Addr)) (n0 : Nat) (cs : List (Str × Addr)) (h0 h : Heap) (done : List (Str × NameKind)) : Prop where
  old : ∀ b o, h0.get? b = some o → h.get? b = some o
  sz : n0 ≤ h.objs.size
  mem : ∀ p ∈ cs, p ∈ cl ∨ (n0 ≤ p.2 ∧ p.2 < h.objs.size ∧ h.IsCell p.2 none)
  inj : ∀ p ∈ cs, ∀ q ∈ cs, n0 ≤ p.2 → p.2 = q.2 → p.1 = q.1
  own : ∀ y ∈ done, y.2 = .cell → ∃ c, cs.lookup y.1 = some c ∧ n0 ≤ c
  oth : ∀ x, (∀ y ∈ done, y.2 = .cell → y.1 ≠ x) → cs.lookup x = cl.lookup x
theorem cells_run {M : Model} {A : Around} {E : Value → Shared → Prop} {cl : List (Str × Addr)} {n0 : Nat} {h0 : Heap} (hcl : ∀ p ∈ cl, p.2 < n0) : ∀ (names : List (Str × NameKind)) (cs : List (Str × Addr)) (done : List (Str × NameKind)) (s : Shared), CellsOf cl n0 cs h0 s.heap done →
    wpAny M A (forIn names cs fun (x : Str × NameKind) (r : List (Str × Addr)) => (match x with
      | (name, kind) => if (kind == NameKind.cell) = true then do
          let a ← alloc { cls := .type "cell", data := .cell none }
          pure (ForInStep.yield ((name, a) :: r))
        else pure (ForInStep.yield r) : Sem (ForInStep (List (Str × Addr))))) (fun cs' s' => ∃ h', s' = { s with heap := h' } ∧ CellsOf cl n0 cs' h0 h' (done ++ names)) E s
  | [], cs, done, s, I => by
    rw [List.forIn_nil, List.append_nil]
    exact wpAny_pure ⟨s.heap, rfl, I⟩
  | (n, k) :: r, cs, done, s, I => by
    rw [List.forIn_cons]
    by_cases hk : k = .cell
    · subst hk
      simp only [beq_self_eq_true, if_true]
      refine wpAny_bind (wpAny_bind (wpAny_alloc (wpAny_pure ?_)))
      have hget : (s.heap.push { cls := .type "cell", data := .cell none }).get? s.heap.objs.size = some { cls := .type "cell", data := .cell none } := Heap.get?_push_size _ rfl
      have I' : CellsOf cl n0 ((n, s.heap.objs.size) :: cs) h0 (s.heap.push { cls := .type "cell", data := .cell none }) (done ++ [(n, .cell)]) := by
        refine ⟨fun b o e => Heap.get?_push_of_some _ (I.old b o e), by rw [Heap.size_push]; exact Nat.le_succ_of_le I.sz, fun p hp => ?_, fun p hp q hq hn e => ?_, fun y hy hc => ?_, fun x hx => ?_⟩
        · rcases List.mem_cons.mp hp with z | z
          · subst z
            exact .inr ⟨I.sz, by rw [Heap.size_push]; exact Nat.lt_succ_self _, _, hget, rfl⟩
          · rcases I.mem p z with w | ⟨w1, w2, o, w3, w4⟩
            · exact .inl w
            · exact .inr ⟨w1, by rw [Heap.size_push]; exact Nat.lt_succ_of_lt w2, o, Heap.get?_push_of_some _ w3, w4⟩
        · have lt : ∀ p ∈ cs, p.2 < s.heap.objs.size := fun p hp => by
            rcases I.mem p hp with w | w
            · exact Nat.lt_of_lt_of_le (hcl p w) I.sz
            · exact w.2.1
          rcases List.mem_cons.mp hp with z | z <;> rcases List.mem_cons.mp hq with z' | z'
          · rw [z, z']
          · subst z; exact absurd (show s.heap.objs.size < s.heap.objs.size from (show s.heap.objs.size = q.2 from e) ▸ lt q z') (Nat.lt_irrefl _)
          · subst z'; exact absurd (show s.heap.objs.size < s.heap.objs.size from (show p.2 = s.heap.objs.size from e) ▸ lt p z) (Nat.lt_irrefl _)
          · exact I.inj p z q z' hn e
        · rcases List.mem_append.mp hy with z | z
          · obtain ⟨c, e1, e2⟩ := I.own y z hc
            by_cases hx : y.1 = n
            · exact ⟨s.heap.objs.size, by rw [hx]; simp, I.sz⟩
            · have hb : (y.1 == n) = false := by simpa using hx
              exact ⟨c, by simp only [List.lookup_cons, hb]; exact e1, e2⟩
          · have : y = (n, .cell) := by simpa using z
            subst this
            exact ⟨s.heap.objs.size, by simp, I.sz⟩
        · have hxn : n ≠ x := hx (n, .cell) (by simp) rfl
          have hb : (x == n) = false := by simpa using hxn.symm
          simp only [List.lookup_cons, hb]
          exact I.oth x fun y hy => hx y (List.mem_append_left _ hy)
      refine thn (cells_run hcl r _ _ { s with heap := s.heap.push { cls := .type "cell", data := .cell none } } I') fun cs' s' ⟨h', e1, e2⟩ => ⟨h', e1, ?_⟩
      rw [List.append_assoc] at e2
      exact e2
    · have e1 : (k == NameKind.cell) = false := by cases k <;> first | rfl | exact absurd rfl hk
      simp only [e1, Bool.false_eq_true, if_false]
      refine wpAny_bind (wpAny_pure ?_)
      have I' : CellsOf cl n0 cs h0 s.heap (done ++ [(n, k)]) := by
        refine ⟨I.old, I.sz, I.mem, I.inj, fun y hy hc => ?_, fun x hx => I.oth x fun y hy => hx y (List.mem_append_left _ hy)⟩
        rcases List.mem_append.mp hy with z | z
        · exact I.own y z hc
        · have : y = (n, k) := by simpa using z
          subst this
          exact absurd hc hk
      refine thn (cells_run hcl r _ _ s I') fun cs' s' ⟨h', e1, e2⟩ => ⟨h', e1, ?_⟩
      rw [List.append_assoc] at e2
      exact e2
theorem newEnv_own {M : Model} {A : Around} {E : Value → Shared → Prop} {s : Shared} {scope : Scope} {globals : Addr} {cl : List (Str × Addr)} {qual : Str} {around : Env} {Q : Env → Shared → Prop} (hcl : ∀ p ∈ cl, p.2 < s.heap.objs.size)
    (h : ∀ cs h', CellsOf cl (s.heap.objs.size + 1) cs (s.heap.push { cls := .type "dict", data := .dict #[] }) h' scope.names → Q { scope := scope, locals := s.heap.objs.size, globals := globals, cells := cs, qual := qual, func := none, code := around.code, frame := around.frame, builtins := around.builtins } { s with heap := h' }) :
    wpAny M A (newFunctionEnv scope globals cl [] qual none .none (some around)) Q E s := by
  unfold newFunctionEnv
  refine wpAny_bind (wpAny_alloc ?_)
  refine wpAny_bind (thn (cells_run (cl := cl) (n0 := s.heap.objs.size + 1) (h0 := s.heap.push { cls := .type "dict", data := .dict #[] }) (fun p hp => Nat.lt_succ_of_lt (hcl p hp)) scope.names cl [] { s with heap := s.heap.push { cls := .type "dict", data := .dict #[] } } ⟨fun b o e => e, by rw [Heap.size_push]; exact Nat.le_refl _, fun p hp => .inl hp, fun p hp q hq hn e => absurd (hcl p hp) (Nat.not_lt_of_le (Nat.le_of_succ_le hn)), fun y hy => (nomatch hy), fun x hx => rfl⟩) fun cs s' ⟨h', e1, e2⟩ => ?_)
  subst e1
  rw [List.nil_append] at e2
  exact wpAny_bind (wpAny_pure (wpAny_pure (h cs h' e2)))

def compOkN (around scope : Scope) : Bool :=
  scope.kind == .function && around.kind == .function && scope.names.all fun y => match y.2 with
    | .local => scope.names.lookup y.1 == some .local
    | .cell => scope.names.lookup y.1 == some .cell
    | .free => (scope.names.lookup y.1 == some .free) && (around.names.lookup y.1 == some .cell || around.names.lookup y.1 == some .free)
    | _ => true
theorem compOkN_kind {a s : Scope} (h : compOkN a s = true) : s.kind = .function := by
  simp only [compOkN, Bool.and_eq_true, beq_iff_eq] at h; exact h.1.1
theorem compOkN_at {a s : Scope} (h : compOkN a s = true) {y : Str × NameKind} (hy : y ∈ s.names) : (match y.2 with
    | .local => s.names.lookup y.1 == some .local
    | .cell => s.names.lookup y.1 == some .cell
    | .free => (s.names.lookup y.1 == some .free) && (a.names.lookup y.1 == some .cell || a.names.lookup y.1 == some .free)
    | _ => true) = true := by
  simp only [compOkN, Bool.and_eq_true] at h
  exact List.all_eq_true.mp h.2 y hy
theorem compOkN_local {a s : Scope} (h : compOkN a s = true) : ∀ y ∈ s.names, y.2 = .local → s.names.lookup y.1 = some .local := fun y hy e => by
  have q := compOkN_at h hy
  rw [e] at q
  exact beq_iff_eq.mp q
theorem compOkN_cell {a s : Scope} (h : compOkN a s = true) : ∀ y ∈ s.names, y.2 = .cell → s.names.lookup y.1 = some .cell := fun y hy e => by
  have q := compOkN_at h hy
  rw [e] at q
  exact beq_iff_eq.mp q
theorem compOkN_free {a s : Scope} (h : compOkN a s = true) : ∀ y ∈ s.names, y.2 = .free → s.names.lookup y.1 = some .free ∧ (a.names.lookup y.1 = some .cell ∨ a.names.lookup y.1 = some .free) := fun y hy e => by
  have q := compOkN_at h hy
  rw [e] at q
  simp only [Bool.and_eq_true, Bool.or_eq_true, beq_iff_eq] at q
  exact q
def compCxN (X : Cx) (Nc : List Str) (scope : Scope) (cs : List (Str × Addr)) (C : Addr) (s2 : Shared) (H2 : Hp) (fp : List Addr) : Cx :=
  { compCx X Nc scope cs C s2 H2 fp with fn := fun x => scope.names.lookup x == some .cell }
theorem closure_ofN {env : Env} {scope : Scope} (h : ∀ y ∈ scope.names, y.2 = .free → ∃ c, env.cells.lookup y.1 = some c) :
    ∃ cl, closureFor scope env = pure cl ∧ (∀ p ∈ cl, env.cells.lookup p.1 = some p.2) ∧ (∀ y ∈ scope.names, y.2 = .free → ∃ c, cl.lookup y.1 = some c ∧ env.cells.lookup y.1 = some c) := by
  obtain ⟨cl, e, h1, h2, h3⟩ := closure_in (env := env) scope.names [] h
  have up : ∀ p ∈ cl, env.cells.lookup p.1 = some p.2 := fun p q => by
    rcases h1 _ q with z | z
    · cases z
    · exact z
  refine ⟨cl, ?_, up, fun y hy hf => ?_⟩
  · unfold closureFor
    simp only [bind_pure_comp] at e ⊢
    rw [e]
    exact pure_bind _ _
  · obtain ⟨c, hc⟩ := h3 y hy hf
    cases q : cl.lookup y.1 with
    | none => exact absurd (List.lookup_eq_none_iff.mp q _ hc) (by simp)
    | some c' => exact ⟨c', rfl, up _ (PySem.mem_of_lookup q)⟩
section
variable {X : Cx}

theorem comp_startN {pins : List (Addr × Obj)} {σ : St} {H2 : Hp} {s2 : Shared} {Nc : List Str} {js : List (Option Nat)} {scope : Scope} {cs : List (Str × Addr)} {fp : List Addr} {h1 : Heap} {tk : Nat} {D C : Addr} {oD : Obj} {m : Str → Option Value}
    (I : Inv X pins σ H2 s2) (hok : compOkN X.env.scope scope = true) (htk : takesC X.N Nc scope js 0 = true) (up : ∀ x c, cs.lookup x = some c → X.env.cells.lookup x = some c ∨ (C < c ∧ h1.IsCell c none)) (hinj : ∀ x y c, cs.lookup x = some c → cs.lookup y = some c → x = y) (hown : ∀ y ∈ scope.names, y.2 = .cell → ∃ c, cs.lookup y.1 = some c ∧ C < c) (hfr : ∀ y ∈ scope.names, y.2 = .free → ∃ c, cs.lookup y.1 = some c ∧ X.env.cells.lookup y.1 = some c)
    (hfp : ∀ b ∈ fp, FpOk X pins H2 b) (hfl : ∀ b ∈ fp, b < s2.heap.objs.size) (hD : D = s2.heap.objs.size) (hC : C = s2.heap.objs.size + 1) (old : ∀ b o, s2.heap.get? b = some o → h1.get? b = some o) (hns : h1.Ns C m) (hoD : h1.get? D = some oD) (hdD : ∀ v, oD.data ≠ .cell v) :
    Inv (compCxN X Nc scope cs C s2 H2 fp) [(D, oD)] (iniC js σ) H2 { s2 with heap := h1, toks := tk } := by
  have leC : s2.heap.objs.size ≤ C := by rw [hC]; exact Nat.le_succ _
  have leD : s2.heap.objs.size ≤ D := Nat.le_of_eq hD.symm
  have kf : ∀ x, ((compEnvC scope cs C X.env).kindOf x = some .cell ∨ (compEnvC scope cs C X.env).kindOf x = some .free) → ∃ c, cs.lookup x = some c := fun x hx => by
    have : ∃ k, (compEnvC scope cs C X.env).kindOf x = some k ∧ (k = .cell ∨ k = .free) := hx.elim (fun q => ⟨_, q, .inl rfl⟩) fun q => ⟨_, q, .inr rfl⟩
    obtain ⟨k, e, hk⟩ := this
    obtain ⟨k', h1, h2⟩ := lookup_relabel_inv (show (scope.names.map _).lookup x = some k from e)
    have hm := lookup_mem h1
    have : k' = .free ∨ k' = .cell := by
      rcases h2 with q | q
      · subst q
        exact hk.symm
      · exact .inl q.1
    rcases this with z | z
    · subst z
      obtain ⟨c, q, _⟩ := hfr _ hm rfl
      exact ⟨c, q⟩
    · subst z
      obtain ⟨c, q, _⟩ := hown _ hm rfl
      exact ⟨c, q⟩
  have nC : ∀ c x, X.env.cells.lookup x = some c → c < s2.heap.objs.size := fun c x e => by
    obtain ⟨v, q⟩ := I.cell x c e
    exact q.lt
  have noB : ∀ b, b ∈ fp → b ∉ frs X.stack := fun b hb q => by
    rcases List.mem_cons.mp (I.stkSub b q) with z | z
    · exact (hfp b hb).2.1 z
    · exact (hfp b hb).2.2.1 z
  have okX : (compCxN X Nc scope cs C s2 H2 fp).Ok := by
    refine ⟨I.ok.mod, (show scope.kind = .function from compOkN_kind hok), I.ok.glob, I.ok.blt, ?_, fun x y c e1 e2 => hinj x y c e1 e2, fun x hx => ?_, (fun x c e1 e2 => ?_), I.ok.hd, I.ok.frames, .inl rfl, fun b hb => ⟨?_, fun x c e => (up _ _ e).elim (fun z => (hfp b hb).2.2.2.2.1 x c z) fun z => Nat.ne_of_gt (Nat.lt_trans (Nat.lt_of_lt_of_le (hfl b hb) leC) z.1)⟩, I.bs, Nat.le_trans I.ok.bsz I.sz, fun b o e hb => ?_, fun b hb => noB b hb, I.stack, I.stkFree⟩
    · show s2.heap.objs.size ≤ C; exact leC
    · exact kf x hx
    · have hm := lookup_mem (beq_iff_eq.mp (show (scope.names.lookup x == some NameKind.cell) = true from e1))
      obtain ⟨c', q1, q2⟩ := hown _ hm rfl
      have : c = c' := Option.some.inj ((show cs.lookup x = some c from e2).symm.trans q1)
      rw [this]
      exact Nat.le_trans leC (Nat.le_of_lt q2)
    · exact Nat.ne_of_lt (Nat.lt_of_lt_of_le (hfl b hb) leC)
    · rcases (hfp b hb).2.2.2.1 with q | q
      · exact I.ok.noex b o e q
      · exact absurd (Nat.lt_of_lt_of_le (Heap.lt_size e) (Nat.le_trans I.ok.bsz q)) (Nat.lt_irrefl _)
  refine ⟨okX, rfl, I.bare, Un.kept old, ⟨m, hns, fun i x v e1 e2 e3 => ?_⟩, fun x c e => ?_, I.hok.fresh leC, fun x c e => (up _ _ e).elim (fun z => I.freeC x c z) fun z => I.hok.fresh (Nat.le_trans leC (Nat.le_of_lt z.1)), fun p hp => ?_, I.hok.kept old, ?_⟩
  · have e2' : (iniC js σ)[i]? = some (some v) := e2
    unfold iniC at e2'
    rw [List.getElem?_map] at e2'
    cases q : js[i]? with
    | none => rw [q] at e2'; cases e2'
    | some j0 =>
      cases j0 with
      | none => rw [q] at e2'; cases e2'
      | some j =>
        rw [q] at e2'
        simp only [Option.map_some, Option.some.injEq] at e2'
        have e4 : σ[j]? = some (some v) := by
          cases z : σ[j]? with
          | none => rw [z] at e2'; cases e2'
          | some o => rw [z] at e2'; simp only [Option.join_some] at e2'; rw [e2']
        obtain ⟨y, y1, y2, y3⟩ := takesC_at htk q
        rw [Nat.zero_add] at y1
        have : x = y := Option.some.inj ((show Nc[i]? = some x from e1).symm.trans y1)
        subst this
        have hm := lookup_mem y3
        obtain ⟨c, c1, c2⟩ := hfr _ hm rfl
        have hk := (compOkN_free hok _ hm rfl).2
        obtain ⟨m0, hn0, hl0⟩ := I.loc
        obtain ⟨u, r, l⟩ := hl0 j x v y2 e4 (hk.elim (fun z => .inr (.inl z)) fun z => .inr (.inr z))
        refine ⟨u, r, .inr ⟨?_, c, c1, ?_⟩⟩
        · rcases e3 with z | z | z
          · obtain ⟨k', w1, w2⟩ := lookup_relabel_inv (show (scope.names.map _).lookup x = some NameKind.local from z)
            rw [y3] at w1; cases w1
            rcases w2 with w | w
            · cases w
            · cases w.2
          · exact .inl z
          · exact .inr z
        · rcases l with ⟨lk, _⟩ | ⟨_, c', c3, c4⟩
          · rcases hk with z | z
            · rw [show X.env.kindOf x = some .cell from z] at lk; cases lk
            · rw [show X.env.kindOf x = some .free from z] at lk; cases lk
          · rw [c2] at c3; cases c3
            obtain ⟨oc, w1, w2⟩ := c4
            exact ⟨oc, old _ _ w1, w2⟩
  · rcases up _ _ e with z | z
    · obtain ⟨v, oc, w1, w2⟩ := I.cell x c z
      exact ⟨v, oc, old _ _ w1, w2⟩
    · exact ⟨_, z.2⟩
  · have : p = (D, oD) := by
      have hp' : p ∈ ([] ++ [(D, oD)] : List (Addr × Obj)) := hp
      simpa using hp'
    subst this
    refine ⟨hoD, I.hok.fresh leD, (by show D ≠ C; rw [hD, hC]; exact Nat.ne_of_lt (Nat.lt_succ_self _)), fun hb => ?_, hdD⟩
    have hb' : D ∈ frs X.stack := hb
    obtain ⟨_, o, ho, _⟩ := I.stack.mem hb'
    exact absurd (Nat.lt_of_lt_of_le (Heap.lt_size ho) leD) (Nat.lt_irrefl _)
  · have := takesC_len htk
    show (iniC js σ).length = Nc.length
    unfold iniC; rw [List.length_map]; omega


theorem comp_runN {pins : List (Addr × Obj)} {σ : St} {H : Hp} {s : Shared} {tg elt iter : Expr} {ifs : List Expr} {scope : Scope} {pos : Pos} {wi : TI} {g : TG} {tt : TT} {te : TE} {Nc : List Str} {js : List (Option Nat)} {use : Option (Value → Sem Unit)} {Q : VK} {QQ : Value → Shared → Prop}
    (hc : X.calm = true) (hok : compOkN X.env.scope scope = true) (htk : takesC X.N Nc scope js 0 = true) (hi : PI X tg iter wi)
    (hg : ∀ cl C s2 H2 fp, PG (compCxN X Nc scope cl C s2 H2 fp) tg g) (ht : ∀ cl C s2 H2 fp, PIfs (compCxN X Nc scope cl C s2 H2 fp) ifs tt) (he : ∀ cl C s2 H2 fp, PE (compCxN X Nc scope cl C s2 H2 fp) elt te)
    (hs : ∀ x, foldedSetIterable iter X.env x = pure x) {L : List Nat} (ho : OnlyG g L) (hL : (L.all fun k => js[k]? == some none) = true) (I : Inv X pins σ H s) (h : tComp wi g tt te js σ H Q)
    (fin : ∀ (D C : Addr) (H' H2 : Hp) (s2 s' : Shared) (xs : List V) (m : Str → Option Value), Inv X pins σ H2 s2 → H' C = none → C = D + 1 → D = s2.heap.objs.size → s'.heap.Ns C m → (∀ h', Heap.SameBut C s'.heap h' → Inv X pins σ (upd H' D (.lst xs)) { s' with heap := h' }) → Q (.ref D) (upd H' D (.lst xs)) →
      compPost (model X.prog X.w) X.A X.xe use QQ (.ref D) C (.ok .next) s') :
    wpAny (model X.prog X.w) X.A (comprehension (.ListComp elt [⟨tg, iter, ifs, 0⟩] scope pos) scope X.env (firstIterPos [⟨tg, iter, ifs, 0⟩] pos) (newList []) false (eval iter X.env) use) QQ X.xe s := by
  have hcells : ∀ y ∈ scope.names, y.2 = .free → ∃ c, X.env.cells.lookup y.1 = some c := fun y hy hf => I.ok.has y.1 (compOkN_free hok y hy hf).2
  obtain ⟨cl, hcl, upM, hfr0⟩ := closure_ofN hcells
  have hk := compOkN_kind hok
  refine wpAny_comprehension_free (use := use) rfl hs hcl hk (compOkN_local hok) (thn (hi pins s σ H _ I h) fun v s1 h1 => thn h1 fun itv s2 h2 => ?_)
  obtain ⟨it, fp, tn, J, H2, e, I2, T, st2, f2, W, ⟨m0, w0⟩, turn⟩ := h2
  subst e
  have clt : ∀ p ∈ cl, p.2 < s2.heap.objs.size := fun p hp => by
    obtain ⟨v, q⟩ := I2.cell p.1 p.2 (upM p hp)
    exact q.lt
  refine wpAny_newObj_type (newEnv_own (fun p hp => ?_) fun cs h₁ CO => ?_)
  · show p.2 < (s2.heap.push _).objs.size
    rw [Heap.size_push]; exact Nat.lt_succ_of_lt (clt p hp)
  dsimp only at CO ⊢
  generalize hH2 : s2.heap.push { cls := .type "list", dict := none, data := .seq ([] : List Value).toArray } = HH at CO ⊢
  have hC : HH.objs.size = s2.heap.objs.size + 1 := by rw [← hH2, Heap.size_push]
  have hcl' : ∀ p ∈ cl, p.2 < HH.objs.size := fun p hp => by rw [hC]; exact Nat.lt_succ_of_lt (clt p hp)
  have hns₁ : h₁.Ns HH.objs.size (fun _ => none) := ⟨_, #[], _, CO.old _ _ (Heap.get?_push_size _ rfl), rfl, fun e he => absurd he (by simp), fun n => rfl⟩
  have up : ∀ x c, cs.lookup x = some c → X.env.cells.lookup x = some c ∨ (HH.objs.size < c ∧ h₁.IsCell c none) := fun x c e => by
    rcases CO.mem _ (PySem.mem_of_lookup e) with z | z
    · exact .inl (upM _ z)
    · exact .inr ⟨z.1, z.2.2⟩
  have hinj : ∀ x y c, cs.lookup x = some c → cs.lookup y = some c → x = y := fun x y c e1 e2 => by
    have m1 := PySem.mem_of_lookup e1
    have m2 := PySem.mem_of_lookup e2
    rcases CO.mem _ m1 with z | z
    · rcases CO.mem _ m2 with z' | z'
      · exact I2.ok.inj x y c (upM _ z) (upM _ z')
      · exact absurd (hcl' _ z) (Nat.not_lt_of_le (Nat.le_of_succ_le z'.1))
    · exact CO.inj _ m1 _ m2 z.1 rfl
  have hfr : ∀ y ∈ scope.names, y.2 = .free → ∃ c, cs.lookup y.1 = some c ∧ X.env.cells.lookup y.1 = some c := fun y hy hf => by
    obtain ⟨c, q1, q2⟩ := hfr0 y hy hf
    refine ⟨c, ?_, q2⟩
    rw [CO.oth y.1 fun y' hy' hc' z => ?_]
    · exact q1
    · have w1 := compOkN_cell hok y' hy' hc'
      have w2 := (compOkN_free hok y hy hf).1
      rw [z, w2] at w1; cases w1
  have hfl : ∀ b ∈ fp, b < s2.heap.objs.size := fun b hb => by
    obtain ⟨o, ho, _⟩ := T.obj 0 _ st2 b hb
    exact Heap.lt_size ho
  have hDC : s2.heap.objs.size ≠ HH.objs.size := by rw [hC]; exact Nat.ne_of_lt (Nat.lt_succ_self _)
  have old : ∀ b o, s2.heap.get? b = some o → h₁.get? b = some o := fun b o e => CO.old b o (Heap.get?_push_of_some _ (hH2 ▸ Heap.get?_push_of_some _ e))
  have hacc : h₁.get? s2.heap.objs.size = some { cls := .type "list", dict := none, data := .seq ([] : List Value).toArray } := CO.old _ _ (Heap.get?_push_of_some _ (hH2 ▸ Heap.get?_push_size _ rfl))
  have I4 := comp_startN (Nc := Nc) (js := js) (tk := s2.toks) I2 hok htk up hinj (fun y hy hc => CO.own y hy hc) hfr f2 hfl rfl hC old hns₁ hacc (by intro v z; cases z)
  have st4 : tn 0 h₁ := T.keep _ _ _ st2 fun b _ o e => old b o e
  generalize hXc : compCxN X Nc scope cs HH.objs.size s2 H2 fp = Xc at I4
  have hXA : Xc.A = X.A := by rw [← hXc]; rfl
  have hXe : Xc.env = compEnvC scope cs HH.objs.size X.env := by rw [← hXc]; rfl
  have hXp : Xc.prog = X.prog := by rw [← hXc]; rfl
  have hXw : Xc.w = X.w := by rw [← hXc]; rfl
  have hXx : Xc.xe = fun _ _ => False := by rw [← hXc]; rfl
  have hXk : Xc.K = X.K := by rw [← hXc]; rfl
  have hXcalm : Xc.calm = true := by rw [← hXc]; exact hc
  have fpok : ∀ {pl : List (Addr × Obj)} {H' : Hp}, (∀ p ∈ pl, s2.heap.objs.size ≤ p.1) → (∀ b ∈ fp, H' b = none) → ∀ b ∈ fp, FpOk Xc pl H' b := fun {pl H'} hpl hn b hb => by
    have k1 : b ≠ HH.objs.size := Nat.ne_of_lt (by rw [hC]; exact Nat.lt_succ_of_lt (hfl b hb))
    have k2 : b ∉ frs X.stack := fun q => by
      rcases List.mem_cons.mp (I2.stkSub b q) with z | z
      · exact (f2 b hb).2.1 z
      · exact (f2 b hb).2.2.1 z
    rw [← hXc]
    refine ⟨hn b hb, k1, k2, .inl hb, fun x c e => (up _ _ e).elim (fun z => (f2 b hb).2.2.2.2.1 x c z) fun z => Nat.ne_of_gt (Nat.lt_trans (by rw [hC]; exact Nat.lt_succ_of_lt (hfl b hb)) z.1), fun p hp => ?_⟩
    have hp' : p ∈ pl := by simpa [compCxN, compCx] using hp
    exact Nat.ne_of_gt (Nat.lt_of_lt_of_le (hfl b hb) (hpl p hp'))
  have gX : PG Xc tg g := hXc ▸ hg cs HH.objs.size s2 H2 fp
  have tX : PIfs Xc ifs tt := hXc ▸ ht cs HH.objs.size s2 H2 fp
  have eX : PE Xc elt te := hXc ▸ he cs HH.objs.size s2 H2 fp
  have hs0 : Xc.s₀ = s2 := by rw [← hXc]; rfl
  have hh0 : Xc.H₀ = H2 := by rw [← hXc]; rfl
  have hfs : Xc.fs = frs X.stack := by rw [← hXc]; rfl
  have hex : Xc.ex = fp := by rw [← hXc]; rfl
  have loop : codeAny (model X.prog X.w) X.A (.compLoop (.ListComp elt [⟨tg, iter, ifs, 0⟩] scope pos) 0 (.ref it) (.ref s2.heap.objs.size) (compEnvC scope cs HH.objs.size X.env)) (compPost (model X.prog X.w) X.A X.xe use QQ (.ref s2.heap.objs.size) HH.objs.size)
      { s2 with heap := h₁, toks := s2.toks } := by
    refine codeAny_compLoop_all (fun n s' => ∃ i acc its nn H', Inv Xc [(s2.heap.objs.size, { cls := .type "list", dict := none, data := .seq (its : List Value).toArray nn })] (iniC js σ) H' s' ∧ Vals acc its ∧ acc.length ≤ sizeLine ∧ tn i s'.heap ∧ (∀ b ∈ fp, H' b = none) ∧ W i n acc H') ?_ m0
      ⟨0, [], [], 0, H2, I4, .nil, Nat.zero_le _, st4, fun b hb => (f2 b hb).1, w0⟩
    rintro n s3 ⟨i, acc, its, nn, H3, I3, va, hlen, st3, fr3, w3⟩
    have pg : ∀ p ∈ ([(s2.heap.objs.size, { cls := .type "list", dict := none, data := .seq its.toArray nn })] : List (Addr × Obj)), s2.heap.objs.size ≤ p.1 := fun p hp => by
      simp only [List.mem_cons, List.not_mem_nil, or_false] at hp
      subst hp; exact Nat.le_refl _
    rcases turn i n acc H3 w3 with ⟨stop, hl, qn⟩ | ⟨go, hl, step⟩
    · have q := T.done Xc hXp hXw hXk hXcalm i _ s3 (iniC js σ) H3 (fun _ _ => False) I3 (fpok pg fr3) st3 stop
      rw [hXA] at q
      refine thn q fun r s4 ⟨hr, I5⟩ => ?_
      subst hr
      have hpin := I5.pin _ (List.mem_append_right _ (.head _))
      obtain ⟨m5, hn5, _⟩ := I5.loc
      rw [hXe] at hn5
      refine fin _ _ H3 H2 s2 s4 acc m5 I2 (by have := I5.free; rw [hXe] at this; exact this) hC rfl hn5 (fun h' hsb => ?_) (qn _ hpin.2.1)
      have same : ∀ b o, b ≠ HH.objs.size → s4.heap.get? b = some o → h'.get? b = some o := fun b o hb e => hsb.extBut b o hb e
      have un := I5.base
      rw [hfs, hex, hh0, hs0] at un
      have lt : ∀ b o, s2.heap.get? b = some o → b < s2.heap.objs.size := fun b o e => Heap.lt_size e
      have neC : ∀ b o, s2.heap.get? b = some o → b ≠ HH.objs.size := fun b o e => Nat.ne_of_lt (by rw [hC]; exact Nat.lt_succ_of_lt (lt b o e))
      have neD : ∀ b o, s2.heap.get? b = some o → b ≠ s2.heap.objs.size := fun b o e => Nat.ne_of_lt (lt b o e)
      have trkC : ∀ b o, H3 b = some o → b ≠ HH.objs.size := fun b o e z => by
        have := I5.free; rw [hXe] at this; rw [z, show H3 HH.objs.size = none from this] at e; cases e
      refine I2.call' (s' := { s4 with heap := h' }) (ch := fp) (I5.os.trans (by rw [hs0])) ⟨fun b o e n hb hx => same _ _ (neC b o e) (un.keep b o e n hb hx), fun b o e n hb hx => ?_, fun b o e n hx => by rw [upd_ne (neD b o e)]; exact un.free b o e n hx, fun b o e hx => ?_, fun b xs e => ?_, fun b o u e => ?_, fun b ps e => ?_⟩ (fun a o e => ?_) I5.bare fun b hb => ⟨(f2 b hb).2.2.2.1, (f2 b hb).2.1, (f2 b hb).2.2.2.2.1, (f2 b hb).2.2.2.2.2⟩
      · obtain ⟨sl, z⟩ := un.slot b o e n hb hx
        exact ⟨sl, same _ _ (neC b o e) z⟩
      · obtain ⟨o', z⟩ := un.there b o e hx
        exact ⟨o', same _ _ (neC b o e) z⟩
      · rw [upd_ne (Nat.ne_of_lt (I2.hok.lt e))]; exact un.tups b xs e
      · rw [upd_ne (Nat.ne_of_lt (I2.hok.lt e))]; exact un.frzs b o u e
      · obtain ⟨more, z⟩ := un.tbls b ps e
        exact ⟨more, by rw [upd_ne (Nat.ne_of_lt (I2.hok.lt e))]; exact z⟩
      · by_cases ha : a = s2.heap.objs.size
        · subst ha
          rw [upd_same] at e; cases e
          exact ⟨hl, its, nn, va, same _ _ hDC hpin.1⟩
        · rw [upd_ne ha] at e
          have q := I5.hok a o e
          rw [hXp, hXw] at q
          refine q.stay (fun b u hb z => same b u ?_ z) (fun b z => by rw [upd_ne]; exact z; intro y; subst y; rw [hpin.2.1] at z; cases z) fun b xs z => by rw [upd_ne]; exact z; intro y; subst y; rw [hpin.2.1] at z; cases z
          rcases hb with hb | hb
          · subst hb; exact trkC _ _ e
          · exact trkC _ _ hb
    · have q := T.item Xc hXp hXw hXk hXcalm i _ s3 (iniC js σ) H3 (fun _ _ => False) I3 (fpok pg fr3) st3 go
      rw [hXA] at q
      refine thn q fun r s4 ⟨u, hr, h4⟩ => ?_
      subst hr
      refine thn h4 fun _ s5 ⟨x, H5, I5, r5, y5, st5, fr5⟩ => ?_
      have I5' := I5.pinned (fpok pg fr5) (T.obj _ _ st5)
      have again : ∀ {σ7 : St} {H7 : Hp} {s7 : Shared} {acc7 : List V} {its7 : List Value} {n7 : Nat} {m : Nat}, Inv Xc ([(s2.heap.objs.size, { cls := .type "list", dict := none, data := .seq its7.toArray n7 })] ++ pinsAt fp s5.heap) σ7 H7 s7 → Vals acc7 its7 → acc7.length ≤ sizeLine → W (i + 1) m acc7 H7 → σ7.length = (iniC js σ).length → (∀ (k : Nat) v, (iniC js σ)[k]? = some (some v) → σ7[k]? = some (some v)) →
          ∃ i acc its nn H', Inv Xc [(s2.heap.objs.size, { cls := .type "list", dict := none, data := .seq (its : List Value).toArray nn })] (iniC js σ) H' s7 ∧ Vals acc its ∧ acc.length ≤ sizeLine ∧ tn i s7.heap ∧ (∀ b ∈ fp, H' b = none) ∧ W i m acc H' := fun {σ7 H7 s7 acc7 its7 n7 m} I7 v7 l7 w7 hl7 hw7 => by
        refine ⟨i + 1, acc7, its7, n7, H7, (I7.weak hl7.symm hw7).unpinned, v7, l7, T.keep _ _ _ st5 fun b hb o e => (I7.pin (b, o) (List.mem_append_right _ (List.mem_append_right _ (mem_pinsAt hb e)))).1, fun b hb => ?_, w7⟩
        obtain ⟨o, e, d⟩ := T.obj _ _ st5 b hb
        exact (I7.pin (b, o) (List.mem_append_right _ (List.mem_append_right _ (mem_pinsAt hb e)))).2.1
      have keep : ∀ {σ6 : St}, KeepOn L (iniC js σ) σ6 → σ6.length = (iniC js σ).length ∧ ∀ (k : Nat) v, (iniC js σ)[k]? = some (some v) → σ6[k]? = some (some v) := fun {σ6} hk => ⟨hk.1, fun k v e => by
        rw [hk.2 k]
        · exact e
        · intro z
          have q := List.all_eq_true.mp hL k z
          simp only [beq_iff_eq] at q
          unfold iniC at e
          rw [List.getElem?_map, q] at e
          cases e⟩
      have q6 := gX _ s5 (iniC js σ) H5 x u _ I5' r5 (ho _ _ _ _ _ (fun σ' H' kk z => And.intro kk z) (step x H5 y5))
      rw [hXe, hXA, hXp, hXw, hXx] at q6
      refine thn q6 fun _ s6 ⟨σ6, H6, I6, k6, q6⟩ => ?_
      obtain ⟨kl, kv⟩ := keep k6
      have q7 := tX _ s6 σ6 H6 _ I6 q6
      rw [hXe, hXA, hXp, hXw, hXx] at q7
      refine thn q7 fun b s7 ⟨H7, I7, q7⟩ => ?_
      cases b with
      | false =>
        obtain ⟨m', hm, w7⟩ := q7
        exact ⟨m', hm, again I7 va hlen w7 kl kv⟩
      | true =>
        have q8 := eX _ s7 σ6 H7 _ I7 q7
        rw [hXe, hXA, hXp, hXw, hXx] at q8
        refine thn q8 fun y s8 ⟨v8, H8, I8, r8, m', hm, w8⟩ => ?_
        have pinD := I8.pin _ (List.mem_append_right _ (List.mem_append_left _ (.head _)))
        have hnf : ∀ p ∈ pinsAt fp s5.heap, p.1 ≠ s2.heap.objs.size := fun p hp => by
          obtain ⟨z, _⟩ := of_pinsAt hp
          exact Nat.ne_of_lt (hfl _ z)
        have va' := va.length
        refine call_meets F.slot_list_append ⟨_, pinD.1, rfl⟩ F.entry_list_append (F.args_list_append_2 _ _) (PySem.list_append s2.heap.objs.size its.toArray nn y (by rw [List.size_toArray]; omega)) ⟨pinD.1, ?_⟩
        have e9 := PySem.IsL.update pinD.1 (fun a => a.push y)
        have e9' : its.toArray.push y = (its ++ [y]).toArray := by simp
        dsimp only at e9
        rw [e9'] at e9
        have I8' : Inv Xc (pinsAt fp s5.heap) σ6 H8 s8 := I8.pins_of fun p hp => I8.pin p (List.mem_append_right _ (List.mem_append_right _ hp))
        have hXpn : Xc.pn = [] := by rw [← hXc]; rfl
        have hXs : s2.heap.objs.size ∉ frs X.stack := by rw [← hfs]; exact pinD.2.2.2.1
        have I9 := I8'.turned (t' := s8.toks) (it := s2.heap.objs.size) (h' := s8.heap.update s2.heap.objs.size (Obj.mapSeq fun a => a.push y)) (fun b o hb e => (Heap.get?_update_other s8.heap _ (Ne.symm hb)).trans e) pinD.2.1 pinD.2.2.1
          (.inr (by rw [hs0]; exact Nat.le_refl _)) (fun x c e => by
            rw [hXe] at e
            intro z
            rcases up _ _ e with y | y
            · obtain ⟨v, q⟩ := I2.cell x c y
              exact absurd q.lt (by rw [z]; exact Nat.lt_irrefl _)
            · have := y.1
              rw [z, hC] at this
              exact absurd this (Nat.not_lt_of_le (Nat.le_succ _))) (fun p hp => by rw [hXpn, List.nil_append] at hp; exact hnf p hp)
        have I10 := I9.pins_of (pins' := [(s2.heap.objs.size, { cls := .type "list", dict := none, data := .seq (its ++ [y]).toArray _ })] ++ pinsAt fp s5.heap) fun p hp => by
          rcases List.mem_append.mp hp with z | z
          · simp only [List.mem_cons, List.not_mem_nil, or_false] at z
            subst z
            exact ⟨e9, pinD.2.1, pinD.2.2.1, pinD.2.2.2.1, by intro v z; cases z⟩
          · exact I9.pin p (List.mem_append_right _ z)
        exact ⟨m', hm, again I10 (va.append (.cons r8 .nil)) (by rw [List.length_append, List.length_singleton]; omega) w8 kl kv⟩
  exact codeAny_compStart_list loop (T.self _ 0 _ _ _ st4 loop)

theorem pe_compN {tg elt iter : Expr} {ifs : List Expr} {scope : Scope} {pos : Pos} {wi : TI} {g : TG} {tt : TT} {te : TE} (Nc : List Str) (js : List (Option Nat)) {L : List Nat}
    (hc : X.calm = true) (hok : compOkN X.env.scope scope = true) (htk : takesC X.N Nc scope js 0 = true) (hi : PI X tg iter wi)
    (hg : ∀ cl C s2 H2 fp, PG (compCxN X Nc scope cl C s2 H2 fp) tg g) (ht : ∀ cl C s2 H2 fp, PIfs (compCxN X Nc scope cl C s2 H2 fp) ifs tt) (he : ∀ cl C s2 H2 fp, PE (compCxN X Nc scope cl C s2 H2 fp) elt te)
    (ho : OnlyG g L) (hL : (L.all fun k => js[k]? == some none) = true := by rfl) (hs : ∀ x, foldedSetIterable iter X.env x = pure x := by intro _; rfl) : PE X (.ListComp elt [⟨tg, iter, ifs, 0⟩] scope pos) (tComp wi g tt te js) := by
  intro pins s σ H Q I h
  rw [eval_ListComp]
  exact comp_runN (use := none) hc hok htk hi hg ht he hs ho hL I h fun D C H' H2 s2 s' xs m I2 hHC e1 e2 hn hI q => ⟨m, hn, fun h' hsb => ⟨.ref D, _, hI h' hsb, rfl, q⟩⟩


theorem ps_setCN {i : Nat} {x : Str} {pos' spos : Pos} {tg elt iter : Expr} {ifs : List Expr} {scope : Scope} {pos : Pos} {wi : TI} {g : TG} {tt : TT} {te : TE} (Nc : List Str) (js : List (Option Nat)) {L : List Nat}
    (hN : X.N.Nodup) (hxi : X.N[i]? = some x) (hx : Loc X.env.scope x)
    (hc : X.calm = true) (hok : compOkN X.env.scope scope = true) (htk : takesC X.N Nc scope js 0 = true) (hi : PI X tg iter wi)
    (hg : ∀ cl C s2 H2 fp, PG (compCxN X Nc scope cl C s2 H2 fp) tg g) (ht : ∀ cl C s2 H2 fp, PIfs (compCxN X Nc scope cl C s2 H2 fp) ifs tt) (he : ∀ cl C s2 H2 fp, PE (compCxN X Nc scope cl C s2 H2 fp) elt te)
    (ho : OnlyG g L) (hL : (L.all fun k => js[k]? == some none) = true := by rfl) (hs : ∀ x, foldedSetIterable iter X.env x = pure x := by intro _; rfl)
    (hsw : swapsWith (.ListComp elt [⟨tg, iter, ifs, 0⟩] scope pos) (some (.Name x pos')) spos.line X.env = pure true := by rfl)
    (hf : X.fn x = true ∨ X.env.scope.names.lookup x = some .local := by first | exact .inl rfl | exact .inr rfl | assumption) :
    PS X (.Assign [.Name x pos'] (.ListComp elt [⟨tg, iter, ifs, 0⟩] scope pos) spos) (tAsg (tComp wi g tt te js) (gName i)) := by
  intro pins s σ H D I h
  rw [exec_Assign_Name_used _ _ _ _ hsw]
  refine wpAny_bind (wpAny_standAt (wpAny_bind ?_))
  show wpAny _ _ (comprehension _ _ _ _ _ _ _ _ >>= _) _ _ _
  refine wpAny_bind (thn (Q := fun _ s' => ∃ σ' H', Inv X pins σ' H' s' ∧ D.nx σ' H') (comp_runN (Q := fun v H1 => gName i v σ H1 D.nx) (use := some (assign (.Name x pos') X.env)) hc hok htk hi hg ht he hs ho hL I h ?_) fun _ s' ⟨σ', H', I', q⟩ => wpAny_pure (wpAny_pure ⟨σ', H', I', q⟩))
  intro D' C H' H2 s2 s' xs m I2 hHC e1 e2 hn hI q
  obtain ⟨oC, es, ep, hoC, hdC, hrest⟩ := id hn
  have leC : s2.heap.objs.size ≤ C := by rw [e1, e2]; exact Nat.le_succ _
  have ltC : s2.heap.objs.size < C := by rw [e1, e2]; exact Nat.lt_succ_self _
  have neDC : C ≠ D' := by rw [e2]; exact Nat.ne_of_gt ltC
  have fresh : s2.heap.get? C = none := by
    cases e : s2.heap.get? C with
    | none => rfl
    | some o => exact absurd (Nat.lt_of_lt_of_le (Heap.lt_size e) leC) (Nat.lt_irrefl _)
  have neL : C ≠ X.env.locals := Nat.ne_of_gt (Nat.lt_of_lt_of_le I2.lt leC)
  have nfs : C ∉ X.fs := I2.nofs leC
  have ncl : ∀ x c, X.env.cells.lookup x = some c → c ≠ C := fun x c e z => by
    obtain ⟨v, q⟩ := I2.cell x c e
    exact absurd (Nat.lt_of_lt_of_le q.lt leC) (by rw [z]; exact Nat.lt_irrefl _)
  have npn : ∀ p ∈ X.pn ++ pins, p.1 ≠ C := fun p hp z => by
    have := (I2.pin p hp).1
    rw [z, fresh] at this; cases this
  have hH : (upd H' D' (HO.lst xs)) C = none := by rw [upd_ne neDC]; exact hHC
  have I0 := hI s'.heap sameBut_refl
  have I1 : Inv X (pins ++ [(C, oC)]) σ (upd H' D' (.lst xs)) s' := I0.pins_of fun p hp => by
    rcases List.mem_append.mp hp with z | z
    · exact I0.pin p (List.mem_append_right _ z)
    · simp only [List.mem_cons, List.not_mem_nil, or_false] at z
      subst z
      exact ⟨hoC, hH, neL, nfs, fun v z => by rw [hdC] at z; cases z⟩
  show wpAny _ _ _ _ _ _
  refine thn (pg_name (X := X) (i := i) hN hxi hx hf (pins ++ [(C, oC)]) s' σ _ (.ref D') (.ref D') _ I1 rfl q) fun _ s3 ⟨σ3, H3, I3, q3⟩ => ?_
  have pC := I3.pin (C, oC) (List.mem_append_right _ (List.mem_append_right _ (.head _)))
  refine ⟨m, ⟨oC, es, ep, pC.1, hdC, hrest⟩, fun h' hsb => ⟨σ3, H3, ?_, q3⟩⟩
  exact I3.unpinned.turned (t' := s3.toks) (it := C) (fun b o hb e => hsb.extBut b o hb e) pC.2.1 neL (.inr (Nat.le_trans I2.sz leC)) ncl npn
end
end L2


set_option Elab.async false
set_option linter.all false
set_option maxRecDepth 100000
set_option maxHeartbeats 1000000
namespace L2
open PySem PySem.Spec PyProof.Rows PySem.W

def CF (n : Nat) (P : Nat → Bool) (vals : Nat → V) (H1 : Hp) (i m : Nat) (acc : List V) (H : Hp) : Prop := m = n - i ∧ i ≤ n ∧ acc = ((List.range i).filter P).map vals ∧ Same H1 H
theorem CF.take {n : Nat} {P : Nat → Bool} {vals : Nat → V} {H1 H : Hp} {i : Nat} {v : V} (hi : i < n) (hP : P i = true) (hv : v = vals i) (s : Same H1 H) : ∃ m', m' < n - i ∧ CF n P vals H1 (i + 1) m' (((List.range i).filter P).map vals ++ [v]) H :=
  ⟨n - (i + 1), by omega, rfl, hi, by rw [List.range_succ, List.filter_append, List.map_append, hv]; simp [hP], s⟩
theorem CF.skip {n : Nat} {P : Nat → Bool} {vals : Nat → V} {H1 H : Hp} {i : Nat} (hi : i < n) (hP : P i = false) (s : Same H1 H) : ∃ m', m' < n - i ∧ CF n P vals H1 (i + 1) m' (((List.range i).filter P).map vals) H :=
  ⟨n - (i + 1), by omega, rfl, hi, by rw [List.range_succ, List.filter_append, List.map_append]; simp [hP], s⟩
theorem comp_filt {J : It} {n : Nat} {H1 : Hp} {g : TG} {tt : TT} {te : TE} {σ0 : St} {Q : VK} (P : Nat → Bool) (vals : Nat → V) (hn : n < sizeLine) (hgo : ∀ i H, Same H1 H → i < n → J.go i H) (hstop : ∀ H, Same H1 H → J.stop n H)
    (hb : ∀ i x H H', i < n → Same H1 H → J.yld i H x H' → g x σ0 H' fun σ2 H2 => tt σ2 H2 fun b H3 => if b = true then te σ2 H3 fun v H4 => ∃ m', m' < n - i ∧ CF n P vals H1 (i + 1) m' (((List.range i).filter P).map vals ++ [v]) H4 else ∃ m', m' < n - i ∧ CF n P vals H1 (i + 1) m' (((List.range i).filter P).map vals) H3)
    (hk : ∀ l H', Same H1 H' → H' l = none → Q (.ref l) (upd H' l (.lst (((List.range n).filter P).map vals)))) :
    CompR J g tt te σ0 Q H1 := by
  refine ⟨CF n P vals H1, ⟨n, rfl, Nat.zero_le _, rfl, Same.refl _⟩, ?_⟩
  rintro i m acc H ⟨rfl, hi, rfl, s⟩
  have hlen : (((List.range i).filter P).map vals).length ≤ n := by
    rw [List.length_map]
    have := List.length_filter_le P (List.range i)
    rw [List.length_range] at this
    omega
  by_cases h : i < n
  · exact .inr ⟨hgo i H s h, by omega, fun x H' y => hb i x H H' h s y⟩
  · have : i = n := by omega
    subst this
    exact .inl ⟨hstop H s, by omega, fun p hp => hk p H s hp⟩

def CRv (rs : Nat → List Int) (H1 : Hp) (i : Nat) (acc : List V) (H : Hp) : Prop := Same H1 H ∧ ∃ as : List Addr, acc = as.map V.ref ∧ as.length = i ∧ ∀ (k : Nat) (a : Addr), as[k]? = some a → H a = some (.lst ((rs k).map V.int))
theorem CRv.take {rs : Nat → List Int} {H1 H H' : Hp} {i : Nat} {acc : List V} {a : Addr} (h : CRv rs H1 i acc H) (s : Same H H') (ha : H' a = some (.lst ((rs i).map V.int))) : CRv rs H1 (i + 1) (acc ++ [.ref a]) H' := by
  obtain ⟨s1, as, rfl, hl, h1⟩ := h
  refine ⟨s1.trans s, as ++ [a], by simp, by simp [hl], fun k b hk => ?_⟩
  by_cases z : k < as.length
  · rw [List.getElem?_append_left z] at hk
    exact s _ _ (h1 k b hk)
  · have hk2 := (List.getElem?_eq_some_iff.mp hk).1
    rw [List.length_append] at hk2
    have : k = as.length := by simp at hk2; omega
    subst this
    rw [List.getElem?_append_right (Nat.le_refl _)] at hk
    simp at hk
    rw [← hk, hl]; exact ha
theorem CRv.rows {rs : Nat → List Int} {H1 H : Hp} {n : Nat} {acc : List V} {l : Addr} (h : CRv rs H1 n acc H) (hl : H l = none) : Rows (upd H l (.lst acc)) l ((List.range n).map rs) := by
  obtain ⟨s1, as, rfl, hn, h1⟩ := h
  have hne : ∀ a ∈ as, a ≠ l := fun a ha => by
    obtain ⟨k, hk⟩ := List.getElem?_of_mem ha
    exact ne_of_none (h1 k a hk) hl
  refine ⟨as, upd_same, fun z => hne l z rfl, by simp [hn], fun i k1 k2 => ?_⟩
  rw [upd_ne (hne _ (List.getElem_mem k1)), h1 i as[i] (List.getElem?_eq_getElem k1)]
  simp

theorem IsLow.over {f : Nat → Int} {a b lo p : Nat} (h : IsLow f a b lo) (h1 : a ≤ p) (h2 : p ≤ b) (hne : p ≠ lo) : Over f lo p := by
  obtain ⟨l1, l2, l3, l4⟩ := h
  rcases Nat.lt_or_gt_of_ne hne with z | z
  · exact .inr ⟨z, fun r r1 r2 => l3 r (by omega) r2⟩
  · exact .inl ⟨z, fun r r1 r2 => l4 r r1 (by omega)⟩
theorem IsLow.top {f : Nat → Int} {a b lo o : Nat} (h : IsLow f a b lo) (h1 : a ≤ o) (h2 : o ≤ b) : ¬ Over f o lo := by
  obtain ⟨l1, l2, l3, l4⟩ := h
  rintro (⟨z, k⟩ | ⟨z, k⟩)
  · have := k lo z (Nat.le_refl _); have := l3 o h1 z; omega
  · have := k lo (Nat.le_refl _) z; have := l4 o z h2; omega
theorem tree_row {ns T : List Int} {g : Nat → Int} (hT : TreeIs ns T) (hg : ∀ q p, q < ns.length → p < ns.length → Over (nth ns) q p → (q < p → g q ≤ g p) ∧ (p < q → g q < g p)) : ∀ p, p < ns.length → ElderIs g ns.length p (T.getD p 0) := by
  intro p hp
  have pv : ∀ q, IsPrev (nth ns) p q → IsPrev g p q := fun q h => by
    refine ⟨h.1, (hg q p (by have := h.1; omega) hp (.inl ⟨h.1, fun r r1 r2 => ?_⟩)).1 h.1, fun r r1 r2 => (hg p r hp (by omega) (.inr ⟨r2, fun s s1 s2 => h.2.2 s (by omega) s2⟩)).2 r2⟩
    by_cases z : r = p
    · rw [z]; exact h.2.1
    · have := h.2.2 r r1 (by omega); have := h.2.1; omega
  have nx : ∀ r, IsNext (nth ns) ns.length p r → IsNext g ns.length p r := fun q h => by
    refine ⟨h.1, h.2.1, (hg q p h.2.1 hp (.inr ⟨h.1, fun r r1 r2 => ?_⟩)).2 h.1, fun s s1 s2 => (hg p s hp (by have := h.2.1; omega) (.inl ⟨s1, fun r r1 r2 => h.2.2.2 r r1 (by omega)⟩)).1 s1⟩
    by_cases z : r = p
    · rw [z]; exact h.2.2.1
    · have := h.2.2.2 r (by omega) r2; have := h.2.2.1; omega
  have np : NoPrev (nth ns) p → NoPrev g p := fun h q hq => (hg p q hp (by omega) (.inr ⟨hq, fun r r1 r2 => h r r2⟩)).2 hq
  have nn : NoNext (nth ns) ns.length p → NoNext g ns.length p := fun h r r1 r2 => (hg p r hp r2 (.inl ⟨r1, fun s s1 s2 => h s s1 (by omega)⟩)).1 r1
  have hE : ElderIs (nth ns) ns.length p (T.getD p 0) := hT.2 p hp
  rcases hE with ⟨h1, h2, h⟩ | ⟨q, h1, h2, h⟩ | ⟨r, h1, h2, h⟩ | ⟨q, r, h1, h2, h⟩
  · exact .inl ⟨np h1, nn h2, h⟩
  · exact .inr (.inl ⟨q, pv q h1, nn h2, h⟩)
  · exact .inr (.inr (.inl ⟨r, np h1, nx r h2, h⟩))
  · refine .inr (.inr (.inr ⟨q, r, pv q h1, nx r h2, ?_⟩))
    rw [h]
    have hq : q < ns.length := by have := h1.1; omega
    have hqr : q < r := by have := h1.1; have := h2.1; omega
    by_cases z : nth ns q ≤ nth ns r
    · have := (hg q r hq h2.2.1 (.inl ⟨hqr, fun s s1 s2 => by
        by_cases y : s = r
        · rw [y]; exact z
        · by_cases y2 : s = p
          · rw [y2]; exact h1.2.1
          · have := h1.2.1
            by_cases y3 : s < p
            · have := h1.2.2 s s1 y3; omega
            · have := h2.2.2.2 s (by omega) (by omega); omega⟩)).1 hqr
      rw [if_pos z, if_pos (by omega)]
    · have := (hg r q h2.2.1 hq (.inr ⟨hqr, fun s s1 s2 => by
        have := h1.2.1; have := h2.2.2.1
        by_cases y : s = q
        · rw [y]; omega
        · by_cases y2 : s = p
          · rw [y2]; omega
          · by_cases y3 : s < p
            · have := h1.2.2 s (by omega) y3; omega
            · have := h2.2.2.2 s (by omega) (by omega); omega⟩)).2 hqr
      rw [if_neg z, if_neg (by omega)]

theorem way_mem {ns T : List Int} (hT : TreeIs ns T) {p o : Nat} (hp : p < ns.length) : (o : Int) ∈ wayI T p ↔ o < ns.length ∧ Over (nth ns) o p := by
  rw [← (way_tree hT T.length p hp (by rw [hT.1]; exact Nat.le_of_lt (dep_lt hp))).1 o]
  unfold wayI
  rw [List.mem_map]
  refine ⟨fun ⟨q, hq, e⟩ => ?_, fun h => ⟨o, h, rfl⟩⟩
  have : q = o := by omega
  rw [← this]; exact hq
theorem atI_m1 {xs : List V} {v : V} (h : 0 < xs.length) (hv : xs[xs.length - 1]? = some v) : atI xs (-1) = some v := by
  have e : ixN xs.length (-1) = some (xs.length - 1) := by
    unfold ixN
    rw [if_neg (by omega), if_pos (by omega)]
    congr 1
    omega
  unfold atI
  rw [e]
  exact hv
end L2


set_option Elab.async false
set_option linter.all false
set_option maxRecDepth 100000
set_option maxHeartbeats 1000000
namespace HT
open PySem PyProof.Rows
section
open PySem.SeqAt
open PySem.AutoSeq1 (wpAny_loadPart')
open PySem.MeetsSeq PySem.MeetsSeq2 PySem.MeetsSeq3
variable {prog : Program} {w : World} {A : Around} {E : Value → Shared → Prop} {s : Shared}
end
end HT
namespace L2
open PySem PySem.Spec PyProof.Rows PySem.W
section
variable {X : Cx}

def rSlQ (K : Frag) : V → Option Int → Option Int → Hp → VK → Prop := fun x lo hi H Q => ∃ a xs, x = .ref a ∧ ((SqL K H a xs ∧ ∀ p, H p = none → Q (.ref p) (upd H p (.lst (cutV xs lo hi)))) ∨
  (SqT K H a xs ∧ (HT.sIx xs.length 0 lo = 0 ∧ HT.sIx xs.length xs.length hi = xs.length → Q (.ref a) H) ∧ (¬ (HT.sIx xs.length 0 lo = 0 ∧ HT.sIx xs.length xs.length hi = xs.length) → ∀ p, H p = none → Q (.ref p) (upd H p (.tup (cutV xs lo hi))))))
end
section
variable {X : Cx} {tg l : Expr} {tl : TE}
end
end L2


set_option Elab.async false
set_option linter.all false
set_option maxRecDepth 100000
set_option maxHeartbeats 1000000
namespace L2
open PySem PySem.Spec PyProof.Rows PySem.W

def way (T : List Int) (p : Nat) : List Nat := wayF T T.length (nth T p)
theorem wayI_way (T : List Int) (p : Nat) : wayI T p = (way T p).map fun q => ((q : Nat) : Int) := rfl

theorem way_over {ns T : List Int} (hT : TreeIs ns T) {p o : Nat} (hp : p < ns.length) : o ∈ way T p ↔ o < ns.length ∧ Over (nth ns) o p := by
  unfold way
  rw [hT.1]
  exact (way_tree hT ns.length p hp (Nat.le_of_lt (dep_lt hp))).1 o
end L2


set_option Elab.async false
set_option linter.all false
set_option maxRecDepth 100000
set_option maxHeartbeats 1000000
namespace L2
open PySem PySem.Spec PyProof.Rows PySem.W


section
variable {X : Cx} {pins : List (Addr × Obj)} {σ : St} {H : Hp} {s : Shared} {h' : Heap}

theorem Inv.turnedN {t' : Nat} {fp : List Addr} {T : Addr} {o : HO} (I : Inv X pins σ H s) (k : ∀ b u, b ∉ fp → s.heap.get? b = some u → h'.get? b = some u) (hf : ∀ b ∈ fp, FpOk X pins H b) (hT : s.heap.objs.size ≤ T) (new : ObjOk X.prog X.w (upd H T o) h' T o) :
    Inv X pins σ (upd H T o) { s with heap := h', toks := t' } := by
  have nit : ∀ b u, H b = some u → b ∉ fp := fun b u e z => by rw [(hf b z).1] at e; cases e
  have hfr : H T = none := I.hok.fresh hT
  have neT : ∀ b u, s.heap.get? b = some u → b ≠ T := fun b u e z => absurd (Heap.lt_size e) (by rw [z]; exact Nat.not_lt_of_le hT)
  have neH : ∀ b u, H b = some u → b ≠ T := fun b u e z => by rw [z, hfr] at e; cases e
  refine I.step (g' := s.gens) (d' := s.drawn) (ch := fp) (fun b hb => ?_) (fun b o _ _ hc e _ => k b o hc e) (fun b o _ _ hc e _ => ⟨o.slots, k b o hc e⟩) (fun b u _ e n => by rw [upd_ne (neT b u e)]; exact n)
    (fun b o hc e => ⟨o, k b o hc e⟩) (fun b xs e => by rw [upd_ne (neH b _ e)]; exact e) (fun b o u e => by rw [upd_ne (neH b _ e)]; exact e) (fun b ps e => ⟨#[], by rw [upd_ne (neH b _ e), e]; simp⟩) (fun m hm => ?_) (fun b u e => ?_) I.bare
  · obtain ⟨_, f1, _, f3, f4, f5⟩ := hf b hb
    exact ⟨f3, f1, f4, f5⟩
  · obtain ⟨o, es, ep, ho, r⟩ := hm
    exact ⟨o, es, ep, k _ o (fun z => (hf _ z).2.1 rfl) ho, r⟩
  · by_cases z : b = T
    · subst z
      rw [upd_same] at e; cases e
      exact new
    · rw [upd_ne z] at e
      refine (I.hok b u e).stay (fun c v hc q => k c v ?_ q) (fun c q => ?_) fun c xs q => ?_
      · rcases hc with y | y
        · rw [y]; exact nit b u e
        · exact nit c _ y
      · rw [upd_ne (neH _ _ q)]; exact q
      · rw [upd_ne (neH _ _ q)]; exact q

def Ite (K : Frag) (a : Addr) : It :=
  ⟨fun i H => ∃ xs x, SqL K H a xs ∧ xs[i]? = some x,
   fun i H v H' => ∃ p x, H p = none ∧ v = .ref p ∧ H' = upd H p (.tup [.int (i : Int), x]) ∧ ∀ xs, SqL K H a xs → xs[i]? = some x,
   fun i H => ∃ xs, SqL K H a xs ∧ xs.length = i⟩
theorem turn_enum {P : Program} {w : World} {K : Frag} {elts : List Expr} {x1} {pos : Pos} {a e it : Addr} (h1 : e ≠ it) (h2 : a ≠ e) (h3 : a ≠ it) :
    Turn P w K (.Tuple elts x1 pos) (Ite K a) [e, it] e (fun i h => (∃ old, IsEnum h e it (i : Int) old) ∧ h.IsListIter it a i) where
  mem := by simp
  obj := fun i h st c hc => by
    obtain ⟨⟨old, q1⟩, ⟨o4, q4, _, d4⟩⟩ := st
    simp at hc
    rcases hc with rfl | rfl
    · exact ⟨_, q1, fun v z => by cases z⟩
    · exact ⟨_, q4, fun v z => by rw [d4] at z; cases z⟩
  keep := fun i h h' st k => by
    obtain ⟨⟨old, q1⟩, q4⟩ := st
    exact ⟨⟨old, k e (by simp) _ q1⟩, q4.at fun o z => k it (by simp) o z⟩
  item := by
    intro X hP hw hK hc i pins s σ H E I hf st hg
    subst hP hw hK
    obtain ⟨xs, x, qa, hx⟩ := hg
    obtain ⟨is1, r1, p1, hz1⟩ := I.list qa
    obtain ⟨u, hu, ru⟩ := r1.get hx
    have W := WalksT.enumerate (prog := X.prog) (w := X.w) (I.ok.hd hc) e it a h1 h2 h3 is1.toArray
    have hi : i < is1.toArray.size := by
      have := (List.getElem?_eq_some_iff.mp hu).1
      simpa using this
    refine W.item i s _ E hi ⟨st.1, st.2, p1.isList⟩ fun T vals h' tk Pt hT hTup Mid keep => ⟨_, rfl, W.go elts x1 pos i T _ _ E Mid fun h2' St2 keep2 => ?_⟩
    obtain ⟨t, y, hy, rfl⟩ := Pt
    have hyu : y = u := by
      have : is1[i]? = some y := by simpa using hy
      rw [hu] at this; exact (Option.some.inj this).symm
    subst hyu
    have nT := W.apart i T h' Mid
    have hfr : H T = none := I.hok.fresh hT
    have kk : ∀ b o, b ∉ [e, it] → s.heap.get? b = some o → h2'.get? b = some o := fun b o hb q => keep2 b o hb (keep b o hb q)
    have nTe : ∀ c ∈ [e, it], c ≠ T := fun c hc z => nT (z ▸ hc)
    refine ⟨.ref T, _, Inv.turnedN (s := s) (t' := tk) (o := .tup [.int (i : Int), x]) I kk hf hT ?_, rfl, ⟨T, x, hfr, rfl, rfl, fun xs' q' => ?_⟩, ⟨?_, St2.2.1⟩, fun c hc => ?_⟩
    · obtain ⟨oT, q1, q2, n, q3⟩ := hTup
      exact ⟨by show 2 ≤ sizeLine; decide, [.int (i : Int) t, y], .cons ⟨t, rfl⟩ (.cons ru .nil), ⟨oT, keep2 T oT nT q1, q2, n, q3⟩⟩
    · rw [I.list_inj q' qa]; exact hx
    · obtain ⟨old, q⟩ := St2.1
      exact ⟨old, by rw [show (((i + 1 : Nat)) : Int) = (i : Int) + 1 by omega] at *; exact q⟩
    · rw [upd_ne (nTe c hc)]; exact (hf c hc).1
  done := by
    intro X hP hw hK hc i pins s σ H E I hf st hg
    subst hP hw hK
    obtain ⟨xs, qa, hx⟩ := hg
    obtain ⟨is1, r1, p1, _⟩ := I.list qa
    have W := WalksT.enumerate (prog := X.prog) (w := X.w) (I.ok.hd hc) e it a h1 h2 h3 is1.toArray
    have hi : i = is1.toArray.size := by
      have := r1.length
      simp; omega
    refine W.done s _ E ?_ fun h' tk keep => ⟨rfl, I.turnedL (t' := tk) (fp := [e, it]) (fun c o hc q => keep c o hc q) hf⟩
    rw [← hi]
    exact ⟨st.1, st.2, p1.isList⟩
  self := fun A i s Q E st h => by
    obtain ⟨⟨old, q⟩, _⟩ := st
    exact wpAny_pyIter_enum q h
def iEnum (K : Frag) (ta : TA) : TI := fun σ H R => ta σ H fun vs H1 => ∃ a xs, vs = [.ref a] ∧ SqL K H1 a xs ∧ R (Ite K a) H1
theorem boot_enum' : bootBuiltins "enumerate" = some (.type "enumerate") := by decide +kernel
theorem pi_enum {K : Frag} {elts : List Expr} {x1} {tp : Pos} {e1 : Expr} {ta : TA} {p pos : Pos} (hK : X.K = K) (hg : Gl X "enumerate") (hm : X.mg "enumerate" = none) (ha : PA X [e1] ta) (hs : starEach [e1] X.env = [(false, eval e1 X.env)] := by rfl) :
    PI X (.Tuple elts x1 tp) (.Call (.Name "enumerate" p) [e1] [] pos) (iEnum K ta) := by
  subst hK
  intro pins s σ H R I h
  refine wpAny_Call_Name_kw (ld_blt I hg hm boot_enum' ?_)
  refine PyProof.Rows.callWith_type1 (thn (ha pos pins s σ H _ I h) fun us s1 ⟨vs, H1, I1, r1, a, xs, e1, qa, q⟩ => ?_) hs rfl
  subst e1
  obtain ⟨u, rfl, ru⟩ := r1.one
  cases (show u = Value.ref a from ru)
  obtain ⟨is1, rr1, p1, _⟩ := I1.list qa
  refine call_enumerate_list p1.isList fun h' c1 c2 c3 c4 => ?_
  have l1 : a < s1.heap.objs.size := by obtain ⟨o, e, _⟩ := p1.isList; exact Heap.lt_size e
  have sm : ∀ b, s1.heap.objs.size ≤ b → FpOk X pins H1 b := fun b hb => I1.fpOk hb (I1.hok.fresh hb)
  have n1 : s1.heap.objs.size + 1 ≠ s1.heap.objs.size := by show ¬ ((_ : Nat) = _); omega
  have n2 : a ≠ s1.heap.objs.size + 1 := Nat.ne_of_lt (Nat.lt_succ_of_lt l1)
  have n3 : a ≠ s1.heap.objs.size := Nat.ne_of_lt l1
  have T := turn_enum (P := X.prog) (w := X.w) (K := X.K) (elts := elts) (x1 := x1) (pos := tp) n1 n2 n3
  refine T.self _ 0 _ _ _ ⟨⟨_, c1⟩, c2⟩ ?_
  refine ⟨_, [s1.heap.objs.size + 1, s1.heap.objs.size], _, _, H1, rfl, I1.kept (t' := s1.toks) c4, T, ⟨⟨_, c1⟩, c2⟩, fun c hc => ?_, q⟩
  simp at hc
  rcases hc with rfl | rfl <;> exact sm _ (by omega)
end
end L2


set_option Elab.async false
set_option linter.all false
set_option maxRecDepth 100000
set_option maxHeartbeats 1000000
namespace L2
open PySem PySem.Spec PyProof.Rows PySem.W

theorem max_loopD {prog : Program} {w : World} {A : Around} {R : Result → Shared → Prop} {I : Addr} {fp wr : List Addr} {n : Nat} {P : Nat → Value → Prop} {St : Nat → Heap → Prop} (W : Walks prog w A.in1 I fp wr n P St) (bt : Nat → Nat → Bool) (hc : CmpOf prog w A.in1 .Gt P bt)
    (S : Addr) (hS : S ∉ fp) (dk : Str) (d : Value) (h0 : Heap) (s0 : Shared)
    (hR0 : n = 0 → ∀ h' tk, (∀ b o, b ∉ wr → b ≠ S → h0.get? b = some o → h'.get? b = some o) → R (.ok (.ret d)) { s0 with heap := h', toks := tk })
    (hR : 0 < n → ∀ v h' tk, P (argBest bt (n - 1)) v → (∀ b o, b ∉ wr → b ≠ S → h0.get? b = some o → h'.get? b = some o) → R (.ok (.ret v)) { s0 with heap := h', toks := tk }) :
    ∀ (k j : Nat) (h : Heap) (tk : Nat), n - j = k → j ≤ n → St j h → (∀ b o, b ∉ wr → b ≠ S → h0.get? b = some o → h.get? b = some o) →
      ((j = 0 ∧ ∃ c, h.get? S = some { cls := .type "list", data := .seq #[] c }) ∨ (0 < j ∧ ∃ vb c, P (argBest bt (j - 1)) vb ∧ h.get? S = some { cls := .type "list", data := .seq #[vb, vb] c })) →
      codeAny (model prog w) A (.builtin "max.loop" { pos := [.ref I, .none, .ref S], kw := [(dk, d)] }) R { s0 with heap := h, toks := tk } := by
  intro k
  induction k with
  | zero =>
    intro j h tk hk hj hst keep hb
    refine codeAny_builtin F.entry_max_loop ?_
    have hjn : j = n := by omega
    subst hjn
    rcases hb with ⟨hj0, c, hb⟩ | ⟨hj0, vb, c, hvb, hb⟩
    · show wpAny _ _ (_ >>= _) _ _ _
      refine wpAny_bind (wpAny_seqItems hb rfl ?_)
      refine wpAny_bind (wpAny_tryCatch (W.done _ _ _ hst fun h' tk' kp => ?_))
      refine wpAny_bind (wpAny_rule (wpAny_pure ?_))
      exact hR0 hj0 h' tk' fun b o hb1 hb2 e => kp b o hb1 (keep b o hb1 hb2 e)
    · show wpAny _ _ (_ >>= _) _ _ _
      refine wpAny_bind (wpAny_seqItems hb rfl ?_)
      refine wpAny_bind (wpAny_tryCatch (W.done _ _ _ hst fun h' tk' kp => ?_))
      have hS' : S ∉ wr := fun z => hS (W.sub S z)
      have hb' := kp S _ hS' hb
      refine wpAny_bind (wpAny_updateSeq hb' rfl ?_ (show 2 ≤ sizeLine by decide) (Nat.zero_le _))
      refine wpAny_bind (wpAny_letGo (wpAny_pure ?_))
      refine hR hj0 vb _ tk' hvb fun b o hb1 hb2 e => ?_
      exact (Heap.get?_update_other _ _ (Ne.symm hb2)).trans (kp b o hb1 (keep b o hb1 hb2 e))
  | succ k ih =>
    intro j h tk hk hj hst keep hb
    refine codeAny_builtin F.entry_max_loop ?_
    have hjn : j < n := by omega
    have hS' : S ∉ wr := fun z => hS (W.sub S z)
    rcases hb with ⟨hj0, c, hb⟩ | ⟨hj0, vb, c, hvb, hb⟩
    · show wpAny _ _ (_ >>= _) _ _ _
      refine wpAny_bind (wpAny_seqItems hb rfl ?_)
      refine wpAny_bind (wpAny_tryCatch (W.item j _ _ _ hjn hst fun v h' tk' hv hst' kp => ?_))
      have hb' := kp S _ hS' hb
      refine wpAny_bind (wpAny_pure ?_)
      refine wpAny_bind (wpAny_updateSeq hb' rfl ?_ (Nat.zero_le _) (show 2 ≤ sizeLine + 1 by decide))
      refine wpAny_pure ⟨rfl, ?_⟩
      have e9 := PySem.IsL.update hb' (fun _ => #[v, v])
      refine ih (j + 1) _ tk' (by omega) (by omega) (W.frame _ _ _ hst' fun b hb1 o e => ?_) (fun b o hb1 hb2 e => ?_) (.inr ⟨by omega, v, _, ?_, e9⟩)
      · exact (Heap.get?_update_other _ _ (show S ≠ b from fun z => hS (by rw [z]; exact hb1))).trans e
      · exact (Heap.get?_update_other _ _ (Ne.symm hb2)).trans (kp b o hb1 (keep b o hb1 hb2 e))
      · rw [hj0]; rw [hj0] at hv; exact hv
    · show wpAny _ _ (_ >>= _) _ _ _
      refine wpAny_bind (wpAny_seqItems hb rfl ?_)
      refine wpAny_bind (wpAny_tryCatch (W.item j _ _ _ hjn hst fun v h' tk' hv hst' kp => ?_))
      have hb' := kp S _ hS' hb
      obtain ⟨j', rfl⟩ : ∃ j', j = j' + 1 := ⟨j - 1, by omega⟩
      have hvb' : P (argBest bt j') vb := hvb
      have eA : argBest bt (j' + 1) = if bt (j' + 1) (argBest bt j') = true then j' + 1 else argBest bt j' := rfl
      refine wpAny_bind (wpAny_pure ?_)
      refine wpAny_bind (wpAny_tryCatch (wpAny_holding (wpAny_bind (hc (j' + 1) (argBest bt j') v vb _ _ _ hv hvb' (wpAny_bind (wpAny_holding (wpAny_truthy_bool (wpAny_bind (wpAny_letGo (wpAny_pure ?_))))))))))
      by_cases z : bt (j' + 1) (argBest bt j') = true
      · rw [if_pos z]
        refine wpAny_bind (wpAny_updateSeq hb' rfl ?_ (show 2 ≤ sizeLine by decide) (show 2 ≤ sizeLine + 1 by decide))
        refine wpAny_bind (wpAny_letGo (wpAny_pure ⟨rfl, ?_⟩))
        have e9 := PySem.IsL.update hb' (fun _ => #[v, v])
        refine ih (j' + 1 + 1) _ tk' (by omega) (by omega) (W.frame _ _ _ hst' fun b hb1 o e => ?_) (fun b o hb1 hb2 e => ?_) (.inr ⟨by omega, v, _, ?_, e9⟩)
        · exact (Heap.get?_update_other _ _ (show S ≠ b from fun z => hS (by rw [z]; exact hb1))).trans e
        · exact (Heap.get?_update_other _ _ (Ne.symm hb2)).trans (kp b o hb1 (keep b o hb1 hb2 e))
        · show P (argBest bt (j' + 1)) v
          rw [eA, if_pos z]; exact hv
      · rw [if_neg z]
        refine wpAny_bind (wpAny_letGo (wpAny_pure ⟨rfl, ?_⟩))
        refine ih (j' + 1 + 1) _ tk' (by omega) (by omega) hst' (fun b o hb1 hb2 e => kp b o hb1 (keep b o hb1 hb2 e)) (.inr ⟨by omega, vb, _, ?_, hb'⟩)
        show P (argBest bt (j' + 1)) vb
        rw [eA, if_neg z]; exact hvb'
theorem args_maxD (a d : Value) : argsOk "max" { pos := [a], kw := [("default", d)] } := by first | rfl | decide
theorem call_maxD {prog : Program} {w : World} {A : Around} {E Q : Value → Shared → Prop} {s : Shared} {l : Addr} {xs : Array (Int × Tok)} {d : Value} (hA : A.handled = none) (hl : s.heap.IsList l (intItems xs))
    (q0 : xs.size = 0 → ∀ h' tk, (∀ b o, s.heap.get? b = some o → h'.get? b = some o) → Q d { s with heap := h', toks := tk })
    (q1 : 0 < xs.size → ∀ v h' tk, (intItems xs)[argBest (fun i j => decide (numAt xs i > numAt xs j)) (xs.size - 1)]? = some v → (∀ b o, s.heap.get? b = some o → h'.get? b = some o) → Q v { s with heap := h', toks := tk }) :
    wpAny (model prog w) A (call (.builtin "max") [.ref l] [("default", d)]) Q E s := by
  refine wpAny_call (codeAny_call_builtin_code rfl ?_)
  have hck : checkBuiltinCall "max" { pos := [.ref l], kw := [("default", d)] } = pure () := by
    unfold checkBuiltinCall
    rw [F.kind_max]
    exact args_maxD (.ref l) d
  rw [hck]
  refine wpAny_pure (codeAny_builtin F.entry_max ?_)
  show wpAny _ _ (_ >>= _) _ _ _
  have hbp : Builtin.Builtins.bindParams "max" ["key", "default"] 0 { kw := [("default", d)] } = pure [none, some d] := by
    first | rfl | with_unfolding_all rfl | (simp [Builtin.Builtins.bindParams]; done)
  refine wpAny_bind (wpAny_of_eq hbp (wpAny_bind (wpAny_pure (wpAny_bind (wpAny_pyIter_list hl ?_)))))
  refine wpAny_bind (wpAny_newObj_type ?_)
  refine wpAny_pure ⟨rfl, ?_⟩
  have hlt : l < s.heap.objs.size := by obtain ⟨o, e, _⟩ := hl; exact Heap.lt_size e
  have n1 : l ≠ s.heap.objs.size := Nat.ne_of_lt hlt
  have esz : (s.heap.push { cls := .type "list_iterator", data := .fields #[.ref l, .int 0 0] }).objs.size = s.heap.objs.size + 1 := Heap.size_push _ _
  have old : ∀ b o, s.heap.get? b = some o → ((s.heap.push { cls := .type "list_iterator", data := .fields #[.ref l, .int 0 0] }).push { cls := .type "list", data := .seq #[] }).get? b = some o := fun b o e => Heap.get?_push_of_some _ (Heap.get?_push_of_some _ e)
  have ne : ∀ b o, s.heap.get? b = some o → b ∉ [s.heap.objs.size] ∧ b ≠ (s.heap.push { cls := .type "list_iterator", data := .fields #[.ref l, .int 0 0] }).objs.size := fun b o e => by
    have := Heap.lt_size e
    refine ⟨fun z => ?_, fun z => ?_⟩
    · have : b = s.heap.objs.size := by simpa using z
      exact absurd (Heap.lt_size e) (by rw [this]; exact Nat.lt_irrefl _)
    · rw [z, esz] at this
      exact absurd this (Nat.not_lt_of_le (Nat.le_succ _))
  have W := Walks.list (prog := prog) (w := w) (A := A.in1) hA s.heap.objs.size l n1 (intItems xs)
  have hitm : (intItems xs).size = xs.size := by simp [intItems]
  refine max_loopD W (fun i j => decide (numAt xs i > numAt xs j)) (CmpOf.ints_gt (numAt xs) fun i v h => intItems_at h) _ ?_ "default" d _ s (fun z h' tk kp => ?_) (fun z v h' tk hv kp => ?_) (intItems xs).size 0 _ _ rfl (Nat.zero_le _) ⟨?_, ?_⟩ (fun b o _ _ e => e) (.inl ⟨rfl, _, Heap.get?_push_size _ rfl⟩)
  · rw [esz]
    simp only [List.mem_cons, List.not_mem_nil, or_false, not_or]
    exact ⟨Nat.ne_of_gt (Nat.lt_succ_self _), Nat.ne_of_gt (Nat.lt_succ_of_lt hlt)⟩
  · exact q0 (by omega) h' tk fun b o e => kp b o (ne b o e).1 (ne b o e).2 (old b o e)
  · exact q1 (by omega) v h' tk (by rw [← hitm]; exact hv) fun b o e => kp b o (ne b o e).1 (ne b o e).2 (old b o e)
  · exact ⟨_, Heap.get?_push_of_some _ (Heap.get?_push_size _ rfl), rfl, rfl⟩
  · obtain ⟨o, e, r⟩ := hl
    exact ⟨o, old _ _ e, r⟩
theorem min_loopD {prog : Program} {w : World} {A : Around} {R : Result → Shared → Prop} {I : Addr} {fp wr : List Addr} {n : Nat} {P : Nat → Value → Prop} {St : Nat → Heap → Prop} (W : Walks prog w A.in1 I fp wr n P St) (bt : Nat → Nat → Bool) (hc : CmpOf prog w A.in1 .Lt P bt)
    (S : Addr) (hS : S ∉ fp) (dk : Str) (d : Value) (h0 : Heap) (s0 : Shared)
    (hR0 : n = 0 → ∀ h' tk, (∀ b o, b ∉ wr → b ≠ S → h0.get? b = some o → h'.get? b = some o) → R (.ok (.ret d)) { s0 with heap := h', toks := tk })
    (hR : 0 < n → ∀ v h' tk, P (argBest bt (n - 1)) v → (∀ b o, b ∉ wr → b ≠ S → h0.get? b = some o → h'.get? b = some o) → R (.ok (.ret v)) { s0 with heap := h', toks := tk }) :
    ∀ (k j : Nat) (h : Heap) (tk : Nat), n - j = k → j ≤ n → St j h → (∀ b o, b ∉ wr → b ≠ S → h0.get? b = some o → h.get? b = some o) →
      ((j = 0 ∧ ∃ c, h.get? S = some { cls := .type "list", data := .seq #[] c }) ∨ (0 < j ∧ ∃ vb c, P (argBest bt (j - 1)) vb ∧ h.get? S = some { cls := .type "list", data := .seq #[vb, vb] c })) →
      codeAny (model prog w) A (.builtin "min.loop" { pos := [.ref I, .none, .ref S], kw := [(dk, d)] }) R { s0 with heap := h, toks := tk } := by
  intro k
  induction k with
  | zero =>
    intro j h tk hk hj hst keep hb
    refine codeAny_builtin F.entry_min_loop ?_
    have hjn : j = n := by omega
    subst hjn
    rcases hb with ⟨hj0, c, hb⟩ | ⟨hj0, vb, c, hvb, hb⟩
    · show wpAny _ _ (_ >>= _) _ _ _
      refine wpAny_bind (wpAny_seqItems hb rfl ?_)
      refine wpAny_bind (wpAny_tryCatch (W.done _ _ _ hst fun h' tk' kp => ?_))
      refine wpAny_bind (wpAny_rule (wpAny_pure ?_))
      exact hR0 hj0 h' tk' fun b o hb1 hb2 e => kp b o hb1 (keep b o hb1 hb2 e)
    · show wpAny _ _ (_ >>= _) _ _ _
      refine wpAny_bind (wpAny_seqItems hb rfl ?_)
      refine wpAny_bind (wpAny_tryCatch (W.done _ _ _ hst fun h' tk' kp => ?_))
      have hS' : S ∉ wr := fun z => hS (W.sub S z)
      have hb' := kp S _ hS' hb
      refine wpAny_bind (wpAny_updateSeq hb' rfl ?_ (show 2 ≤ sizeLine by decide) (Nat.zero_le _))
      refine wpAny_bind (wpAny_letGo (wpAny_pure ?_))
      refine hR hj0 vb _ tk' hvb fun b o hb1 hb2 e => ?_
      exact (Heap.get?_update_other _ _ (Ne.symm hb2)).trans (kp b o hb1 (keep b o hb1 hb2 e))
  | succ k ih =>
    intro j h tk hk hj hst keep hb
    refine codeAny_builtin F.entry_min_loop ?_
    have hjn : j < n := by omega
    have hS' : S ∉ wr := fun z => hS (W.sub S z)
    rcases hb with ⟨hj0, c, hb⟩ | ⟨hj0, vb, c, hvb, hb⟩
    · show wpAny _ _ (_ >>= _) _ _ _
      refine wpAny_bind (wpAny_seqItems hb rfl ?_)
      refine wpAny_bind (wpAny_tryCatch (W.item j _ _ _ hjn hst fun v h' tk' hv hst' kp => ?_))
      have hb' := kp S _ hS' hb
      refine wpAny_bind (wpAny_pure ?_)
      refine wpAny_bind (wpAny_updateSeq hb' rfl ?_ (Nat.zero_le _) (show 2 ≤ sizeLine + 1 by decide))
      refine wpAny_pure ⟨rfl, ?_⟩
      have e9 := PySem.IsL.update hb' (fun _ => #[v, v])
      refine ih (j + 1) _ tk' (by omega) (by omega) (W.frame _ _ _ hst' fun b hb1 o e => ?_) (fun b o hb1 hb2 e => ?_) (.inr ⟨by omega, v, _, ?_, e9⟩)
      · exact (Heap.get?_update_other _ _ (show S ≠ b from fun z => hS (by rw [z]; exact hb1))).trans e
      · exact (Heap.get?_update_other _ _ (Ne.symm hb2)).trans (kp b o hb1 (keep b o hb1 hb2 e))
      · rw [hj0]; rw [hj0] at hv; exact hv
    · show wpAny _ _ (_ >>= _) _ _ _
      refine wpAny_bind (wpAny_seqItems hb rfl ?_)
      refine wpAny_bind (wpAny_tryCatch (W.item j _ _ _ hjn hst fun v h' tk' hv hst' kp => ?_))
      have hb' := kp S _ hS' hb
      obtain ⟨j', rfl⟩ : ∃ j', j = j' + 1 := ⟨j - 1, by omega⟩
      have hvb' : P (argBest bt j') vb := hvb
      have eA : argBest bt (j' + 1) = if bt (j' + 1) (argBest bt j') = true then j' + 1 else argBest bt j' := rfl
      refine wpAny_bind (wpAny_pure ?_)
      refine wpAny_bind (wpAny_tryCatch (wpAny_holding (wpAny_bind (hc (j' + 1) (argBest bt j') v vb _ _ _ hv hvb' (wpAny_bind (wpAny_holding (wpAny_truthy_bool (wpAny_bind (wpAny_letGo (wpAny_pure ?_))))))))))
      by_cases z : bt (j' + 1) (argBest bt j') = true
      · rw [if_pos z]
        refine wpAny_bind (wpAny_updateSeq hb' rfl ?_ (show 2 ≤ sizeLine by decide) (show 2 ≤ sizeLine + 1 by decide))
        refine wpAny_bind (wpAny_letGo (wpAny_pure ⟨rfl, ?_⟩))
        have e9 := PySem.IsL.update hb' (fun _ => #[v, v])
        refine ih (j' + 1 + 1) _ tk' (by omega) (by omega) (W.frame _ _ _ hst' fun b hb1 o e => ?_) (fun b o hb1 hb2 e => ?_) (.inr ⟨by omega, v, _, ?_, e9⟩)
        · exact (Heap.get?_update_other _ _ (show S ≠ b from fun z => hS (by rw [z]; exact hb1))).trans e
        · exact (Heap.get?_update_other _ _ (Ne.symm hb2)).trans (kp b o hb1 (keep b o hb1 hb2 e))
        · show P (argBest bt (j' + 1)) v
          rw [eA, if_pos z]; exact hv
      · rw [if_neg z]
        refine wpAny_bind (wpAny_letGo (wpAny_pure ⟨rfl, ?_⟩))
        refine ih (j' + 1 + 1) _ tk' (by omega) (by omega) hst' (fun b o hb1 hb2 e => kp b o hb1 (keep b o hb1 hb2 e)) (.inr ⟨by omega, vb, _, ?_, hb'⟩)
        show P (argBest bt (j' + 1)) vb
        rw [eA, if_neg z]; exact hvb'
theorem args_minD (a d : Value) : argsOk "min" { pos := [a], kw := [("default", d)] } := by first | rfl | decide
theorem call_minD {prog : Program} {w : World} {A : Around} {E Q : Value → Shared → Prop} {s : Shared} {l : Addr} {xs : Array (Int × Tok)} {d : Value} (hA : A.handled = none) (hl : s.heap.IsList l (intItems xs))
    (q0 : xs.size = 0 → ∀ h' tk, (∀ b o, s.heap.get? b = some o → h'.get? b = some o) → Q d { s with heap := h', toks := tk })
    (q1 : 0 < xs.size → ∀ v h' tk, (intItems xs)[argBest (fun i j => decide (numAt xs i < numAt xs j)) (xs.size - 1)]? = some v → (∀ b o, s.heap.get? b = some o → h'.get? b = some o) → Q v { s with heap := h', toks := tk }) :
    wpAny (model prog w) A (call (.builtin "min") [.ref l] [("default", d)]) Q E s := by
  refine wpAny_call (codeAny_call_builtin_code rfl ?_)
  have hck : checkBuiltinCall "min" { pos := [.ref l], kw := [("default", d)] } = pure () := by
    unfold checkBuiltinCall
    rw [F.kind_min]
    exact args_minD (.ref l) d
  rw [hck]
  refine wpAny_pure (codeAny_builtin F.entry_min ?_)
  show wpAny _ _ (_ >>= _) _ _ _
  have hbp : Builtin.Builtins.bindParams "min" ["key", "default"] 0 { kw := [("default", d)] } = pure [none, some d] := by
    first | rfl | with_unfolding_all rfl | (simp [Builtin.Builtins.bindParams]; done)
  refine wpAny_bind (wpAny_of_eq hbp (wpAny_bind (wpAny_pure (wpAny_bind (wpAny_pyIter_list hl ?_)))))
  refine wpAny_bind (wpAny_newObj_type ?_)
  refine wpAny_pure ⟨rfl, ?_⟩
  have hlt : l < s.heap.objs.size := by obtain ⟨o, e, _⟩ := hl; exact Heap.lt_size e
  have n1 : l ≠ s.heap.objs.size := Nat.ne_of_lt hlt
  have esz : (s.heap.push { cls := .type "list_iterator", data := .fields #[.ref l, .int 0 0] }).objs.size = s.heap.objs.size + 1 := Heap.size_push _ _
  have old : ∀ b o, s.heap.get? b = some o → ((s.heap.push { cls := .type "list_iterator", data := .fields #[.ref l, .int 0 0] }).push { cls := .type "list", data := .seq #[] }).get? b = some o := fun b o e => Heap.get?_push_of_some _ (Heap.get?_push_of_some _ e)
  have ne : ∀ b o, s.heap.get? b = some o → b ∉ [s.heap.objs.size] ∧ b ≠ (s.heap.push { cls := .type "list_iterator", data := .fields #[.ref l, .int 0 0] }).objs.size := fun b o e => by
    have := Heap.lt_size e
    refine ⟨fun z => ?_, fun z => ?_⟩
    · have : b = s.heap.objs.size := by simpa using z
      exact absurd (Heap.lt_size e) (by rw [this]; exact Nat.lt_irrefl _)
    · rw [z, esz] at this
      exact absurd this (Nat.not_lt_of_le (Nat.le_succ _))
  have W := Walks.list (prog := prog) (w := w) (A := A.in1) hA s.heap.objs.size l n1 (intItems xs)
  have hitm : (intItems xs).size = xs.size := by simp [intItems]
  refine min_loopD W (fun i j => decide (numAt xs i < numAt xs j)) (CmpOf.ints_lt (numAt xs) fun i v h => intItems_at h) _ ?_ "default" d _ s (fun z h' tk kp => ?_) (fun z v h' tk hv kp => ?_) (intItems xs).size 0 _ _ rfl (Nat.zero_le _) ⟨?_, ?_⟩ (fun b o _ _ e => e) (.inl ⟨rfl, _, Heap.get?_push_size _ rfl⟩)
  · rw [esz]
    simp only [List.mem_cons, List.not_mem_nil, or_false, not_or]
    exact ⟨Nat.ne_of_gt (Nat.lt_succ_self _), Nat.ne_of_gt (Nat.lt_succ_of_lt hlt)⟩
  · exact q0 (by omega) h' tk fun b o e => kp b o (ne b o e).1 (ne b o e).2 (old b o e)
  · exact q1 (by omega) v h' tk (by rw [← hitm]; exact hv) fun b o e => kp b o (ne b o e).1 (ne b o e).2 (old b o e)
  · exact ⟨_, Heap.get?_push_of_some _ (Heap.get?_push_size _ rfl), rfl, rfl⟩
  · obtain ⟨o, e, r⟩ := hl
    exact ⟨o, old _ _ e, r⟩
section
variable {X : Cx}

def tMaxD (K : Frag) (ta td : TA) : TE := fun σ H Q => ta σ H fun vs H1 => td σ H1 fun zs H2 => ∃ (p : Addr) (ns : List Int) (d : Int), vs = [.ref p] ∧ zs = [.int d] ∧ SqL K H2 p (ns.map V.int) ∧ (ns = [] → Q (.int d) H2) ∧ (ns ≠ [] → ∀ m, m ∈ ns → (∀ a ∈ ns, a ≤ m) → Q (.int m) H2)
theorem pe_maxD {K : Frag} {e : Expr} {kws : List Keyword} {ta td : TA} {p pos : Pos} (hK : X.K = K) (hc : X.calm = true) (hg : Gl X "max") (hm : X.mg "max" = none) (ha : PA X [e] ta) (hd : PK X kws td)
    (he : starEach [e] X.env = (false, eval e X.env) :: starEach [] X.env := by rfl) (hpl : (backTo pos (starEach [e] X.env)).any (·.1) = false := by rfl) (hall : (backToKw pos (keywordEach kws X.env)).all (·.1.isSome) = true := by rfl)
    (hnn : (backToKw pos (keywordEach kws X.env)).any (·.1.isNone) = false := by rfl) (hks : (backToKw pos (keywordEach kws X.env)).filterMap (·.1) = [(("default" : String) : Str)] := by rfl) (hb : backTo pos (starEach [e] X.env) = (false, eval e X.env) :: backTo pos (starEach [] X.env) := by rfl) :
    PE X (.Call (.Name "max" p) [e] kws pos) (tMaxD K ta td) := by
  subst hK
  intro pins s σ H Q I h
  refine wpAny_Call_Name_kw (ld_blt I hg hm bt_max ?_)
  refine PyProof.Rows.callWith_kw (thn (ha pos pins s σ H _ I h) fun us s1 ⟨vs, H1, I1, r1, q1⟩ => ?_) hb hpl hall hnn
  refine thn (hd pos pins s1 σ H1 _ I1 q1) fun ws s2 ⟨zs, H2, I2, r2, pp, ns, d, e1, e2, hp, q0, qm⟩ => ?_
  subst e1 e2
  obtain ⟨u, rfl, ru⟩ := r1.one
  obtain ⟨v, rfl, rv⟩ := r2.one
  cases (show u = Value.ref pp from ru)
  rw [hks]
  obtain ⟨its, rr, pl, hz⟩ := I2.list hp
  obtain ⟨ys, e1, e2⟩ := ints_of rr
  have hsz : ys.size = ns.length := by
    have := congrArg List.length e2
    rw [List.length_map, Array.length_toList] at this
    exact this
  refine call_maxD (xs := ys) (I2.ok.hd hc) (e1 ▸ pl.isList) (fun z h' tk k => ?_) (fun z v' h' tk hv k => ?_)
  · exact ⟨.int d, H2, I2.kept k, rv, q0 (List.length_eq_zero_iff.mp (by omega))⟩
  · obtain ⟨t, rfl⟩ := intItems_at hv
    obtain ⟨h1, h2⟩ := argBest_gt (numAt ys) (ys.size - 1)
    refine ⟨.int _, H2, I2.kept k, ⟨t, rfl⟩, qm (fun y => by have h3 : ys.size = 0 := (by rw [hsz, y]; rfl); omega) _ ?_ fun a ha => ?_⟩
    · rw [numAt_eq, e2]; exact getD_mem (by omega)
    · obtain ⟨j, hj, rfl⟩ := mem_getD ha
      rw [← e2, ← numAt_eq]; exact h2 j (by omega)
end
section
variable {X : Cx}

def tMinD (K : Frag) (ta td : TA) : TE := fun σ H Q => ta σ H fun vs H1 => td σ H1 fun zs H2 => ∃ (p : Addr) (ns : List Int) (d : Int), vs = [.ref p] ∧ zs = [.int d] ∧ SqL K H2 p (ns.map V.int) ∧ (ns = [] → Q (.int d) H2) ∧ (ns ≠ [] → ∀ m, m ∈ ns → (∀ a ∈ ns, m ≤ a) → Q (.int m) H2)
theorem pe_minD {K : Frag} {e : Expr} {kws : List Keyword} {ta td : TA} {p pos : Pos} (hK : X.K = K) (hc : X.calm = true) (hg : Gl X "min") (hm : X.mg "min" = none) (ha : PA X [e] ta) (hd : PK X kws td)
    (he : starEach [e] X.env = (false, eval e X.env) :: starEach [] X.env := by rfl) (hpl : (backTo pos (starEach [e] X.env)).any (·.1) = false := by rfl) (hall : (backToKw pos (keywordEach kws X.env)).all (·.1.isSome) = true := by rfl)
    (hnn : (backToKw pos (keywordEach kws X.env)).any (·.1.isNone) = false := by rfl) (hks : (backToKw pos (keywordEach kws X.env)).filterMap (·.1) = [(("default" : String) : Str)] := by rfl) (hb : backTo pos (starEach [e] X.env) = (false, eval e X.env) :: backTo pos (starEach [] X.env) := by rfl) :
    PE X (.Call (.Name "min" p) [e] kws pos) (tMinD K ta td) := by
  subst hK
  intro pins s σ H Q I h
  refine wpAny_Call_Name_kw (ld_blt I hg hm bt_min ?_)
  refine PyProof.Rows.callWith_kw (thn (ha pos pins s σ H _ I h) fun us s1 ⟨vs, H1, I1, r1, q1⟩ => ?_) hb hpl hall hnn
  refine thn (hd pos pins s1 σ H1 _ I1 q1) fun ws s2 ⟨zs, H2, I2, r2, pp, ns, d, e1, e2, hp, q0, qm⟩ => ?_
  subst e1 e2
  obtain ⟨u, rfl, ru⟩ := r1.one
  obtain ⟨v, rfl, rv⟩ := r2.one
  cases (show u = Value.ref pp from ru)
  rw [hks]
  obtain ⟨its, rr, pl, hz⟩ := I2.list hp
  obtain ⟨ys, e1, e2⟩ := ints_of rr
  have hsz : ys.size = ns.length := by
    have := congrArg List.length e2
    rw [List.length_map, Array.length_toList] at this
    exact this
  refine call_minD (xs := ys) (I2.ok.hd hc) (e1 ▸ pl.isList) (fun z h' tk k => ?_) (fun z v' h' tk hv k => ?_)
  · exact ⟨.int d, H2, I2.kept k, rv, q0 (List.length_eq_zero_iff.mp (by omega))⟩
  · obtain ⟨t, rfl⟩ := intItems_at hv
    obtain ⟨h1, h2⟩ := argBest_lt (numAt ys) (ys.size - 1)
    refine ⟨.int _, H2, I2.kept k, ⟨t, rfl⟩, qm (fun y => by have h3 : ys.size = 0 := (by rw [hsz, y]; rfl); omega) _ ?_ fun a ha => ?_⟩
    · rw [numAt_eq, e2]; exact getD_mem (by omega)
    · obtain ⟨j, hj, rfl⟩ := mem_getD ha
      rw [← e2, ← numAt_eq]; exact h2 j (by omega)
end
end L2


set_option Elab.async false
set_option linter.all false
set_option maxRecDepth 100000
set_option maxHeartbeats 1000000
namespace L2
open PySem PySem.Spec PyProof.Rows PySem.W
section
variable {X : Cx}

def rIndexF (K : Frag) : V → List V → Hp → VK → Prop := fun x vs H Q => ∃ (l : Addr) (xs : List V) (y : V) (j : Nat), x = .ref l ∧ vs = [y] ∧ SqL K H l xs ∧ xs.length ≤ 100000 ∧ xs.all flatV = true ∧ flatV y = true ∧ (∃ z, xs[j]? = some z ∧ eqV z y = true) ∧ (∀ (i : Nat) (z : V), i < j → xs[i]? = some z → eqV z y = false) ∧ Q (.int (j : Nat)) H
end
end L2


set_option Elab.async false
set_option linter.all false
set_option maxRecDepth 100000
set_option maxHeartbeats 1000000
namespace L2
open PySem PySem.Spec PyProof.Rows PySem.W

def LowsEq (f g : Nat → Int) (n : Nat) : Prop := ∀ a c, a + c < n → lowF f a c = lowF g a c
theorem LowsEq.symm {f g : Nat → Int} {n : Nat} (h : LowsEq f g n) : LowsEq g f n := fun a c k => (h a c k).symm
theorem LowsEq.over {f g : Nat → Int} {n o p : Nat} (h : LowsEq f g n) (ho : o < n) (hp : p < n) (k : Over f o p) : Over g o p := by
  rcases k with ⟨z, k⟩ | ⟨z, k⟩
  · have i1 : IsLow f o (o + (p - o)) o := ⟨Nat.le_refl _, by omega, fun q q1 q2 => by omega, fun q q1 q2 => k q q1 (by omega)⟩
    have e := h o (p - o) (by omega)
    rw [(lowF_is f o (p - o)).unique i1] at e
    have i2 := lowF_is g o (p - o)
    rw [← e] at i2
    exact .inl ⟨z, fun r r1 r2 => i2.2.2.2 r r1 (by omega)⟩
  · have i1 : IsLow f p (p + (o - p)) o := ⟨by omega, by omega, fun q q1 q2 => k q q1 q2, fun q q1 q2 => by omega⟩
    have e := h p (o - p) (by omega)
    rw [(lowF_is f p (o - p)).unique i1] at e
    have i2 := lowF_is g p (o - p)
    rw [← e] at i2
    exact .inr ⟨z, fun r r1 r2 => i2.2.2.1 r r1 (by omega)⟩
theorem LowsEq.tree {ns ms T : List Int} (hT : TreeIs ns T) (hl : ms.length = ns.length) (h : LowsEq (nth ns) (nth ms) ns.length) : TreeIs ms T := by
  refine ⟨by rw [hl]; exact hT.1, fun p hp => ?_⟩
  rw [hl] at hp ⊢
  refine tree_row hT (fun q p hq hp hO => ?_) p hp
  rcases h.over hq hp hO with ⟨z, k⟩ | ⟨z, k⟩
  · exact ⟨fun _ => k p z (Nat.le_refl _), fun y => by omega⟩
  · exact ⟨fun y => by omega, fun _ => k p (Nat.le_refl _) z⟩
theorem trees_over {ns ms T : List Int} (h1 : TreeIs ns T) (h2 : TreeIs ms T) {o p : Nat} (ho : o < ns.length) (hp : p < ns.length) (k : Over (nth ns) o p) : Over (nth ms) o p := by
  have hl : ms.length = ns.length := h2.1.symm.trans h1.1
  exact ((way_over h2 (by omega)).mp ((way_over h1 hp).mpr ⟨ho, k⟩)).2
theorem trees_lows {ns ms T : List Int} (h1 : TreeIs ns T) (h2 : TreeIs ms T) : LowsEq (nth ns) (nth ms) ns.length := by
  intro a c hac
  have hl := lowF_is (nth ns) a c
  have hlt := lowF_lt (nth ns) a c
  refine IsLow.unique (f := nth ms) (a := a) (b := a + c) ⟨hl.1, hl.2.1, fun q q1 q2 => ?_, fun q q1 q2 => ?_⟩ (lowF_is (nth ms) a c)
  · have := trees_over h1 h2 (by omega) (by omega) (hl.over (p := q) (by omega) (by omega) (by omega))
    rcases this with ⟨z, k⟩ | ⟨z, k⟩
    · omega
    · exact k q (Nat.le_refl _) q2
  · have := trees_over h1 h2 (by omega) (by omega) (hl.over (p := q) (by omega) (by omega) (by omega))
    rcases this with ⟨z, k⟩ | ⟨z, k⟩
    · exact k q q1 (Nat.le_refl _)
    · omega
theorem kin_iff {ns ms S T : List Int} (h1 : TreeIs ns S) (h2 : TreeIs ms T) : (ns.length = ms.length ∧ LowsEq (nth ns) (nth ms) ns.length) ↔ (ns.length = ms.length ∧ S = T) := by
  refine ⟨fun h => ⟨h.1, ?_⟩, fun h => ⟨h.1, ?_⟩⟩
  · exact (LowsEq.tree h1 h.1.symm h.2).unique h2
  · rw [h.2] at h1; exact trees_lows h1 h2

def cutN (ns : List Int) (a c : Nat) : List Int := (ns.drop a).take c
theorem cutN_len {ns : List Int} {a c : Nat} (h : a + c ≤ ns.length) : (cutN ns a c).length = c := by
  unfold cutN; rw [List.length_take, List.length_drop]; omega
theorem cutN_nth {ns : List Int} {a c i : Nat} (h : i < c) : nth (cutN ns a c) i = nth ns (a + i) := by
  simp [nth, cutN, List.getD_eq_getElem?_getD, List.getElem?_take, List.getElem?_drop, h]
theorem LowsEq.mono {f g : Nat → Int} {n m : Nat} (h : LowsEq f g n) (k : m ≤ n) : LowsEq f g m := fun a c z => h a c (by omega)

def PartAt (f g : Nat → Int) (x y size a m : Nat) : Prop := a + m < size ∧ (lowF f (x + a) m : Int) - (x + a : Nat) ≠ (lowF g (y + a) m : Int) - (y + a : Nat) ∧ (∀ m', m' < m → ∀ a', a' + m' < size → (lowF f (x + a') m' : Int) - (x + a' : Nat) = (lowF g (y + a') m' : Int) - (y + a' : Nat)) ∧
  ∀ a', a' < a → (lowF f (x + a') m : Int) - (x + a' : Nat) = (lowF g (y + a') m : Int) - (y + a' : Nat)
theorem first_not {P : Nat → Prop} : ∀ n, ¬ (∀ j, j < n → P j) → ∃ j, j < n ∧ ¬ P j ∧ ∀ i, i < j → P i
  | 0, h => absurd (fun j hj => by omega) h
  | n + 1, h => by
    by_cases z : ∀ j, j < n → P j
    · exact ⟨n, by omega, fun y => h fun j hj => by
        by_cases e : j = n
        · rw [e]; exact y
        · exact z j (by omega), z⟩
    · obtain ⟨j, h1, h2, h3⟩ := first_not n z
      exact ⟨j, by omega, h2, h3⟩
theorem ifR {c : TT} {t u : TS} {D : Ends} {σ : St} {H : Hp} (T U : Hp → Prop) (ht : ∀ H1, T H1 → t D σ H1) (hu : ∀ H1, U H1 → u D σ H1) (hc : ∀ B : Bool → Hp → Prop, (∀ H1, T H1 → B true H1) → (∀ H1, U H1 → B false H1) → c σ H B) : tIfS c t u D σ H :=
  hc _ (fun H1 h => by rw [if_pos rfl]; exact ht H1 h) (fun H1 h => by rw [if_neg (by simp)]; exact hu H1 h)
end L2


set_option Elab.async false
set_option linter.all false
set_option maxRecDepth 100000
set_option maxHeartbeats 1000000
namespace L2
open PySem PySem.Spec PyProof.Rows PySem.W
section
variable {X : Cx}

def rSorted (K : Frag) : List V → Hp → VK → Prop := fun xs H Q => ∃ (p : Addr) (ns : List Int), xs = [.ref p] ∧ SqL K H p (ns.map V.int) ∧ ns.length < 64 ∧ ∀ (ns' : List Int) (l : Addr), ns'.Perm ns → ns'.Pairwise (· ≤ ·) → H l = none → Q (.ref l) (upd H l (.lst (ns'.map V.int)))
def rOr (r1 r2 : R2) : R2 := fun x y H Q => r1 x y H Q ∨ r2 x y H Q
end

theorem partAt_zero {f g : Nat → Int} {n a m : Nat} (h1 : a + m < n) (h2 : lowF f a m ≠ lowF g a m) (h3 : ∀ m', m' < m → ∀ a', a' + m' < n → lowF f a' m' = lowF g a' m') (h4 : ∀ a', a' < a → lowF f a' m = lowF g a' m) : PartAt f g 0 0 n a m := by
  refine ⟨h1, ?_, fun m' hm' a' ha' => ?_, fun a' ha' => ?_⟩
  · rw [Nat.zero_add]; omega
  · rw [Nat.zero_add, h3 m' hm' a' ha']
  · rw [Nat.zero_add, h4 a' ha']
theorem PartAt.low {f g : Nat → Int} {n a m : Nat} (h : PartAt f g 0 0 n a m) : a + m < n ∧ lowF f a m ≠ lowF g a m ∧ (∀ m', m' < m → ∀ a', a' + m' < n → lowF f a' m' = lowF g a' m') ∧ ∀ a', a' < a → lowF f a' m = lowF g a' m := by
  obtain ⟨h1, h2, h3, h4⟩ := h
  refine ⟨h1, fun e => h2 (by rw [Nat.zero_add, e]), fun m' hm' a' ha' => ?_, fun a' ha' => ?_⟩
  · have := h3 m' hm' a' ha'; rw [Nat.zero_add] at this; omega
  · have := h4 a' ha'; rw [Nat.zero_add] at this; omega
theorem PartAt.symm {f g : Nat → Int} {n a m : Nat} (h : PartAt f g 0 0 n a m) : PartAt g f 0 0 n a m := by
  obtain ⟨h1, h2, h3, h4⟩ := h.low
  exact partAt_zero h1 h2.symm (fun m' hm' a' ha' => (h3 m' hm' a' ha').symm) (fun a' ha' => (h4 a' ha').symm)
theorem PartAt.unique {f g : Nat → Int} {n a m a' m' : Nat} (h : PartAt f g 0 0 n a m) (k : PartAt f g 0 0 n a' m') : a = a' ∧ m = m' := by
  obtain ⟨h1, h2, h3, h4⟩ := h.low
  obtain ⟨k1, k2, k3, k4⟩ := k.low
  have hm : m = m' := by
    rcases Nat.lt_trichotomy m m' with z | z | z
    · exact absurd (k3 m z a h1) h2
    · exact z
    · exact absurd (h3 m' z a' k1) k2
  subst hm
  refine ⟨?_, rfl⟩
  rcases Nat.lt_trichotomy a a' with z | z | z
  · exact absurd (k4 a z) h2
  · exact z
  · exact absurd (h4 a' z) k2
end L2


set_option Elab.async false
set_option linter.all false
set_option maxRecDepth 100000
set_option maxHeartbeats 1000000
namespace L2
open PySem PySem.Spec PyProof.Rows PySem.W
section
variable {prog : Program} {w : World} {A : Around} {E Q : Value → Shared → Prop} {s : Shared} {it t : Addr} {i : Nat} {items : Array Value}
end
section
variable {X : Cx} {pins : List (Addr × Obj)} {σ : St} {H : Hp} {s : Shared} {h' : Heap}

def IteT (K : Frag) (a : Addr) : It :=
  ⟨fun i H => ∃ xs x, SqT K H a xs ∧ xs[i]? = some x,
   fun i H v H' => ∃ p x, H p = none ∧ v = .ref p ∧ H' = upd H p (.tup [.int (i : Int), x]) ∧ ∀ xs, SqT K H a xs → xs[i]? = some x,
   fun i H => ∃ xs, SqT K H a xs ∧ xs.length = i⟩
def iEnumT (K : Frag) (ta : TA) : TI := fun σ H R => ta σ H fun vs H1 => ∃ a xs, vs = [.ref a] ∧ SqT K H1 a xs ∧ R (IteT K a) H1
end
end L2


set_option Elab.async false
set_option linter.all false
set_option maxRecDepth 100000
set_option maxHeartbeats 1000000
namespace L2
open PySem PySem.Spec PyProof.Rows PySem.W

open Classical in
noncomputable def fenA (f : Nat → Int) (p : Nat) : Int := if h : ∃ q, IsPrev f p q then (Classical.choose h : Nat) else -1
open Classical in
noncomputable def fenB (f : Nat → Int) (n p : Nat) : Int := if h : ∃ r, IsNext f n p r then (Classical.choose h : Nat) else (n : Int)
theorem fenA_prev {f : Nat → Int} {p q : Nat} (h : IsPrev f p q) : fenA f p = q := by
  have hx : ∃ q, IsPrev f p q := ⟨q, h⟩
  unfold fenA
  rw [dif_pos hx, (Classical.choose_spec hx).unique h]
theorem fenA_no {f : Nat → Int} {p : Nat} (h : NoPrev f p) : fenA f p = -1 := by
  unfold fenA
  rw [dif_neg fun ⟨q, hq⟩ => hq.no h]
theorem fenB_next {f : Nat → Int} {n p r : Nat} (h : IsNext f n p r) : fenB f n p = r := by
  have hx : ∃ r, IsNext f n p r := ⟨r, h⟩
  unfold fenB
  rw [dif_pos hx, (Classical.choose_spec hx).unique h]
theorem fenB_no {f : Nat → Int} {n p : Nat} (h : NoNext f n p) : fenB f n p = n := by
  unfold fenB
  rw [dif_neg fun ⟨q, hq⟩ => hq.no h]
theorem fences_sides {f : Nat → Int} {n p : Nat} {e : Int} (h : ElderIs f n p e) : (NoPrev f p ∨ ∃ q, IsPrev f p q) ∧ (NoNext f n p ∨ ∃ r, IsNext f n p r) := by
  rcases h with ⟨h1, h2, _⟩ | ⟨q, h1, h2, _⟩ | ⟨r, h1, h2, _⟩ | ⟨q, r, h1, h2, _⟩
  · exact ⟨.inl h1, .inl h2⟩
  · exact ⟨.inr ⟨q, h1⟩, .inl h2⟩
  · exact ⟨.inl h1, .inr ⟨r, h2⟩⟩
  · exact ⟨.inr ⟨q, h1⟩, .inr ⟨r, h2⟩⟩
theorem IsPrev.over {f : Nat → Int} {p q : Nat} (h : IsPrev f p q) : Over f q p := .inl ⟨h.1, fun r r1 r2 => by
  by_cases z : r = p
  · rw [z]; exact h.2.1
  · have := h.2.2 r r1 (by omega); have := h.2.1; omega⟩
theorem IsNext.over {f : Nat → Int} {n p q : Nat} (h : IsNext f n p q) : Over f q p := .inr ⟨h.1, fun r r1 r2 => by
  by_cases z : r = p
  · rw [z]; exact h.2.2.1
  · have := h.2.2.2 r (by omega) r2; have := h.2.2.1; omega⟩

theorem fenA_max {ns T : List Int} (hT : TreeIs ns T) {p : Nat} (hp : p < ns.length) : let L := (wayI T p).filter fun o => decide (o < (p : Int))
    (L = [] → fenA (nth ns) p = -1) ∧ (L ≠ [] → ∀ m, m ∈ L → (∀ a ∈ L, a ≤ m) → m = fenA (nth ns) p) := by
  intro L
  have hL : ∀ o : Nat, (o : Int) ∈ L ↔ o < p ∧ o < ns.length ∧ Over (nth ns) o p := fun o => by
    rw [List.mem_filter, way_mem hT hp, decide_eq_true_eq]
    exact ⟨fun h => ⟨by omega, h.1⟩, fun h => ⟨h.2, by omega⟩⟩
  have hN : ∀ m ∈ L, ∃ o : Nat, m = o := fun m hm => by
    have := (List.mem_filter.mp hm).1
    rw [wayI_way] at this
    obtain ⟨o, _, e⟩ := List.mem_map.mp this
    exact ⟨o, e.symm⟩
  rcases (fences_sides (hT.2 p hp)).1 with h | ⟨q, h⟩
  · refine ⟨fun _ => fenA_no h, fun hne m hm _ => ?_⟩
    obtain ⟨o, rfl⟩ := hN m hm
    obtain ⟨h1, _, h2⟩ := (hL o).mp hm
    have := h o h1
    rcases h2 with ⟨_, k⟩ | ⟨z, _⟩
    · have := k p h1 (Nat.le_refl _); omega
    · omega
  · have hq : (q : Int) ∈ L := (hL q).mpr ⟨h.1, by have := h.1; omega, h.over⟩
    refine ⟨fun e => by rw [e] at hq; simp at hq, fun _ m hm hmax => ?_⟩
    rw [fenA_prev h]
    obtain ⟨o, rfl⟩ := hN m hm
    obtain ⟨h1, _, h2⟩ := (hL o).mp hm
    have hqo := hmax _ hq
    by_cases z : o = q
    · rw [z]
    · have := h.2.2 o (by omega) h1
      rcases h2 with ⟨_, k⟩ | ⟨z, _⟩
      · have := k p h1 (Nat.le_refl _); omega
      · omega
theorem fenB_min {ns T : List Int} (hT : TreeIs ns T) {p : Nat} (hp : p < ns.length) : let L := (wayI T p).filter fun o => decide ((p : Int) < o)
    (L = [] → fenB (nth ns) ns.length p = ns.length) ∧ (L ≠ [] → ∀ m, m ∈ L → (∀ a ∈ L, m ≤ a) → m = fenB (nth ns) ns.length p) := by
  intro L
  have hL : ∀ o : Nat, (o : Int) ∈ L ↔ p < o ∧ o < ns.length ∧ Over (nth ns) o p := fun o => by
    rw [List.mem_filter, way_mem hT hp, decide_eq_true_eq]
    exact ⟨fun h => ⟨by omega, h.1⟩, fun h => ⟨h.2, by omega⟩⟩
  have hN : ∀ m ∈ L, ∃ o : Nat, m = o := fun m hm => by
    have := (List.mem_filter.mp hm).1
    rw [wayI_way] at this
    obtain ⟨o, _, e⟩ := List.mem_map.mp this
    exact ⟨o, e.symm⟩
  rcases (fences_sides (hT.2 p hp)).2 with h | ⟨q, h⟩
  · refine ⟨fun _ => fenB_no h, fun hne m hm _ => ?_⟩
    obtain ⟨o, rfl⟩ := hN m hm
    obtain ⟨h1, h3, h2⟩ := (hL o).mp hm
    have := h o h1 h3
    rcases h2 with ⟨z, _⟩ | ⟨_, k⟩
    · omega
    · have := k p (Nat.le_refl _) h1; omega
  · have hq : (q : Int) ∈ L := (hL q).mpr ⟨h.1, h.2.1, h.over⟩
    refine ⟨fun e => by rw [e] at hq; simp at hq, fun _ m hm hmin => ?_⟩
    rw [fenB_next h]
    obtain ⟨o, rfl⟩ := hN m hm
    obtain ⟨h1, h3, h2⟩ := (hL o).mp hm
    have hqo := hmin _ hq
    by_cases z : o = q
    · rw [z]
    · have := h.2.2.2 o h1 (by omega)
      rcases h2 with ⟨z, _⟩ | ⟨_, k⟩
      · omega
      · have := k p (Nat.le_refl _) h1; omega

noncomputable def distN (f : Nat → Int) (p : Nat) : Int := if 0 ≤ fenA f p then (p : Int) - fenA f p else 0
noncomputable def distI (ns : List Int) : List Int := (List.range ns.length).map (distN (nth ns))
theorem distI_len (ns : List Int) : (distI ns).length = ns.length := by simp [distI]

def PairsAt (H : Hp) (l : Addr) (n : Nat) (ps : Nat → Int × Int) : Prop := ∃ qs : List Addr, H l = some (.lst (qs.map V.ref)) ∧ qs.length = n ∧ ∀ (j : Nat) (q : Addr), qs[j]? = some q → H q = some (.tup [.int (ps j).1, .int (ps j).2])
theorem PairsAt.same {H H' : Hp} {l : Addr} {n : Nat} {ps : Nat → Int × Int} (h : PairsAt H l n ps) (s : Same H H') : PairsAt H' l n ps := by
  obtain ⟨qs, h1, h2, h3⟩ := h
  exact ⟨qs, s _ _ h1, h2, fun j q hq => s _ _ (h3 j q hq)⟩
theorem PairsAt.push {H : Hp} {l q : Addr} {n : Nat} {ps : Nat → Int × Int} (h : PairsAt H l n ps) (hq : H q = some (.tup [.int (ps n).1, .int (ps n).2])) : ∃ xs : List V, H l = some (.lst xs) ∧ xs.length = n ∧ PairsAt (upd H l (.lst (xs ++ [.ref q]))) l (n + 1) ps := by
  obtain ⟨qs, h1, h2, h3⟩ := h
  have hne : ∀ a o, H a = some (.tup o) → a ≠ l := fun a o ha z => by rw [z, h1] at ha; cases ha
  refine ⟨_, h1, by simp [h2], qs ++ [q], by rw [upd_same]; simp, by simp [h2], fun j a ha => ?_⟩
  by_cases z : j < qs.length
  · rw [List.getElem?_append_left z] at ha
    have := h3 j a ha
    rw [upd_ne (hne _ _ this)]; exact this
  · have hj := (List.getElem?_eq_some_iff.mp ha).1
    rw [List.length_append] at hj
    have : j = n := by simp at hj; omega
    subst this
    rw [List.getElem?_append_right (by omega), h2] at ha
    simp at ha
    rw [← ha, upd_ne (hne _ _ hq)]; exact hq

theorem Spine.mono {f : Nat → Int} {i : Nat} {S : List Nat} (h : Spine f i S) : S.Pairwise (fun a b => f a ≤ f b) := by
  refine List.Pairwise.imp_of_mem ?_ h.1
  intro a b ha hb hab
  exact ((h.2 a).mp ha).2 b hab ((h.2 b).mp hb).1
end L2


set_option Elab.async false
set_option linter.all false
set_option maxRecDepth 100000
set_option maxHeartbeats 1000000
namespace L2
open PySem PySem.Spec PyProof.Rows PySem.W
theorem for_it {J : It} {n : Nat} {g : TG} {tb : TS} {D : Ends} {σ : St} {H : Hp} (Pv : Nat → St → Hp → Prop) (h0 : Pv 0 σ H) (hgo : ∀ i σ H, i < n → Pv i σ H → J.go i H) (hstop : ∀ σ H, Pv n σ H → J.stop n H)
    (hs : ∀ i x σ H H', i < n → Pv i σ H → J.yld i H x H' → g x σ H' fun σ2 H2 => tb { D with nx := Pv (i + 1), ct := Pv (i + 1), bk := D.nx } σ2 H2) (hd : ∀ σ H, Pv n σ H → D.nx σ H) : LoopR J g tb D σ H := by
  refine ⟨fun i m σ H => m = n - i ∧ i ≤ n ∧ Pv i σ H, ⟨n, by simp, Nat.zero_le _, h0⟩, ?_⟩
  rintro i m σ H ⟨rfl, hi, p⟩
  by_cases hlt : i < n
  · exact .inr ⟨hgo i σ H hlt p, Pv (i + 1), fun σ' H' p' => ⟨n - (i + 1), by omega, rfl, hlt, p'⟩, fun x H' y => hs i x σ H H' hlt p y⟩
  · have : i = n := by omega
    subst this
    exact .inl ⟨hstop σ H p, hd σ H p⟩
theorem range_of (L : List Int) : L = (List.range L.length).map fun i => L.getD i 0 := by
  refine List.ext_getElem (by simp) fun j h1 h2 => ?_
  simp [List.getD_eq_getElem?_getD, h1]

theorem comp_sift {K : Frag} {a : Addr} {L : List Int} {H1 : Hp} {Q : VK} {tt : TT} {σr : St} (P : Int → Bool) (ha : H1 a = some (.lst (L.map V.int))) (hn : L.length ≤ 1000)
    (ht : ∀ (x : Int) (H : Hp) (R : Bool → Hp → Prop), R (P x) H → tt (some (V.int x) :: σr) H R)
    (hk : ∀ l H', Same H1 H' → H' l = none → Q (.ref l) (upd H' l (.lst ((L.filter P).map V.int)))) :
    CompR (Itl K a) (gName 0) tt (tVar 0) (none :: σr) Q H1 := by
  refine comp_filt (n := L.length) (fun i => P (L.getD i 0)) (fun i => V.int (L.getD i 0)) (Nat.lt_of_le_of_lt hn (by decide)) (fun i Hx s hi => ⟨_, _, SqL.of (s _ _ ha), List.getElem?_eq_getElem (by simpa using hi)⟩) (fun Hx s => ⟨_, SqL.of (s _ _ ha), by simp⟩) ?_ ?_
  · rintro i x Hx Hy hi s ⟨rfl, hx⟩
    have ex := hx _ (SqL.of (s _ _ ha))
    rw [List.getElem?_map, List.getElem?_eq_getElem hi] at ex
    cases ex
    have eg : L.getD i 0 = L[i] := by simp [List.getD_eq_getElem?_getD, hi]
    refine ht _ _ _ ?_
    cases hP : P L[i] with
    | true =>
      rw [if_pos rfl]
      exact ⟨_, rfl, CF.take hi (by rw [eg]; exact hP) (by rw [eg]) s⟩
    | false =>
      rw [if_neg (by simp)]
      exact CF.skip hi (by rw [eg]; exact hP) s
  · intro l H' s hl
    have := hk l H' s hl
    have e : ((List.range L.length).filter fun i => P (L.getD i 0)).map (fun i => V.int (L.getD i 0)) = (L.filter P).map V.int := by
      conv => rhs; rw [range_of L, List.filter_map, List.map_map]
      rfl
    rw [e]; exact this
theorem natsV_ints (l : List Nat) : natsV l = (l.map fun q => ((q : Nat) : Int)).map V.int := by simp [natsV, Function.comp_def]
end L2


set_option Elab.async false
set_option linter.all false
set_option maxRecDepth 100000
set_option maxHeartbeats 1000000
namespace L2
open PySem PySem.Spec PyProof.Rows PySem.W

section
variable {X : Cx}

def tMaxDT (K : Frag) (ta td : TA) : TE := fun σ H Q => ta σ H fun vs H1 => td σ H1 fun zs H2 => ∃ (p : Addr) (ns : List Int) (d : Int), vs = [.ref p] ∧ zs = [.int d] ∧ SqT K H2 p (ns.map V.int) ∧ (ns = [] → Q (.int d) H2) ∧ (ns ≠ [] → ∀ m, m ∈ ns → (∀ a ∈ ns, a ≤ m) → Q (.int m) H2)
end

def rInD (K : Frag) : R2 := fun x y H Q => ∃ (q p : Addr) (as : List Addr) (e : Addr → Bool), x = .ref q ∧ y = .ref p ∧ SqL K H p (as.map V.ref) ∧ (∀ a ∈ as, EqD K H 3 (.ref a) x (e a)) ∧ Q (.bl (as.any e)) H
def eU (e : Addr → Bool) : Value → Bool
  | .ref a => e a
  | _ => false
theorem vals_refs : ∀ {as : List Addr} {us : List Value}, Vals (as.map V.ref) us → us = as.map Value.ref
  | [], _, .nil => rfl
  | a :: as, u :: us, .cons r t => by
    have hr : u = Value.ref a := r
    rw [hr, vals_refs t]; rfl
section
variable {X : Cx}
end
end L2


set_option Elab.async false
set_option linter.all false
set_option maxRecDepth 100000
set_option maxHeartbeats 1000000
namespace L2
open PySem PySem.Spec PyProof.Rows PySem.W

end L2


set_option Elab.async false
set_option linter.all false
set_option maxRecDepth 100000
set_option maxHeartbeats 1000000

namespace PySem
open Sem (wp)
section
variable {prog : Program} {w : World} {A : Around} {E : Value → Shared → Prop} {s : Shared}
end
end PySem
namespace L2
open PySem PySem.Spec PyProof.Rows PySem.W
section
variable {X : Cx}
def rTupR2 : List V → Hp → VK → Prop := fun xs H Q => ∃ p i j, xs = [.ref p] ∧ H p = some (.rng i j) ∧ -(2 ^ 62) ≤ i ∧ i < 2 ^ 62 ∧ -(2 ^ 62) ≤ j ∧ j < 2 ^ 62 ∧ j - i ≤ 1000 ∧ ∀ l, H l = none → Q (.ref l) (upd H l (.tup ((List.range (j - i).toNat).map fun (k : Nat) => V.int (i + (k : Int)))))
end
end L2


set_option Elab.async false
set_option linter.all false
set_option maxRecDepth 100000
set_option maxHeartbeats 1000000

namespace L2
open PySem PySem.Spec PyProof.Rows PySem.W

def QIt (h : Heap) (i l : Addr) (k : Nat) (xs : Array Value) : Prop := (h.IsListIter i l k ∧ h.IsList l xs) ∨ (h.IsTupleIter i l k ∧ h.IsTuple l xs)
theorem QIt.ext {h h' : Heap} {i l b : Addr} {k : Nat} {xs : Array Value} (x : QIt h i l k xs) (hs : Heap.ExtBut b h h') (n1 : i ≠ b) (n2 : l ≠ b) : QIt h' i l k xs := by
  rcases x with ⟨p, q⟩ | ⟨p, q⟩
  · exact .inl ⟨p.extBut hs n1, q.extBut hs n2⟩
  · obtain ⟨o, ho, r⟩ := q
    exact .inr ⟨p.extBut hs n1, ⟨o, hs _ _ n2 ho, r⟩⟩
theorem QIt.at {h h' : Heap} {i l : Addr} {k : Nat} {xs : Array Value} (x : QIt h i l k xs) (e1 : ∀ o, h.get? i = some o → h'.get? i = some o) (e2 : ∀ o, h.get? l = some o → h'.get? l = some o) : QIt h' i l k xs := by
  rcases x with ⟨p, ⟨o, ho, r⟩⟩ | ⟨⟨o1, p1, r1⟩, ⟨o, ho, r⟩⟩
  · exact .inl ⟨p.at e1, ⟨o, e2 o ho, r⟩⟩
  · exact .inr ⟨⟨o1, e1 _ p1, r1⟩, ⟨o, e2 o ho, r⟩⟩
theorem QIt.obj {h : Heap} {i l : Addr} {k : Nat} {xs : Array Value} (x : QIt h i l k xs) : (∃ o, h.get? i = some o ∧ ∀ v m, o.data ≠ .seq v m) ∧ ∃ o, h.get? l = some o := by
  rcases x with ⟨⟨o, p, p1, p2⟩, ⟨u, q, _⟩⟩ | ⟨⟨o, p, p1, p2⟩, ⟨u, q, _⟩⟩
  · exact ⟨⟨o, p, fun v m z => by rw [p2] at z; cases z⟩, ⟨u, q⟩⟩
  · exact ⟨⟨o, p, fun v m z => by rw [p2] at z; cases z⟩, ⟨u, q⟩⟩
section
variable {prog : Program} {w : World} {A : Around} {E Q : Value → Shared → Prop} {s : Shared} {it l : Addr} {k : Nat} {xs : Array Value}
end
section
variable {prog : Program} {w : World} {A : Around} {E : Value → Shared → Prop} {s : Shared} {z TI TO i1 i2 l1 l2 : Addr} {k1 k2 : Nat} {xs ys : Array Value} {a b : Value}
def SqH (h : Heap) (l : Addr) (xs : Array Value) : Prop := h.IsList l xs ∨ h.IsTuple l xs
theorem SqH.push {h : Heap} {l : Addr} {xs : Array Value} (q : SqH h l xs) (o : Obj) : SqH (h.push o) l xs := by
  rcases q with q | ⟨u, hu, r⟩
  · exact .inl (q.push o)
  · exact .inr ⟨u, Heap.get?_push_of_some _ hu, r⟩
theorem SqH.obj {h : Heap} {l : Addr} {xs : Array Value} (q : SqH h l xs) : ∃ o, h.get? l = some o := by
  rcases q with ⟨o, ho, _⟩ | ⟨o, ho, _⟩ <;> exact ⟨o, ho⟩
def itName (h : Heap) (l : Addr) : String := match h.get? l with
  | some o => if o.cls = .type "tuple" then "tuple_iterator" else "list_iterator"
  | none => "list_iterator"
abbrev zq1 (h : Heap) (l1 : Addr) : Heap := h.push { cls := .type (itName h l1), data := .fields #[.ref l1, .int 0 0] }
abbrev zq2 (h : Heap) (l1 l2 : Addr) : Heap := (zq1 h l1).push { cls := .type (itName (zq1 h l1) l2), data := .fields #[.ref l2, .int 0 0] }
end
section
variable {X : Cx} {pins : List (Addr × Obj)} {σ : St} {H : Hp} {s : Shared}

def SqB (K : Frag) (t : Bool) (H : Hp) (a : Addr) (xs : List V) : Prop := match t with
  | true => SqT K H a xs
  | false => SqL K H a xs
def ItB (t : Bool) (h : Heap) (i a : Addr) (k : Nat) : Prop := match t with
  | true => h.IsTupleIter i a k
  | false => h.IsListIter i a k
theorem SqB.of {K : Frag} {H : Hp} {a : Addr} {xs : List V} (h : SqL K H a xs ∨ SqT K H a xs) : ∃ t, SqB K t H a xs := by
  rcases h with h | h
  · exact ⟨false, h⟩
  · exact ⟨true, h⟩
theorem ItB.keep {t : Bool} {h h' : Heap} {i a : Addr} {k : Nat} (q : ItB t h i a k) (e : ∀ o, h.get? i = some o → h'.get? i = some o) : ItB t h' i a k := by
  cases t
  · obtain ⟨o, ho, r⟩ := q; exact ⟨o, e o ho, r⟩
  · obtain ⟨o, ho, r⟩ := q; exact ⟨o, e o ho, r⟩
theorem ItB.obj {t : Bool} {h : Heap} {i a : Addr} {k : Nat} (q : ItB t h i a k) : ∃ o, h.get? i = some o ∧ ∃ v, o.data = .fields v := by
  cases t
  · obtain ⟨o, ho, _, d⟩ := q; exact ⟨o, ho, _, d⟩
  · obtain ⟨o, ho, _, d⟩ := q; exact ⟨o, ho, _, d⟩
def Itzq (K : Frag) (t u : Bool) (a b : Addr) : It :=
  ⟨fun i H => ∃ xs ys x y, SqB K t H a xs ∧ SqB K u H b ys ∧ xs[i]? = some x ∧ ys[i]? = some y,
   fun i H v H' => ∃ p x y, H p = none ∧ v = .ref p ∧ H' = upd H p (.tup [x, y]) ∧ (∀ xs, SqB K t H a xs → xs[i]? = some x) ∧ ∀ ys, SqB K u H b ys → ys[i]? = some y,
   fun i H => ∃ xs ys, SqB K t H a xs ∧ SqB K u H b ys ∧ (xs.length ≤ i ∨ ys.length ≤ i)⟩
def iZipQ (K : Frag) (ta : TA) : TI := fun σ H R => ta σ H fun vs H1 => ∃ a b t u xs ys, vs = [.ref a, .ref b] ∧ SqB K t H1 a xs ∧ SqB K u H1 b ys ∧ R (Itzq K t u a b) H1
end
end L2


set_option Elab.async false
set_option linter.all false
set_option maxRecDepth 100000
set_option maxHeartbeats 1000000
namespace L2
open PySem PySem.Spec PyProof.Rows PySem.W
theorem cut_m1 (xs : List V) : cutV xs (some (-1)) none = xs.drop (xs.length - 1) := by
  unfold cutV HT.sIx
  cases xs with
  | nil => simp
  | cons x r =>
    simp
    have e : (-1 + ((r.length : Int) + 1)).toNat = r.length := by omega
    rw [e]
    exact List.take_of_length_le (by simp)
end L2
namespace L2
open PySem PySem.Spec PyProof.Rows PySem.W
end L2


set_option Elab.async false
set_option linter.all false
set_option maxRecDepth 100000
set_option maxHeartbeats 1000000
namespace L2
open PySem PySem.Spec PyProof.Rows PySem.W

theorem map_range_nth {F : Nat → Int} {n k : Nat} (h : k < n) : nth ((List.range n).map F) k = F k := by simp [nth, List.getD_eq_getElem?_getD, h]
end L2
namespace L2
open PySem PySem.Spec PyProof.Rows PySem.W
end L2


set_option Elab.async false
set_option linter.all false
set_option maxRecDepth 100000
set_option maxHeartbeats 1000000
namespace L2
open PySem PySem.Spec PyProof.Rows PySem.W

end L2
namespace L2
open PySem PySem.Spec PyProof.Rows PySem.W
theorem eqd_nil {K : Frag} {Hx : Hp} {l q : Addr} {L : List Nat} (h1 : Hx l = some (.lst (natsV L))) (h2 : Hx q = some (.lst [])) : EqD K Hx 3 (V.ref l) (V.ref q) (decide (L = [])) := by
  have hh := eqp_lst (n := 2) (K := K) (H := Hx) eqp_int (V.ref l) (V.ref q) (L.map fun (q : Nat) => (q : Int)) [] (isL_ints (SqL.of (by rw [h1]; simp [natsV, Function.comp_def]))) (isL_ints (ns := []) (SqL.of h2))
  have e : decide (L.map (fun (q : Nat) => (q : Int)) = []) = decide (L = []) := by cases L <;> simp
  rw [e] at hh; exact hh
end L2
namespace L2
open PySem PySem.Spec PyProof.Rows PySem.W

def CDivL (i j : Int) : Prop := 0 < j ∧ j < 18446744073709551616
theorem op_fdivL {X : Cx} : OpR X (binaryOp .FloorDiv) (rI CDivL fun i j => .int (i / j)) := opI fun i j _ _ _ _ _ hc q => by
  have h1 : (0 : Int) < j := hc.1
  have h2 : j < 18446744073709551616 := hc.2
  refine floordiv_int (by omega) (by rw [Int.fdiv_eq_ediv_of_nonneg i (by omega)]; exact q) (.inl (PyProof.noPylong_of_log2 ?_))
  have h3 : j.natAbs < 2 ^ 64 := by omega
  have : j.natAbs.log2 < 64 := (Nat.log2_lt (by omega)).mpr h3
  omega
end L2
namespace L2
theorem snoc_cases {α : Type} (xs : List α) : xs = [] ∨ ∃ ys y, xs = ys ++ [y] := by
  rcases List.eq_nil_or_concat xs with h | ⟨ys, y, h⟩
  · exact .inl h
  · exact .inr ⟨ys, y, by rw [h, List.concat_eq_append]⟩
end L2
namespace L2
open PySem PySem.Spec PyProof.Rows PySem.W
theorem cut_midN (xs : List V) {a c : Nat} (h1 : a ≤ c) (h2 : c ≤ xs.length) : cutV xs (some (a : Int)) (some (c : Int)) = (xs.drop a).take (c - a) := by
  unfold cutV
  rw [HT.sIx_nat, HT.sIx_nat, Nat.min_eq_left h2, Nat.min_eq_left (Nat.le_trans h1 h2)]
theorem cut_ints (ns : List Int) {a c : Nat} (h1 : a ≤ c) (h2 : c ≤ ns.length) : cutV (ns.map V.int) (some (a : Int)) (some (c : Int)) = (cutN ns a (c - a)).map V.int := by
  rw [cut_midN _ h1 (by simpa using h2)]
  unfold cutN
  rw [List.map_take, List.map_drop]
end L2


set_option Elab.async false
set_option linter.all false
set_option maxRecDepth 100000
set_option maxHeartbeats 1000000
namespace L2
open PySem PySem.Spec PyProof.Rows PySem.W

def sw (d : Int) (k : Nat) : Int := if d ≤ k then d else 0
theorem sw_sw {d : Int} {a b : Nat} (h : a ≤ b) : sw (sw d b) a = sw d a := by
  unfold sw
  by_cases h1 : d ≤ b
  · rw [if_pos h1]
  · rw [if_neg h1, if_pos (by omega : (0 : Int) ≤ a), if_neg (by omega)]
theorem distN_cases (f : Nat → Int) (p : Nat) : (NoPrev f p ∧ distN f p = 0) ∨ ∃ q, IsPrev f p q ∧ distN f p = (p : Int) - q := by
  rcases prev_or f p with h | ⟨q, h⟩
  · exact .inl ⟨h, by unfold distN; rw [fenA_no h, if_neg (by omega)]⟩
  · exact .inr ⟨q, h, by unfold distN; rw [fenA_prev h, if_pos (by omega)]⟩
theorem distN_bounds (f : Nat → Int) (p : Nat) : 0 ≤ distN f p ∧ distN f p ≤ p := by
  rcases distN_cases f p with ⟨_, e⟩ | ⟨q, h, e⟩
  · omega
  · have := h.1; omega
theorem sw_self (f : Nat → Int) (p : Nat) : sw (distN f p) p = distN f p := if_pos (distN_bounds f p).2

theorem distN_shift {f g : Nat → Int} {x i : Nat} (h : ∀ k, k ≤ i → g k = f (x + k)) : distN g i = sw (distN f (x + i)) i := by
  rcases distN_cases f (x + i) with ⟨h1, e⟩ | ⟨q, h1, e⟩
  · have : NoPrev g i := fun k hk => by rw [h k (by omega), h i (Nat.le_refl _)]; exact h1 (x + k) (by omega)
    rw [e]
    rcases distN_cases g i with ⟨_, e2⟩ | ⟨r, h2, _⟩
    · rw [e2]; unfold sw; rw [if_pos (by omega)]
    · exact absurd this (fun z => h2.no z)
  · rw [e]
    obtain ⟨q1, q2, q3⟩ := h1
    unfold sw
    by_cases hx : x ≤ q
    · rw [if_pos (by omega)]
      have : IsPrev g i (q - x) := ⟨by omega, by rw [h _ (by omega), h i (Nat.le_refl _), show x + (q - x) = q by omega]; exact q2, fun r r1 r2 => by rw [h r (by omega), h i (Nat.le_refl _)]; exact q3 (x + r) (by omega) (by omega)⟩
      rcases distN_cases g i with ⟨h2, _⟩ | ⟨r, h2, e2⟩
      · exact (this.no h2).elim
      · have := h2.unique this; omega
    · rw [if_neg (by omega)]
      have : NoPrev g i := fun k hk => by rw [h k (by omega), h i (Nat.le_refl _)]; exact q3 (x + k) (by omega) (by omega)
      rcases distN_cases g i with ⟨_, e2⟩ | ⟨r, h2, _⟩
      · exact e2
      · exact (h2.no this).elim
theorem dist_cut {ns : List Int} {a c i : Nat} (h : i < c) : distN (nth (cutN ns a c)) i = sw (distN (nth ns) (a + i)) i := distN_shift fun k hk => cutN_nth (by omega)

def KinD (f g : Nat → Int) (m : Nat) : Prop := ∀ i, i < m → distN f i = distN g i

def Mt (f g : Nat → Int) (m p : Nat) : Prop := ∀ i, i < m → distN f i = sw (distN g (p - m + i)) i
theorem Mt.succ {f g : Nat → Int} {m p : Nat} (h : m ≤ p) : Mt f g (m + 1) (p + 1) ↔ Mt f g m p ∧ distN f m = sw (distN g p) m := by
  constructor
  · intro H
    refine ⟨fun i hi => ?_, ?_⟩
    · have := H i (by omega); rw [show p + 1 - (m + 1) + i = p - m + i by omega] at this; exact this
    · have := H m (by omega); rw [show p + 1 - (m + 1) + m = p by omega] at this; exact this
  · rintro ⟨H, h2⟩ i hi
    rw [show p + 1 - (m + 1) + i = p - m + i by omega]
    by_cases e : i = m
    · rw [e, show p - m + m = p by omega]; exact h2
    · exact H i (by omega)
theorem Mt.part {f g : Nat → Int} {m c p : Nat} (hm : m ≤ c) (hc : c ≤ p) (h : Mt f g c p) : Mt f g m p ↔ Mt f f m c := by
  have key : ∀ j, j < m → sw (distN f (c - m + j)) j = sw (distN g (p - m + j)) j := fun j hj => by
    have := h (c - m + j) (by omega)
    rw [this, show p - c + (c - m + j) = p - m + j by omega, sw_sw (by omega)]
  constructor
  · intro H j hj; rw [key j hj]; exact H j hj
  · intro H j hj; rw [← key j hj]; exact H j hj
theorem Mt.zero (f g : Nat → Int) (p : Nat) : Mt f g 0 p := fun i hi => absurd hi (by omega)
theorem Mt.self (f : Nat → Int) (m : Nat) : Mt f f m m := fun i hi => by rw [Nat.sub_self, Nat.zero_add, sw_self]
def IsBorder (f : Nat → Int) (k m : Nat) : Prop := m < k ∧ Mt f f m k ∧ ∀ j, m < j → j < k → ¬ Mt f f j k
theorem IsBorder.unique {f : Nat → Int} {k m j : Nat} (h : IsBorder f k m) (h' : IsBorder f k j) : m = j := by
  rcases Nat.lt_trichotomy m j with z | z | z
  · exact absurd h'.2.1 (h.2.2 j z h'.1)
  · exact z
  · exact absurd h.2.1 (h'.2.2 m z h.1)
def Goes (f : Nat → Int) (n s : Nat) (d : Int) (m : Nat) : Prop := m ≤ s ∧ Mt f f m s ∧ m < n ∧ distN f m = sw d m ∧ ∀ j, m < j → j ≤ s → Mt f f j s → ¬ (j < n ∧ distN f j = sw d j)

def Walk (f : Nat → Int) (n s : Nat) (d : Int) (c : Nat) : Prop := c ≤ s ∧ Mt f f c s ∧ ∀ j, c < j → j ≤ s → Mt f f j s → ¬ (j < n ∧ distN f j = sw d j)
theorem Walk.start (f : Nat → Int) (n s : Nat) (d : Int) : Walk f n s d s := ⟨Nat.le_refl _, Mt.self f s, fun j h1 h2 => absurd h1 (by omega)⟩
theorem Walk.step {f : Nat → Int} {n s : Nat} {d : Int} {c b : Nat} (h : Walk f n s d c) (no : ¬ (c < n ∧ distN f c = sw d c)) (hb : IsBorder f c b) : Walk f n s d b := by
  obtain ⟨h1, h2, h3⟩ := h
  obtain ⟨b1, b2, b3⟩ := hb
  refine ⟨by omega, (Mt.part (by omega) h1 h2).mpr b2, fun j j1 j2 j3 => ?_⟩
  rcases Nat.lt_trichotomy j c with z | z | z
  · exact absurd ((Mt.part (by omega) h1 h2).mp j3) (b3 j j1 z)
  · rw [z]; exact no
  · exact h3 j z j2 j3
theorem Walk.goes {f : Nat → Int} {n s : Nat} {d : Int} {c : Nat} (h : Walk f n s d c) (ok : c < n ∧ distN f c = sw d c) : Goes f n s d c := ⟨h.1, h.2.1, ok.1, ok.2, h.2.2⟩

end L2
namespace L2
open PySem PySem.Spec PyProof.Rows PySem.W
theorem distI_nth {ns : List Int} {m : Nat} (h : m < ns.length) : nth (distI ns) m = distN (nth ns) m := map_range_nth h
theorem natsV_last {bs : List Nat} {i : Nat} (h : bs.length = i + 1) : atI (natsV bs) (-1) = some (V.int ((bs.getD i 0 : Nat) : Int)) := by
  refine atI_m1 (by rw [natsV_len]; omega) ?_
  rw [natsV_len, h, Nat.add_sub_cancel]
  simp [natsV, List.getD_eq_getElem?_getD, h]
end L2


set_option Elab.async false
set_option linter.all false
set_option maxRecDepth 100000
set_option maxHeartbeats 1000000
namespace L2
open PySem PySem.Spec PyProof.Rows PySem.W
end L2
namespace L2
end L2


set_option Elab.async false
set_option linter.all false
set_option maxRecDepth 100000
set_option maxHeartbeats 1000000
namespace L2
open PySem PySem.Spec PyProof.Rows PySem.W

structure FunD (K : PySem.W.Frag) (x qual : Str) (st : Stmt) (f : Addr) (fd : FuncData) (dV : Value) : Prop where
  ex : ∃ (oc : Value) (od : Option Addr) (kV doc pm : Value) (an : Option Addr) (cdv ct : Value) (osl : Array (Option Value)),
    fd = PySem.W.fnOf x qual (defArgs st) (defBody st) (defScope st) dV kV doc pm an cdv ct ∧ K.lookup f = some ⟨oc, od, .func fd, osl⟩ ∧ PySem.W.codeIn K cdv qual = true
  kp : PySem.W.keepIn K (.ref f) = true
section
variable {P : Program} {w : World} {K : PySem.W.Frag} {mg : Str → Option Value} {base : Heap}
theorem FunD.okX {x qual : Str} {st : Stmt} {f : Addr} {fd : FuncData} {dV : Value} {N ps : List Str} {k : Nat} {sp : Sp} (F : FunD K x qual st f fd dV) (S : FnScope N ps (defScope st)) (len : ∀ vs H Q E, sp vs H Q E → vs.length = ps.length)
    (hbody : ∀ (cdv : Value) (A : Around) (outer : List Env) (s : Shared) (H : Hp) (vs : List V) (Q : VK) (E : XK), Room k (A.deeper (envOfC qual (defScope st) s.heap.objs.size f cdv)) → sp vs H Q E →
      ∃ t, PSs (cxOf (CXE P w) P w K mg base N qual (defScope st) f cdv A outer s H E) (defBody st) t ∧ t { nx := fun _ H' => Q .non H', rt := Q } (start N vs) H) : FnOk P w K mg base (CXE P w) (k + 1) f fd ps sp := by
  obtain ⟨oc, od, kV, doc, pm, an, cdv, ct, osl, rfl, lk, hcd⟩ := F.ex
  exact fn_of lk hcd S len fun A outer s H vs Q E hr hsp => hbody cdv A outer s H vs Q E hr hsp
theorem FunD.binds {x qual : Str} {st : Stmt} {f : Addr} {fd : FuncData} {D : Addr} {ps : List Str} {ds : List Value} {oc : Value} {od : Option Addr} {items : Array Value} {ep : Nat} {sl : Array (Option Value)} (F : FunD K x qual st f fd (.ref D))
    (lk : K.lookup D = some ⟨oc, od, .seq items ep, sl⟩)
    (h : ∀ (kV doc pm : Value) (an : Option Addr) (cdv ct : Value) (us : List Value), (us ++ ds).length = ps.length → ∃ k, bindArgs (PySem.W.fnOf x qual (defArgs st) (defBody st) (defScope st) (.ref D) kV doc pm an cdv ct) ⟨us, []⟩ = seqItems? (.ref D) >>= k ∧ k (some items) = pure (ps.zip (us ++ ds))) : Binds K fd ps ds := by
  obtain ⟨oc, od, kV, doc, pm, an, cdv, ct, osl, rfl, lf, hcd⟩ := F.ex
  intro s us KX hl
  obtain ⟨k, h1, h2⟩ := h kV doc pm an cdv ct us hl
  exact BindsTo.of_defaults rfl (KX _ _ lk) rfl h1 h2
end

end L2
namespace L2
open PySem PySem.Spec PyProof.Rows PySem.W
end L2


set_option Elab.async false
set_option linter.all false
set_option maxRecDepth 100000
set_option maxHeartbeats 1000000
namespace L2
open PySem PySem.Spec PyProof.Rows PySem.W

def RA (Z H : Hp) (l : Addr) (as : List Addr) (C : Nat) : Prop := H l = some (.lst (as.map V.ref)) ∧ l ∉ as ∧ Z l = none ∧ ∀ a ∈ as, Z a = none ∧ ∃ ns : List Int, H a = some (.lst (ns.map V.int)) ∧ ns.length ≤ C
open Classical in
noncomputable def intsOf (H : Hp) (a : Addr) : List Int := if h : ∃ ns : List Int, H a = some (.lst (ns.map V.int)) then Classical.choose h else []
theorem ints_inj {ns ms : List Int} (h : ns.map V.int = ms.map V.int) : ns = ms := by
  have := congrArg (List.map fun v => match v with | V.int i => i | _ => 0) h
  simpa [List.map_map, Function.comp_def] using this
theorem intsOf_eq {H : Hp} {a : Addr} {ns : List Int} (h : H a = some (.lst (ns.map V.int))) : intsOf H a = ns := by
  have e : ∃ ns : List Int, H a = some (.lst (ns.map V.int)) := ⟨ns, h⟩
  unfold intsOf
  rw [dif_pos e]
  have := Classical.choose_spec e
  exact ints_inj (HO.lst.inj (Option.some.inj (this.symm.trans h)))
theorem RA.rows {Z H : Hp} {l : Addr} {as : List Addr} {C : Nat} (R : RA Z H l as C) : ∃ rs : List (List Int), Rows H l rs ∧ rs.length = as.length ∧ ∀ x ∈ rs, x.length ≤ C := by
  obtain ⟨h1, h2, h3, h4⟩ := R
  refine ⟨as.map (intsOf H), ⟨as, h1, h2, by simp, fun i i1 i2 => ?_⟩, by simp, fun x hx => ?_⟩
  · obtain ⟨_, ns, e, _⟩ := h4 as[i] (List.getElem_mem _)
    rw [List.getElem_map, intsOf_eq e]; exact e
  · obtain ⟨a, ha, rfl⟩ := List.mem_map.mp hx
    obtain ⟨_, ns, e, hl⟩ := h4 a ha
    rw [intsOf_eq e]; exact hl
theorem RA.exc {Z H H' : Hp} {l p : Addr} {as : List Addr} {C : Nat} (R : RA Z H l as C) (e : Exc p H H') (hp : Z p ≠ none) : RA Z H' l as C :=
  ⟨e _ _ (fun z => hp (by rw [← z]; exact R.2.2.1)) R.1, R.2.1, R.2.2.1, fun a ha => ⟨(R.2.2.2 a ha).1, by
    obtain ⟨z, ns, h, hl⟩ := R.2.2.2 a ha
    exact ⟨ns, e _ _ (fun y => hp (by rw [← y]; exact z)) h, hl⟩⟩⟩
theorem RA.same {Z H H' : Hp} {l : Addr} {as : List Addr} {C : Nat} (R : RA Z H l as C) (s : Same H H') : RA Z H' l as C :=
  ⟨s _ _ R.1, R.2.1, R.2.2.1, fun a ha => ⟨(R.2.2.2 a ha).1, by
    obtain ⟨z, ns, h, hl⟩ := R.2.2.2 a ha
    exact ⟨ns, s _ _ h, hl⟩⟩⟩
theorem RA.mono {Z H : Hp} {l : Addr} {as : List Addr} {C D : Nat} (R : RA Z H l as C) (h : C ≤ D) : RA Z H l as D :=
  ⟨R.1, R.2.1, R.2.2.1, fun a ha => ⟨(R.2.2.2 a ha).1, by
    obtain ⟨z, ns, e, hl⟩ := R.2.2.2 a ha
    exact ⟨ns, e, by omega⟩⟩⟩

theorem RA.outer {Z H : Hp} {l : Addr} {as bs : List Addr} {C : Nat} (R : RA Z H l as C) (h : ∀ b ∈ bs, b ∈ as) : RA Z (upd H l (.lst (bs.map V.ref))) l bs C :=
  ⟨upd_same, fun z => R.2.1 (h _ z), R.2.2.1, fun a ha => ⟨(R.2.2.2 a (h a ha)).1, by
    obtain ⟨z, ns, e, hl⟩ := R.2.2.2 a (h a ha)
    exact ⟨ns, by rw [upd_ne (fun y => R.2.1 (by rw [← y]; exact h a ha))]; exact e, hl⟩⟩⟩

theorem RA.more {Z H : Hp} {l q : Addr} {as bs : List Addr} {C : Nat} {ns : List Int} (R : RA Z H l as C) (h : ∀ b ∈ bs, b ∈ as ∨ b = q) (hq : H q = some (.lst (ns.map V.int))) (zq : Z q = none) (hl : ns.length ≤ C) (nq : q ≠ l) : RA Z (upd H l (.lst (bs.map V.ref))) l bs C :=
  ⟨upd_same, fun z => (h _ z).elim R.2.1 (fun y => nq y.symm), R.2.2.1, fun a ha => by
    rcases h a ha with h1 | rfl
    · obtain ⟨z, ns, e, hl⟩ := R.2.2.2 a h1
      exact ⟨z, ns, by rw [upd_ne (fun y => R.2.1 (by rw [← y]; exact h1))]; exact e, hl⟩
    · exact ⟨zq, ns, by rw [upd_ne nq]; exact hq, hl⟩⟩

theorem RA.fresh {Z H : Hp} {l q u : Addr} {as bs : List Addr} {C : Nat} {ns : List Int} (R : RA Z H l as C) (h : ∀ b ∈ bs, b ∈ as ∨ b = q) (hq : H q = some (.lst (ns.map V.int))) (zq : Z q = none) (hl : ns.length ≤ C) (hu : H u = none) (zu : Z u = none) : RA Z (upd H u (.lst (bs.map V.ref))) u bs C := by
  have key : ∀ b ∈ bs, b ≠ u ∧ Z b = none ∧ ∃ ns : List Int, H b = some (.lst (ns.map V.int)) ∧ ns.length ≤ C := fun b hb => by
    rcases h b hb with h1 | rfl
    · obtain ⟨z, ns, e, hl⟩ := R.2.2.2 b h1
      exact ⟨ne_of_none e hu, z, ns, e, hl⟩
    · exact ⟨ne_of_none hq hu, zq, ns, hq, hl⟩
  exact ⟨upd_same, fun z => (key u z).1 rfl, zu, fun a ha => by
    obtain ⟨n, z, ns, e, hl⟩ := key a ha
    exact ⟨z, ns, by rw [upd_ne n]; exact e, hl⟩⟩

theorem RA.at {Z H : Hp} {l : Addr} {as : List Addr} {C i : Nat} (R : RA Z H l as C) (h : i < as.length) : ∃ (a : Addr) (ns : List Int), a ∈ as ∧ as[i]? = some a ∧ atI (as.map V.ref) (i : Int) = some (.ref a) ∧ H a = some (.lst (ns.map V.int)) ∧ ns.length ≤ C ∧ Z a = none ∧ a ≠ l := by
  obtain ⟨z, ns, e, hl⟩ := R.2.2.2 as[i] (List.getElem_mem _)
  refine ⟨as[i], ns, List.getElem_mem _, List.getElem?_eq_getElem h, ?_, e, hl, z, fun y => R.2.1 (by rw [← y]; exact List.getElem_mem _)⟩
  rw [atI_at rfl (by simpa using h)]; simp
theorem RA.from {Z H H' : Hp} {l p : Addr} {as : List Addr} {C : Nat} (R : RA H H' l as C) (e : Exc p Z H) (hp : H p ≠ none) : RA Z H' l as C :=
  ⟨R.1, R.2.1, e.free (fun z => hp (by rw [← z]; exact R.2.2.1)) R.2.2.1, fun a ha => ⟨e.free (fun z => hp (by rw [← z]; exact (R.2.2.2 a ha).1)) (R.2.2.2 a ha).1, (R.2.2.2 a ha).2⟩⟩
theorem RowsN.exc {Z H H' : Hp} {l p : Addr} {rs : List (List Int)} (R : RowsN Z H l rs) (e : Exc p H H') (hp : Z p ≠ none) : RowsN Z H' l rs := by
  obtain ⟨as, h1, h2, h3, h4, h5, h6⟩ := R
  exact ⟨as, e _ _ (fun z => hp (by rw [← z]; exact h5)) h1, h2, h3, fun i i1 i2 => e _ _ (fun z => hp (by rw [← z]; exact h6 _ (List.getElem_mem _))) (h4 i i1 i2), h5, h6⟩
theorem PoolAt.updN {H : Hp} {p q : Addr} {o : HO} (P : PoolAt H p) (h : q ≠ p) : PoolAt (L2.upd H q o) p := by
  obtain ⟨x, y, e, z⟩ := P
  exact ⟨x, y, by rw [upd_ne (fun w => h w.symm)]; exact e, z⟩
theorem IsL.mono {K : Frag} {H H' : Hp} {α : Type} {P P' : V → α → Prop} {v : V} {as : List α} (h : IsL K H P v as) (s : Same H H') (hp : ∀ x y, P x y → P' x y) : IsL K H' P' v as := by
  obtain ⟨a, xs, e, q, l, r⟩ := h
  exact ⟨a, xs, e, s.seq q, l, fun j x y h1 h2 => hp _ _ (r j x y h1 h2)⟩
theorem IsL2.same {K : Frag} {H H' : Hp} {v : V} {rs : List (List Int)} (h : IsL K H (IsL K H IsI) v rs) (s : Same H H') : IsL K H' (IsL K H' IsI) v rs := IsL.mono h s fun x y q => IsL.mono q s fun _ _ z => z
end L2


set_option Elab.async false
set_option linter.all false
set_option maxRecDepth 100000
set_option maxHeartbeats 1000000
namespace L2
open PySem PySem.Spec PyProof.Rows PySem.W

section
variable {X : Cx}
end

structure KindsOf (K : Frag) (mg : Str → Option Value) (C : Addr) (b : Nat → Bool) : Prop where
  z : ExK K C
  k0 : kitOne K (.ref C) (.ref (clsAt mg "Unlike")) = some (b 0)
  k1 : kitOne K (.ref C) (.ref (clsAt mg "Empty")) = some (b 1)
  k2 : kitOne K (.ref C) (.ref (clsAt mg "TooMany")) = some (b 2)
  k3 : kitOne K (.ref C) (.ref (clsAt mg "NoTree")) = some (b 3)
  k4 : kitOne K (.ref C) (.ref (clsAt mg "NoTelling")) = some (b 4)
  k5 : kitOne K (.ref C) (.ref (clsAt mg "NoPlace")) = some (b 5)
  k6 : kitOne K (.ref C) (.ref (clsAt mg "NoNumber")) = some (b 6)
  k7 : kitOne K (.ref C) (.ref (clsAt mg "NoPast")) = some (b 7)
  k8 : kitOne K (.ref C) (.ref (clsAt mg "NoText")) = some (b 8)
  k9 : kitOne K (.ref C) (.ref (clsAt mg "NoLine")) = some (b 9)
  kd : kitOne K (.ref C) (.ref (clsAt mg "DipError")) = some true
  kv : kitOne K (.ref C) (.type "ValueError") = some true
end L2


set_option Elab.async false
set_option linter.all false
set_option maxRecDepth 100000
set_option maxHeartbeats 1000000
namespace L2
open PySem PySem.Spec PyProof.Rows PySem.W

theorem low_step (f : Nat → Int) (a c : Nat) : lowF f a (c + 1) = if sw (distN f (a + c + 1)) (c + 1) = 0 then a + c + 1 else lowF f a c := by
  obtain ⟨l1, l2, l3, l4⟩ := lowF_is f a c
  rw [lowF]
  generalize lowF f a c = m at *
  rcases distN_cases f (a + c + 1) with ⟨h, e⟩ | ⟨q, ⟨q1, q2, q3⟩, e⟩
  · rw [e, if_pos (h m (by omega)), if_pos]
    unfold sw; split <;> rfl
  · rw [e]
    by_cases hq : a ≤ q
    · have hm : f m ≤ f q := by
        by_cases z : q < m
        · have := l3 q hq z; omega
        · by_cases y : q = m
          · rw [y]; exact Int.le_refl _
          · exact l4 q (by omega) (by omega)
      rw [if_neg (by omega), if_neg]
      unfold sw; rw [if_pos (by omega)]; omega
    · rw [if_pos (q3 m (by omega) (by omega)), if_pos]
      unfold sw; rw [if_neg (by omega)]
theorem KinD.lows {f g : Nat → Int} {n : Nat} (h : KinD f g n) : LowsEq f g n := by
  intro a c
  induction c with
  | zero => intro _; rfl
  | succ c ih => intro k; rw [low_step, low_step, ih (by omega), h (a + c + 1) (by omega)]
theorem LowsEq.kinD {f g : Nat → Int} {n : Nat} (h : LowsEq f g n) : KinD f g n := by
  intro i hi
  have key : ∀ k, 0 < k → k ≤ i → (sw (distN f i) k = 0 ↔ sw (distN g i) k = 0) := fun k k0 k1 => by
    have e := h (i - k) (k - 1 + 1) (by omega)
    rw [low_step, low_step] at e
    rw [show i - k + (k - 1) + 1 = i by omega, show k - 1 + 1 = k by omega] at e
    have b1 := (lowF_lt f (i - k) (k - 1)).2
    have b2 := (lowF_lt g (i - k) (k - 1)).2
    by_cases z : sw (distN f i) k = 0
    · rw [if_pos z] at e
      by_cases y : sw (distN g i) k = 0
      · exact ⟨fun _ => y, fun _ => z⟩
      · rw [if_neg y] at e; omega
    · rw [if_neg z] at e
      by_cases y : sw (distN g i) k = 0
      · rw [if_pos y] at e; omega
      · exact ⟨fun w => absurd w z, fun w => absurd w y⟩
  have b1 := distN_bounds f i
  have b2 := distN_bounds g i
  generalize distN f i = d at *
  generalize distN g i = d' at *
  apply Classical.byContradiction
  intro ne
  have main : ∀ x y : Int, 0 ≤ x → x ≤ i → 0 ≤ y → y ≤ i → (∀ k : Nat, 0 < k → k ≤ i → (sw x k = 0 ↔ sw y k = 0)) → ¬ x < y := fun x y x0 x1 y0 y1 kk hlt => by
    by_cases hx : x = 0
    · have := (kk y.toNat (by omega) (by omega)).mp (by rw [hx]; unfold sw; split <;> rfl)
      unfold sw at this
      rw [if_pos (by omega)] at this; omega
    · have := (kk x.toNat (by omega) (by omega)).mpr (by unfold sw; rw [if_neg (by omega)])
      unfold sw at this
      rw [if_pos (by omega)] at this; omega
  by_cases hlt : d < d'
  · exact main d d' b1.1 b1.2 b2.1 b2.2 key hlt
  · exact main d' d b2.1 b2.2 b1.1 b1.2 (fun k h1 h2 => (key k h1 h2).symm) (by omega)
def TupsAt (H : Hp) (l : Addr) (rs : List (List Int)) : Prop := ∃ as : List Addr, H l = some (.lst (as.map V.ref)) ∧ as.length = rs.length ∧ ∀ i (h1 : i < as.length) (h2 : i < rs.length), H as[i] = some (.tup (rs[i].map V.int))
theorem TupsAt.same {H H' : Hp} {l : Addr} {rs : List (List Int)} (R : TupsAt H l rs) (s : Same H H') : TupsAt H' l rs := by
  obtain ⟨as, h1, h2, h3⟩ := R
  exact ⟨as, s _ _ h1, h2, fun i i1 i2 => s _ _ (h3 i i1 i2)⟩
theorem TupsAt.nil {H : Hp} {l : Addr} (h : H l = some (.lst [])) : TupsAt H l [] := ⟨[], h, rfl, fun i i1 => absurd i1 (by simp)⟩
theorem TupsAt.push {H : Hp} {l t : Addr} {rs : List (List Int)} {r : List Int} {as : List Addr} (e : H l = some (.lst (as.map V.ref))) (hl : as.length = rs.length) (h : ∀ i (h1 : i < as.length) (h2 : i < rs.length), H as[i] = some (.tup (rs[i].map V.int))) (ht : H t = some (.tup (r.map V.int))) :
    TupsAt (upd H l (.lst (as.map V.ref ++ [V.ref t]))) l (rs ++ [r]) := by
  refine ⟨as ++ [t], by rw [upd_same]; simp, by simp [hl], fun i i1 i2 => ?_⟩
  have ne : ∀ (a : Addr) (xs : List V), H a = some (.tup xs) → a ≠ l := fun a xs h1 z => by rw [z, e] at h1; cases h1
  by_cases z : i < as.length
  · have h3 := h i z (by omega)
    rw [List.getElem_append_left z, List.getElem_append_left (show i < rs.length by omega), upd_ne (ne _ _ h3)]
    exact h3
  · have e1 : i = as.length := by simp at i1; omega
    subst e1
    rw [upd_ne (by simpa using ne _ _ ht)]
    simp [hl, ht]
theorem TupsAt.isL {K : Frag} {H : Hp} {l : Addr} {rs : List (List Int)} (R : TupsAt H l rs) : IsL K H (IsT K H IsI) (.ref l) rs := by
  obtain ⟨as, h1, h2, h3⟩ := R
  refine ⟨l, _, rfl, SqL.of h1, by simp [h2], fun j x y e1 e2 => ?_⟩
  have j2 := (List.getElem?_eq_some_iff.mp e2).1
  have j1 : j < as.length := by omega
  rw [List.getElem?_map, List.getElem?_eq_getElem j1] at e1
  rw [List.getElem?_eq_getElem j2] at e2
  cases e1
  cases e2
  exact isT_ints (SqT.of (h3 j j1 j2))
end L2


set_option Elab.async false
set_option linter.all false
set_option maxRecDepth 100000
set_option maxHeartbeats 1000000
namespace L2
open PySem PySem.Spec PyProof.Rows PySem.W
def Once (k : Nat) (ss ls : List Int) : Prop := ss = ((List.range k).map fun (j : Nat) => (j : Int)).filter (fun j => decide (j ∉ ls)) ∧ ls = ((List.range k).map fun (j : Nat) => (j : Int)).filter (fun j => decide (j ∈ ls))
instance (k : Nat) (ss ls : List Int) : Decidable (Once k ss ls) := inferInstanceAs (Decidable (_ ∧ _))
theorem TupsAt.walk {K : Frag} {H1 : Hp} {d : Addr} {rs : List (List Int)} (R : TupsAt H1 d rs) : (∀ i H, Same H1 H → i < rs.length → (Itl K d).go i H) ∧ (∀ H, Same H1 H → (Itl K d).stop rs.length H) ∧
    ∀ i x H H' (h : i < rs.length), Same H1 H → (Itl K d).yld i H x H' → H' = H ∧ ∃ a, x = .ref a ∧ H a = some (.tup (rs[i].map V.int)) := by
  obtain ⟨as, e, hl, hh⟩ := R
  refine ⟨fun i H s hi => ⟨_, V.ref (as[i]'(by omega)), SqL.of (s _ _ e), by simp [show i < as.length by omega]⟩, fun H s => ⟨_, SqL.of (s _ _ e), by simp [hl]⟩, fun i x H H' hi s y => ?_⟩
  obtain ⟨e1, y⟩ := y
  have h1 := y _ (SqL.of (s _ _ e))
  rw [List.getElem?_map, List.getElem?_eq_getElem (show i < as.length by omega)] at h1
  cases h1
  exact ⟨e1, _, rfl, s _ _ (hh i (by omega) hi)⟩
theorem TupsAt.sq {K : Frag} {H : Hp} {l : Addr} {rs : List (List Int)} (R : TupsAt H l rs) : ∃ xs, SqL K H l xs := by
  obtain ⟨as, e, _⟩ := R
  exact ⟨_, SqL.of e⟩
end L2


set_option Elab.async false
set_option linter.all false
set_option maxRecDepth 100000
set_option maxHeartbeats 1000000
namespace L2
open PySem PySem.Spec PyProof.Rows PySem.W

theorem KinD.trans {f g h : Nat → Int} {n : Nat} (a : KinD f g n) (b : KinD g h n) : KinD f h n := fun i hi => (a i hi).trans (b i hi)
theorem kinD_trees {ns ms T : List Int} (h1 : TreeIs ns T) (h2 : TreeIs ms T) : KinD (nth ns) (nth ms) ns.length := by
  have e : ns.length = ms.length := h1.1.symm.trans h2.1
  exact ((kin_iff h1 h2).mpr ⟨e, rfl⟩).2.kinD
section
variable {X : Cx}
end
end L2


set_option Elab.async false
set_option linter.all false
set_option maxRecDepth 100000
set_option maxHeartbeats 1000000
namespace L2
open PySem PySem.Spec PyProof.Rows PySem.W

section
variable {N : Nat} {k : Nat → Int} {cmp : Nat → Nat → (Bool → Shared → Prop) → Shared → Prop} {s : Shared} {p : Array Nat}
def kk (k : Nat → Int) (p : Array Nat) (i : Nat) : Int := k (p.getD i 0)
def SoT (k : Nat → Int) (p : Array Nat) (m : Nat) : Prop := ∀ i j, i ≤ j → j < m → kk k p i ≤ kk k p j
def DeT (k : Nat → Int) (p : Array Nat) (m : Nat) : Prop := ∀ i j, i ≤ j → j < m → kk k p j ≤ kk k p i
def Bd (N : Nat) (p : Array Nat) : Prop := p.Perm (List.range N).toArray
theorem Bd.size (h : Bd N p) : p.size = N := by
  have := (Array.perm_iff_toList_perm.mp h).length_eq
  simpa using this
theorem Bd.lt (h : Bd N p) (hN : 0 < N) (i : Nat) : p.getD i 0 < N := by
  rw [Array.getD_eq_getD_getElem?]
  by_cases hi : i < p.size
  · rw [getElem?_pos p i hi]
    have := (Array.Perm.mem_iff h (a := p[i])).mp (Array.getElem_mem hi)
    simpa using this
  · rw [getElem?_neg p i hi]; exact hN
theorem SoT.next {m : Nat} (h : SoT k p m) (h1 : 1 ≤ m) (h2 : kk k p (m - 1) ≤ kk k p m) : SoT k p (m + 1) := by
  intro i j hij hj
  by_cases e : j = m
  · subst e
    by_cases e2 : i = j
    · rw [e2]; exact Int.le_refl _
    · exact Int.le_trans (h i (j - 1) (by omega) (by omega)) h2
  · exact h i j hij (by omega)
theorem DeT.next {m : Nat} (h : DeT k p m) (h1 : 1 ≤ m) (h2 : kk k p m ≤ kk k p (m - 1)) : DeT k p (m + 1) := by
  intro i j hij hj
  by_cases e : j = m
  · subst e
    by_cases e2 : i = j
    · rw [e2]; exact Int.le_refl _
    · exact Int.le_trans h2 (h i (j - 1) (by omega) (by omega))
  · exact h i j hij (by omega)
end
end L2


set_option Elab.async false
set_option linter.all false
set_option maxRecDepth 100000
set_option maxHeartbeats 1000000
namespace L2
open PySem PySem.Spec PyProof.Rows PySem.W

section
variable {prog : Program} {w : World} {E : Value → Shared → Prop} {s : Shared}
def Pr (h : Heap) (v : Value) (x y : Int) : Prop := ∃ a o n t u, v = .ref a ∧ h.get? a = some o ∧ o.cls = .type "tuple" ∧ o.data = .seq #[.int x t, .int y u] n
theorem Pr.keep {h h' : Heap} {v : Value} {x y : Int} (p : Pr h v x y) (k : ∀ b o, h.get? b = some o → h'.get? b = some o) : Pr h' v x y := by
  obtain ⟨a, o, n, t, u, e, g, r⟩ := p
  exact ⟨a, o, n, t, u, e, k _ _ g, r⟩
end
section
variable {X : Cx}
def pairK (r : List Int) : Int := r.getD 0 0 * 100000 + r.getD 1 0
def rSortT (K : Frag) : List V → Hp → VK → Prop := fun xs H Q => ∃ (p : Addr) (rs : List (List Int)), xs = [.ref p] ∧ TupsAt H p rs ∧ (∀ r ∈ rs, ∃ x y, r = [x, y] ∧ 0 ≤ y ∧ y < 100000) ∧ rs.length < 64 ∧ ∀ (rs' : List (List Int)) (l : Addr) (H' : Hp), rs'.Perm rs → rs'.Pairwise (fun r r' => pairK r ≤ pairK r') → H l = none → Same H H' → TupsAt H' l rs' → Q (.ref l) H'
end
end L2


set_option Elab.async false
set_option linter.all false
set_option maxRecDepth 100000
set_option maxHeartbeats 1000000
namespace L2
open PySem PySem.Spec PyProof.Rows PySem.W

theorem spine_congr {f g : Nat → Int} {i : Nat} {S : List Nat} (h : ∀ q, q < i → f q = g q) (hs : Spine f i S) : Spine g i S := by
  refine ⟨hs.1, fun q => (hs.2 q).trans ⟨fun ⟨h1, h2⟩ => ⟨h1, fun r r1 r2 => by rw [← h q h1, ← h r r2]; exact h2 r r1 r2⟩, fun ⟨h1, h2⟩ => ⟨h1, fun r r1 r2 => by rw [h q h1, h r r2]; exact h2 r r1 r2⟩⟩⟩
theorem elder_congr {f g : Nat → Int} {i p : Nat} {e : Int} (h : ∀ q, q < i → f q = g q) (hp : p < i) (he : ElderIs f i p e) : ElderIs g i p e := by
  have c1 : NoPrev f p → NoPrev g p := fun z q hq => by rw [← h p hp, ← h q (by omega)]; exact z q hq
  have c2 : NoNext f i p → NoNext g i p := fun z r r1 r2 => by rw [← h p hp, ← h r r2]; exact z r r1 r2
  have c3 : ∀ q, IsPrev f p q → IsPrev g p q := fun q ⟨z1, z2, z3⟩ => ⟨z1, by rw [← h p hp, ← h q (by omega)]; exact z2, fun r r1 r2 => by rw [← h p hp, ← h r (by omega)]; exact z3 r r1 r2⟩
  have c4 : ∀ r, IsNext f i p r → IsNext g i p r := fun r ⟨z1, z2, z3, z4⟩ => ⟨z1, z2, by rw [← h p hp, ← h r z2]; exact z3, fun s s1 s2 => by rw [← h p hp, ← h s (by omega)]; exact z4 s s1 s2⟩
  rcases he with ⟨a, b, c⟩ | ⟨q, a, b, c⟩ | ⟨r, a, b, c⟩ | ⟨q, r, a, b, c⟩
  · exact .inl ⟨c1 a, c2 b, c⟩
  · exact .inr (.inl ⟨q, c3 q a, c2 b, c⟩)
  · exact .inr (.inr (.inl ⟨r, c1 a, c4 r b, c⟩))
  · exact .inr (.inr (.inr ⟨q, r, c3 q a, c4 r b, by rw [← h q (Nat.lt_trans a.1 hp), ← h r b.2.1]; exact c⟩))

def Hung (n i : Nat) (S : List Nat) (es : List Int) : Prop := ∃ f : Nat → Int, Spine f i S ∧ S.Pairwise (fun q r => f q + 2 ^ (n - i) ≤ f r) ∧ ∀ p, p < i → ElderIs f i p (es.getD p 0)
theorem Hung.lt {n i : Nat} {S : List Nat} {es : List Int} (h : Hung n i S es) : ∀ q ∈ S, q < i := by
  obtain ⟨f, hS, _⟩ := h
  exact fun q hq => ((hS.2 q).mp hq).1
theorem Hung.len {n i : Nat} {S : List Nat} {es : List Int} (h : Hung n i S es) : S.length ≤ i := by
  have hl := h.lt
  obtain ⟨f, hS, _⟩ := h
  rcases pw_len S i 0 hS.1 (fun q hq => ⟨Nat.zero_le _, hl q hq⟩) with z | z
  · omega
  · rw [z]; simp
theorem Hung.step {n i : Nat} {A B : List Nat} {es : List Int} (h : Hung n i (A ++ B) es) (hi : i < n) (hl : es.length = n) (he : es.getD i 0 = -1) : Hung n (i + 1) (A ++ [i]) (setE es A B i) := by
  have hlt := h.lt
  obtain ⟨f, hS, hg, hE⟩ := h
  have eD : (2 : Int) ^ (n - i) = 2 * 2 ^ (n - (i + 1)) := by
    rw [show n - i = n - (i + 1) + 1 by omega, Int.pow_succ, Int.mul_comm]
  have pD : (0 : Int) < 2 ^ (n - (i + 1)) := Int.pow_pos (by decide)
  rw [eD] at hg
  generalize hDD : (2 : Int) ^ (n - (i + 1)) = D at hg pD
  have hgA := (List.pairwise_append.mp hg).1
  have hgB := (List.pairwise_append.mp hg).2.1
  have hgX := (List.pairwise_append.mp hg).2.2
  obtain ⟨v, vA, vB⟩ : ∃ v : Int, (∀ q ∈ A, f q + D ≤ v) ∧ ∀ q ∈ B, v < f q := by
    cases B with
    | cons b Br =>
      refine ⟨f b - D, fun q hq => ?_, fun q hq => ?_⟩
      · have := hgX q hq b (by simp); omega
      · rcases List.mem_cons.mp hq with rfl | hq
        · omega
        · have := (List.pairwise_cons.mp hgB).1 q hq; omega
    | nil =>
      rcases snoc_cases A with rfl | ⟨A', a, rfl⟩
      · exact ⟨0, (fun q hq => by cases hq), fun q hq => by cases hq⟩
      · refine ⟨f a + D, fun q hq => ?_, fun q hq => by cases hq⟩
        rcases List.mem_append.mp hq with hq | hq
        · have := (List.pairwise_append.mp hgA).2.2 q hq a (by simp); omega
        · rw [List.mem_singleton.mp hq]; omega
  have hag : ∀ q, q < i → f q = (if q = i then v else f q) := fun q hq => by rw [if_neg (by omega)]
  have gi : (fun q => if q = i then v else f q) i = v := if_pos rfl
  have gq : ∀ q, q < i → (fun q => if q = i then v else f q) q = f q := fun q hq => if_neg (by omega)
  generalize (fun q => if q = i then v else f q) = g at gi gq
  have hag : ∀ q, q < i → f q = g q := fun q hq => (gq q hq).symm
  have lA : ∀ q ∈ A, q < i := fun q hq => hlt q (List.mem_append_left _ hq)
  have lB : ∀ q ∈ B, q < i := fun q hq => hlt q (List.mem_append_right _ hq)
  have SS := spine_step (f := g) (i := i) (A := A) (B := B) (spine_congr hag hS) (fun q hq => by rw [gi, gq q (lA q hq)]; have := vA q hq; omega) (fun q hq => by rw [gi, gq q (lB q hq)]; exact vB q hq)
  refine ⟨g, SS.1, ?_, fun p hp => ?_⟩
  · rw [hDD]
    refine List.pairwise_append.mpr ⟨?_, List.pairwise_singleton _ _, fun q hq r hr => ?_⟩
    · refine hgA.imp_of_mem fun {q r} hq hr z => ?_
      rw [gq q (lA q hq), gq r (lA r hr)]; omega
    · rw [List.mem_singleton.mp hr, gi, gq q (lA q hq)]; exact vA q hq
  · have hbi : ∀ b, B.head? = some b → b ≠ i := fun b hb => by
      have := lB b (List.mem_of_head? hb); omega
    rw [setE_at _ _ _ _ _ (by omega) hbi]
    by_cases z : p = i
    · subst z
      rw [if_pos rfl, he]; exact SS.2.1
    · rw [if_neg z]
      exact SS.2.2 p _ (by omega) (elder_congr hag (by omega) (hE p (by omega)))
theorem Hung.tree {n : Nat} {S : List Nat} {es : List Int} (h : Hung n n S es) (hl : es.length = n) : ∃ ns, TreeIs ns es := by
  obtain ⟨f, _, _, hE⟩ := h
  refine ⟨(List.range n).map f, by simp [hl], fun p hp => ?_⟩
  have hp : p < n := by simpa using hp
  have := hE p hp
  rw [show ((List.range n).map f).length = n by simp]
  exact elder_congr (f := f) (fun q hq => (map_range_nth hq).symm) hp this
def openN (ds : List Nat) : Nat → Nat
  | 0 => 0
  | k + 1 => openN ds k - ds.getD k 0 + 1
def DropsOk (ds : List Nat) : Prop := ∀ k, k < ds.length → ds.getD k 0 ≤ openN ds k
theorem openN_app (ds : List Nat) (d : Nat) : ∀ k, k ≤ ds.length → openN (ds ++ [d]) k = openN ds k
  | 0, _ => rfl
  | k + 1, h => by
    unfold openN
    rw [openN_app ds d k (by omega)]
    congr 2
    simp [List.getD_eq_getElem?_getD, List.getElem?_append_left (show k < ds.length by omega)]
theorem DropsOk.snoc {ds : List Nat} {d : Nat} (h : DropsOk ds) (hd : d ≤ openN ds ds.length) : DropsOk (ds ++ [d]) := by
  intro k hk
  rw [openN_app ds d k (by simp at hk; omega)]
  by_cases e : k = ds.length
  · subst e
    simpa [List.getD_eq_getElem?_getD] using hd
  · have hk2 : k < ds.length := by simp at hk; omega
    have := h k hk2
    simpa [List.getD_eq_getElem?_getD, List.getElem?_append_left hk2] using this
theorem natsV_snoc (l : List Nat) (y : Nat) : atI (natsV (l ++ [y])) (-1) = some (V.int (y : Nat)) := by
  have := natsV_last (bs := l ++ [y]) (i := l.length) (by simp)
  rw [this]; simp [List.getD_eq_getElem?_getD]
end L2
namespace L2
open PySem PySem.Spec PyProof.Rows PySem.W
section
variable {X : Cx}
end
end L2
namespace L2
open PySem PySem.Spec PyProof.Rows PySem.W
theorem TupsAt.keep {H H' : Hp} {l : Addr} {rs : List (List Int)} (R : TupsAt H l rs) (h1 : ∀ xs, H l = some (.lst xs) → H' l = some (.lst xs)) (h2 : ∀ a xs, H a = some (.tup xs) → H' a = some (.tup xs)) : TupsAt H' l rs := by
  obtain ⟨as, e, hl, h⟩ := R
  exact ⟨as, h1 _ e, hl, fun i i1 i2 => h2 _ _ (h i i1 i2)⟩
theorem TupsAt.exc {H H' : Hp} {l p : Addr} {rs : List (List Int)} (R : TupsAt H l rs) (e : Exc p H H') (P : PoolAt H p) (n : l ≠ p) : TupsAt H' l rs := by
  obtain ⟨x, y, hp, _⟩ := P
  exact R.keep (fun xs h => e _ _ n h) fun a xs h => e _ _ (fun z => by rw [z, hp] at h; cases h) h
end L2


set_option Elab.async false
set_option linter.all false
set_option maxRecDepth 100000
set_option maxHeartbeats 1000000
namespace L2
open PySem PySem.Spec PyProof.Rows PySem.W

end L2


set_option Elab.async false
set_option linter.all false
set_option maxRecDepth 100000
set_option maxHeartbeats 1000000
namespace L2
open PySem PySem.Spec PyProof.Rows PySem.W

theorem next_or (f : Nat → Int) (n p : Nat) : NoNext f n p ∨ ∃ r, IsNext f n p r := by
  by_cases h : ∀ j, j < n - (p + 1) → f p ≤ f (p + 1 + j)
  · exact .inl fun r h1 h2 => by
      have := h (r - (p + 1)) (by omega)
      rwa [show p + 1 + (r - (p + 1)) = r by omega] at this
  · obtain ⟨j, hj, h1, h2⟩ := first_not _ h
    refine .inr ⟨p + 1 + j, by omega, by omega, by omega, fun s s1 s2 => ?_⟩
    have := h2 (s - (p + 1)) (by omega)
    rwa [show p + 1 + (s - (p + 1)) = s by omega] at this
end L2


set_option Elab.async false
set_option linter.all false
set_option maxRecDepth 100000
set_option maxHeartbeats 1000000
namespace L2
open PySem PySem.Spec PyProof.Rows PySem.W

section
variable {X : Cx}
end

def rSlU (K : Frag) : V → Option Int → Option Int → Hp → VK → Prop := fun x lo hi H Q => ∃ a xs, x = .ref a ∧ SqT K H a xs ∧ ∀ p H', Same H H' → SqT K H' p (cutV xs lo hi) → Q (.ref p) H'
theorem TupsAt.at {K : Frag} {H : Hp} {l : Addr} {rs : List (List Int)} {p : Nat} (R : TupsAt H l rs) (h : p < rs.length) : ∃ xs a, SqL K H l xs ∧ atI xs (p : Int) = some (V.ref a) ∧ H a = some (.tup (rs[p].map V.int)) := by
  obtain ⟨as, e, hl, ht⟩ := R
  refine ⟨as.map V.ref, as[p]'(by omega), SqL.of e, ?_, ht p (by omega) h⟩
  rw [atI_at rfl (by rw [List.length_map]; omega)]; simp

end L2


set_option Elab.async false
set_option linter.all false
set_option maxRecDepth 100000
set_option maxHeartbeats 1000000
namespace L2
open PySem PySem.Spec PyProof.Rows PySem.W

def NextAt (f : Nat → Int) (p k : Nat) : Prop := p < k ∧ f k < f p ∧ ∀ s, p < s → s < k → f p ≤ f s
open Classical in

noncomputable def dropAt (f : Nat → Int) (k : Nat) : Nat := (List.range k).countP fun p => decide (NextAt f p k)
theorem count_mem {B : List Nat} {n : Nat} (hB : B.Nodup) (hlt : ∀ q ∈ B, q < n) : (List.range n).countP (fun p => decide (p ∈ B)) = B.length := by
  rw [List.countP_eq_length_filter]
  refine List.Perm.length_eq ((List.perm_ext_iff_of_nodup (List.nodup_range.filter _) hB).mpr fun a => ?_)
  rw [List.mem_filter, List.mem_range, decide_eq_true_iff]
  exact ⟨fun h => h.2, fun h => ⟨hlt a h, h⟩⟩
theorem spine_drop {f : Nat → Int} {i : Nat} {A B : List Nat} (hs : Spine f i (A ++ B)) (hA : ∀ q ∈ A, f q ≤ f i) (hB : ∀ q ∈ B, f i < f q) : dropAt f i = B.length := by
  have hm : ∀ p, NextAt f p i ↔ p ∈ B := fun p => by
    constructor
    · rintro ⟨h1, h2, h3⟩
      rcases List.mem_append.mp ((hs.2 p).mpr ⟨h1, h3⟩) with z | z
      · have := hA p z; omega
      · exact z
    · intro z
      obtain ⟨h1, h2⟩ := (hs.2 p).mp (List.mem_append_right _ z)
      exact ⟨h1, hB p z, h2⟩
  have nd : B.Nodup := (List.pairwise_append.mp hs.1).2.1.imp fun h => Nat.ne_of_lt h
  have hlt : ∀ q ∈ B, q < i := fun q hq => ((hs.2 q).mp (List.mem_append_right _ hq)).1
  unfold dropAt
  rw [← count_mem nd hlt]
  refine List.countP_congr fun p _ => ?_
  simp [hm p]
theorem dropAt_congr {f g : Nat → Int} {k : Nat} (h : ∀ q, q ≤ k → f q = g q) : dropAt f k = dropAt g k := by
  unfold dropAt
  refine List.countP_congr fun p hp => ?_
  have hp := List.mem_range.mp hp
  simp only [decide_eq_true_eq]
  constructor
  · rintro ⟨a, b, c⟩
    exact ⟨a, by rw [← h k (Nat.le_refl _), ← h p (by omega)]; exact b, fun s s1 s2 => by rw [← h p (by omega), ← h s (by omega)]; exact c s s1 s2⟩
  · rintro ⟨a, b, c⟩
    exact ⟨a, by rw [h k (Nat.le_refl _), h p (by omega)]; exact b, fun s s1 s2 => by rw [h p (by omega), h s (by omega)]; exact c s s1 s2⟩
def HungD (n i : Nat) (S : List Nat) (es : List Int) (ds : List Nat) : Prop := ∃ f : Nat → Int, Spine f i S ∧ S.Pairwise (fun q r => f q + 2 ^ (n - i) ≤ f r) ∧ (∀ p, p < i → ElderIs f i p (es.getD p 0)) ∧ ∀ k, k < i → dropAt f k = ds.getD k 0
theorem HungD.lt {n i : Nat} {S ds : List Nat} {es : List Int} (h : HungD n i S es ds) : ∀ q ∈ S, q < i := by
  obtain ⟨f, hS, _⟩ := h
  exact fun q hq => ((hS.2 q).mp hq).1
theorem HungD.step {n i : Nat} {A B ds : List Nat} {es : List Int} (h : HungD n i (A ++ B) es ds) (hi : i < n) (hl : es.length = n) (he : es.getD i 0 = -1) (hd : ds.getD i 0 = B.length) : HungD n (i + 1) (A ++ [i]) (setE es A B i) ds := by
  have hlt := h.lt
  obtain ⟨f, hS, hg, hE, hD⟩ := h
  have eD : (2 : Int) ^ (n - i) = 2 * 2 ^ (n - (i + 1)) := by
    rw [show n - i = n - (i + 1) + 1 by omega, Int.pow_succ, Int.mul_comm]
  have pD : (0 : Int) < 2 ^ (n - (i + 1)) := Int.pow_pos (by decide)
  rw [eD] at hg
  generalize hDD : (2 : Int) ^ (n - (i + 1)) = D at hg pD
  have hgA := (List.pairwise_append.mp hg).1
  have hgB := (List.pairwise_append.mp hg).2.1
  have hgX := (List.pairwise_append.mp hg).2.2
  obtain ⟨v, vA, vB⟩ : ∃ v : Int, (∀ q ∈ A, f q + D ≤ v) ∧ ∀ q ∈ B, v < f q := by
    cases B with
    | cons b Br =>
      refine ⟨f b - D, fun q hq => ?_, fun q hq => ?_⟩
      · have := hgX q hq b (by simp); omega
      · rcases List.mem_cons.mp hq with rfl | hq
        · omega
        · have := (List.pairwise_cons.mp hgB).1 q hq; omega
    | nil =>
      rcases snoc_cases A with rfl | ⟨A', a, rfl⟩
      · exact ⟨0, (fun q hq => by cases hq), fun q hq => by cases hq⟩
      · refine ⟨f a + D, fun q hq => ?_, fun q hq => by cases hq⟩
        rcases List.mem_append.mp hq with hq | hq
        · have := (List.pairwise_append.mp hgA).2.2 q hq a (by simp); omega
        · rw [List.mem_singleton.mp hq]; omega
  have gi : (fun q => if q = i then v else f q) i = v := if_pos rfl
  have gq : ∀ q, q < i → (fun q => if q = i then v else f q) q = f q := fun q hq => if_neg (by omega)
  generalize (fun q => if q = i then v else f q) = g at gi gq
  have hag : ∀ q, q < i → f q = g q := fun q hq => (gq q hq).symm
  have lA : ∀ q ∈ A, q < i := fun q hq => hlt q (List.mem_append_left _ hq)
  have lB : ∀ q ∈ B, q < i := fun q hq => hlt q (List.mem_append_right _ hq)
  have sA : ∀ q ∈ A, g q ≤ g i := fun q hq => by rw [gi, gq q (lA q hq)]; have := vA q hq; omega
  have sB : ∀ q ∈ B, g i < g q := fun q hq => by rw [gi, gq q (lB q hq)]; exact vB q hq
  have SS := spine_step (f := g) (i := i) (A := A) (B := B) (spine_congr hag hS) sA sB
  refine ⟨g, SS.1, ?_, fun p hp => ?_, fun k hk => ?_⟩
  · rw [hDD]
    refine List.pairwise_append.mpr ⟨?_, List.pairwise_singleton _ _, fun q hq r hr => ?_⟩
    · refine hgA.imp_of_mem fun {q r} hq hr z => ?_
      rw [gq q (lA q hq), gq r (lA r hr)]; omega
    · rw [List.mem_singleton.mp hr, gi, gq q (lA q hq)]; exact vA q hq
  · have hbi : ∀ b, B.head? = some b → b ≠ i := fun b hb => by
      have := lB b (List.mem_of_head? hb); omega
    rw [setE_at _ _ _ _ _ (by omega) hbi]
    by_cases z : p = i
    · subst z
      rw [if_pos rfl, he]; exact SS.2.1
    · rw [if_neg z]
      exact SS.2.2 p _ (by omega) (elder_congr hag (by omega) (hE p (by omega)))
  · by_cases z : k = i
    · subst z
      rw [hd]; exact spine_drop (spine_congr hag hS) sA sB
    · rw [← dropAt_congr (f := f) (g := g) (k := k) (fun q hq => hag q (by omega))]
      exact hD k (by omega)

end L2


set_option Elab.async false
set_option linter.all false
set_option maxRecDepth 100000
set_option maxHeartbeats 1000000
namespace L2
open PySem PySem.Spec PyProof.Rows PySem.W

end L2
namespace L2
open PySem PySem.Spec PyProof.Rows PySem.W

section
variable {prog : Program} {w : World} {A : Around} {E : Value → Shared → Prop} {s : Shared}
end
def Itrv (lo : Int) (n : Nat) : It := ⟨fun i _ => i < n, fun i H x H' => H' = H ∧ x = .int (lo + n - 1 - i), fun i _ => n ≤ i⟩
section
variable {X : Cx} {tg : Expr}
def iRevR (ta : TA) : TI := fun σ H R => ta σ H fun vs H1 => ∃ (a : Addr) (lo hi : Int), vs = [.ref a] ∧ H1 a = some (.rng lo hi) ∧ -(2 ^ 62) ≤ lo ∧ lo < 2 ^ 62 ∧ -(2 ^ 62) ≤ hi ∧ hi < 2 ^ 62 ∧ R (Itrv lo (hi - lo).toNat) H1
end
end L2
namespace L2

end L2


set_option Elab.async false
set_option linter.all false
set_option maxRecDepth 100000
set_option maxHeartbeats 1000000
namespace L2
open PySem PySem.Spec PyProof.Rows PySem.W
section
variable {X : Cx}

def rMulS : R2 := fun x y H Q => ∃ (i : Str) (n : Int), x = .str i ∧ y = .int n ∧ -1000 ≤ n ∧ n ≤ 1000 ∧ i.length ≤ 1000 ∧ Q (.str (Txt.mul i n)) H
def rJoin (K : Frag) : V → List V → Hp → VK → Prop := fun x xs H Q => ∃ (sep : Str) (a : Addr) (ss : List Str), x = .str sep ∧ xs = [.ref a] ∧ SqL K H a (ss.map V.str) ∧ JoinOk sep ss = true ∧ Q (.str (Txt.join sep ss)) H
def Its (x : Str) : It := ⟨fun i _ => i < x.cps.size, fun i H v H' => H' = H ∧ ∃ c, x.cps[i]? = some c ∧ v = .str ⟨#[c]⟩, fun i _ => x.cps.size ≤ i⟩
def iStr (tl : TE) : TI := fun σ H R => tl σ H fun x H1 => ∃ y : Str, x = .str y ∧ y.cps.all (· < 128) = true ∧ R (Its y) H1
end

end L2
namespace L2
open PySem PySem.Spec PyProof.Rows PySem.W
end L2
namespace L2
open PySem PySem.Spec PyProof.Rows PySem.W

def rSumT (K : Frag) : List V → Hp → VK → Prop := fun xs H Q => ∃ (p : Addr) (ns : List Int), xs = [.ref p] ∧ SqT K H p (ns.map V.int) ∧ Q (.int ns.sum) H
end L2


set_option Elab.async false
set_option linter.all false
set_option maxRecDepth 100000
set_option maxHeartbeats 1000000
namespace L2
open PySem PySem.Spec PyProof.Rows PySem.W
section
variable {X : Cx}

end
end L2


set_option Elab.async false
set_option linter.all false
set_option maxRecDepth 100000
set_option maxHeartbeats 1000000
namespace L2
open PySem PySem.Spec PyProof.Rows PySem.W
section
variable {X : Cx}

def rCountS : V → List V → Hp → VK → Prop := fun x xs H Q => ∃ a b : Str, x = .str a ∧ xs = [.str b] ∧ Q (.int (Txt.count a b)) H
def rRstrip : V → List V → Hp → VK → Prop := fun x xs H Q => ∃ a b : Str, x = .str a ∧ xs = [.str b] ∧ a.length ≤ sizeLine ∧ Q (.str (Txt.rstripChars a b)) H
def rLenS : List V → Hp → VK → Prop := fun xs H Q => ∃ a : Str, xs = [.str a] ∧ a.length ≤ sizeLine ∧ Q (.int (a.length : Nat)) H
end

end L2


set_option Elab.async false
set_option linter.all false
set_option maxRecDepth 100000
set_option maxHeartbeats 1000000
namespace L2

def Ok : Nat → List Nat → Prop
  | _, [] => True
  | st, d :: ds => d ≤ st ∧ Ok (st - d + 1) ds
end L2
namespace L2

end L2
namespace L2
end L2
namespace L2
open PySem PySem.Spec PyProof.Rows PySem.W
end L2


set_option Elab.async false
set_option linter.all false
set_option maxRecDepth 100000
set_option maxHeartbeats 1000000
namespace L2
open PySem PySem.Spec PyProof.Rows PySem.W

section
variable {X : Cx}
def rRepU : R2 := fun x y H Q => ∃ (a : Addr) (n : Int) (xs : List V), x = .ref a ∧ y = .int n ∧ H a = some (.tup xs) ∧ xs ≠ [] ∧ xs.length ≤ 1000 ∧ -1000 ≤ n ∧ n < 1000 ∧ ∀ (p : Addr) H', Same H H' → H' p = some (.tup (List.replicate n.toNat xs).flatten) → Q (.ref p) H'
end
end L2


set_option Elab.async false
set_option linter.all false
set_option maxRecDepth 100000
set_option maxHeartbeats 1000000
namespace L2
end L2


set_option Elab.async false
set_option linter.all false
set_option maxRecDepth 100000
set_option maxHeartbeats 1000000

namespace L2
open PySem PySem.Spec PyProof.Rows PySem.W
end L2


set_option Elab.async false
set_option linter.all false
set_option maxRecDepth 100000
set_option maxHeartbeats 1000000

namespace L2
open PySem PySem.Spec PyProof.Rows PySem.W
section
variable {X : Cx}
def rRemP : V → List V → Hp → VK → Prop := fun x xs H Q => ∃ a b : Str, x = .str a ∧ xs = [.str b] ∧ a.length ≤ sizeLine ∧ Q (.str (Txt.removeprefix a b)) H
def rIsAsc : V → List V → Hp → VK → Prop := fun x xs H Q => ∃ a : Str, x = .str a ∧ xs = [] ∧ Q (.bl (Txt.isascii a)) H
def rIsDig : V → List V → Hp → VK → Prop := fun x xs H Q => ∃ a : Str, x = .str a ∧ xs = [] ∧ Q (.bl (Txt.isdigit a)) H
def rStarts : V → List V → Hp → VK → Prop := fun x xs H Q => ∃ a b : Str, x = .str a ∧ xs = [.str b] ∧ Q (.bl (Txt.startswith a b)) H
def rStrI : List V → Hp → VK → Prop := fun xs H Q => ∃ i : Int, xs = [.int i] ∧ i.natAbs.log2 < 1920 ∧ Q (.str (Str.ofString (toString i))) H
def rIntS : List V → Hp → VK → Prop := fun xs H Q => ∃ (a : Str) (n : Int), xs = [.str a] ∧ PySem.intText? a = some n ∧ a.length ≤ 640 ∧ Q (.int n) H
def rSplit : V → List V → Hp → VK → Prop := fun x xs H Q => ∃ a b : Str, x = .str a ∧ xs = [.str b] ∧ (b.length == 0) = false ∧ a.length ≤ 100000 ∧ ∀ p, H p = none → Q (.ref p) (upd H p (.lst ((Txt.split a b).map V.str)))
end
end L2
namespace L2
open PySem PySem.Spec PyProof.Rows PySem.W

abbrev cds (x : Str) : List Nat := x.cps.toList
def dg (m : Nat) : List Nat := (Nat.toDigits 10 m).map Char.toNat
def numS (i : Int) : Str := Str.ofString (toString i)
structure NumFacts (i : Int) : Prop where
  len : (numS i).length ≤ 61
  fig : ∃ m, cds (Txt.removeprefix (numS i) (Str.ofString "-")) = dg m ∧ (m = 0 → i = 0) ∧ m < 10 ^ 60
  val : PySem.intText? (numS i) = some i
end L2


set_option Elab.async false
set_option linter.all false
set_option maxRecDepth 100000
set_option maxHeartbeats 1000000

namespace L2
open PySem PySem.Spec PyProof.Rows PySem.W

section
variable {X : Cx} {a : Expr} {ta : TE} {pos : Pos}

def tFldC (C : Addr) (ta : TE) (f : Str) : TE := fun σ H Q => ta σ H fun x H1 => ∃ (o dx : Addr) (fs : List (Str × V)) (v : V), x = .ref o ∧ H1 o = some (.ins C dx fs) ∧ fs.lookup f = some v ∧ Q v H1
def sFldC (C : Addr) (ta tv : TE) (f : Str) : TS := fun D σ H => tv σ H fun y H1 => ta σ H1 fun x H2 => ∃ (o dx : Addr) (fs : List (Str × V)), x = .ref o ∧ H2 o = some (.ins C dx fs) ∧ fs.length < 1000 ∧ D.nx σ (upd H2 o (.ins C dx (putF f y fs)))
end
end L2


set_option Elab.async false
set_option linter.all false
set_option maxRecDepth 100000
set_option maxHeartbeats 1000000
namespace L2
open PySem PySem.Spec PyProof.Rows

section
variable {κ : Type} [DecidableEq κ]
def valV (kvs : List (κ × V)) (k : κ) : Option V := (kvs.find? fun kv => decide (kv.1 = k)).map (·.2)

def putK (kvs : List (κ × V)) (k : κ) (v : V) : List (κ × V) :=
  if (kvs.any fun kv => decide (kv.1 = k)) = true then kvs.map (fun kv => if kv.1 = k then (kv.1, v) else kv) else kvs ++ [(k, v)]
def dropK (kvs : List (κ × V)) (k : κ) : List (κ × V) := kvs.filter fun kv => decide (kv.1 ≠ k)

theorem valV_pos {p : κ × V} {r : List (κ × V)} {k : κ} (e : p.1 = k) : valV (p :: r) k = some p.2 := by simp [valV, List.find?_cons, e]
theorem valV_neg {p : κ × V} {r : List (κ × V)} {k : κ} (e : ¬ p.1 = k) : valV (p :: r) k = valV r k := by simp [valV, List.find?_cons, e]
theorem valV_any (k : κ) : ∀ kvs : List (κ × V), (kvs.any fun kv => decide (kv.1 = k)) = (valV kvs k).isSome
  | [] => rfl
  | p :: r => by
    rw [List.any_cons]
    by_cases e : p.1 = k
    · simp only [valV_pos e, decide_eq_true e, Bool.true_or, Option.isSome_some]
    · rw [valV_neg e, decide_eq_false e, Bool.false_or]; exact valV_any k r
theorem valV_snoc (k j : κ) (y : V) : ∀ kvs : List (κ × V), valV kvs k = none → valV (kvs ++ [(k, y)]) j = if j = k then some y else valV kvs j
  | [], _ => by
    by_cases e : k = j
    · rw [if_pos e.symm]; exact valV_pos (p := (k, y)) e
    · rw [if_neg (fun z => e z.symm)]; exact valV_neg (p := (k, y)) e
  | p :: r, hn => by
    rw [List.cons_append]
    have hk : ¬ p.1 = k := fun z => by rw [valV_pos z] at hn; cases hn
    rw [valV_neg hk] at hn
    have ih := valV_snoc k j y r hn
    by_cases e : p.1 = j
    · rw [valV_pos e, valV_pos e, if_neg (fun z => hk (e.trans z))]
    · rw [valV_neg e, valV_neg e, ih]
theorem length_putK (kvs : List (κ × V)) (k : κ) (v : V) : (putK kvs k v).length ≤ kvs.length + 1 := by
  unfold putK
  split
  · rw [List.length_map]; omega
  · rw [List.length_append, List.length_cons, List.length_nil]; omega
theorem putK_new {kvs : List (κ × V)} {k : κ} (v : V) (h : valV kvs k = none) : putK kvs k v = kvs ++ [(k, v)] := by
  unfold putK
  rw [valV_any, h]
  exact if_neg (by decide)

theorem RelO.isSome_eq {o : Option V} {u : Option Value} (r : RelO o u) : o.isSome = u.isSome := by
  cases o with
  | none => cases u with
    | none => rfl
    | some _ => exact (show False from r).elim
  | some _ => cases u with
    | none => exact (show False from r).elim
    | some _ => rfl
theorem RelO.getD {o : Option V} {u : Option Value} {d : V} {d' : Value} (r : RelO o u) (rd : RelV d d') : RelV (o.getD d) (u.getD d') := by
  cases o with
  | none => cases u with
    | none => exact rd
    | some _ => exact (show False from r).elim
  | some _ => cases u with
    | none => exact (show False from r).elim
    | some _ => exact r


theorem KV.val {kvs : List (κ × V)} {vs : List (κ × Value)} (r : KV kvs vs) (k : κ) : RelO (valV kvs k) (valueAt vs k) := by
  unfold KV at r
  induction r with
  | nil => exact True.intro
  | @cons p q ps qs h t ih =>
    obtain ⟨h1, h2⟩ := h
    by_cases e : p.1 = k
    · have e' : q.1 = k := h1.symm.trans e
      have b : valueAt (q :: qs) k = some q.2 := by simp [valueAt, List.find?_cons, e']
      rw [valV_pos e, b]; exact h2
    · have e' : ¬ q.1 = k := fun z => e (h1.trans z)
      have b : valueAt (q :: qs) k = valueAt qs k := by simp [valueAt, List.find?_cons, e']
      rw [valV_neg e, b]; exact ih
theorem KV.any {kvs : List (κ × V)} {vs : List (κ × Value)} (r : KV kvs vs) (k : κ) : (kvs.any fun kv => decide (kv.1 = k)) = vs.any fun kv => decide (kv.1 = k) := by
  unfold KV at r
  induction r with
  | nil => rfl
  | cons h t ih => rw [List.any_cons, List.any_cons, ih, h.1]
theorem KV.repl {kvs : List (κ × V)} {vs : List (κ × Value)} (r : KV kvs vs) (k : κ) {y : V} {u : Value} (ry : RelV y u) :
    KV (kvs.map fun kv => if kv.1 = k then (kv.1, y) else kv) (vs.map fun kv => if kv.1 = k then (kv.1, u) else kv) := by
  unfold KV at r ⊢
  induction r with
  | nil => exact .nil
  | @cons p q ps qs h t ih =>
    rw [List.map_cons, List.map_cons]
    refine .cons ?_ ih
    obtain ⟨h1, h2⟩ := h
    by_cases e : p.1 = k
    · rw [if_pos e, if_pos (h1.symm.trans e)]; exact ⟨h1, ry⟩
    · rw [if_neg e, if_neg (fun z => e (h1.trans z))]; exact ⟨h1, h2⟩
theorem KV.put {kvs : List (κ × V)} {vs : List (κ × Value)} (r : KV kvs vs) (k : κ) {y : V} {u : Value} (ry : RelV y u) : KV (putK kvs k y) (stored vs k u) := by
  unfold putK stored
  rw [r.any k]
  by_cases e : (vs.any fun kv => decide (kv.1 = k)) = true
  · rw [if_pos e, if_pos e]; exact r.repl k ry
  · rw [if_neg e, if_neg e]; exact Paired.snoc r ⟨rfl, ry⟩
theorem KV.drop {kvs : List (κ × V)} {vs : List (κ × Value)} (r : KV kvs vs) (k : κ) : KV (dropK kvs k) (without vs k) := by
  unfold KV at r ⊢
  unfold dropK without
  induction r with
  | nil => exact .nil
  | @cons p q ps qs h t ih =>
    obtain ⟨h1, h2⟩ := h
    rw [List.filter_cons, List.filter_cons]
    by_cases e : p.1 = k
    · have a : ¬ decide (p.1 ≠ k) = true := by simp [e]
      have b : ¬ decide (q.1 ≠ k) = true := by simp [h1.symm.trans e]
      rw [if_neg a, if_neg b]; exact ih
    · have e' : ¬ q.1 = k := fun z => e (h1.trans z)
      have a : decide (p.1 ≠ k) = true := by simp [e]
      have b : decide (q.1 ≠ k) = true := by simp [e']
      rw [if_pos a, if_pos b]; exact .cons ⟨h1, h2⟩ ih
theorem KV.keys {kvs : List (κ × V)} {vs : List (κ × Value)} (r : KV kvs vs) : kvs.map (·.1) = vs.map (·.1) := by
  unfold KV at r
  induction r with
  | nil => rfl
  | cons h t ih => rw [List.map_cons, List.map_cons, ih, h.1]
theorem KV.length {kvs : List (κ × V)} {vs : List (κ × Value)} (r : KV kvs vs) : kvs.length = vs.length := Paired.length r
end



theorem kV_is {P : Program} {w : World} {k : Key} {u : Value} (r : RelV (kV k) u) : (mixKind P w).is k u = true := by
  cases k with
  | inl i => obtain ⟨t, e⟩ := (show ∃ t, u = Value.int i t from r); subst e; exact mixKind_int P w i t
  | inr x => obtain ⟨t, e⟩ := (show ∃ t, u = Value.str x t from r); subst e; exact mixKind_str P w x t
theorem items_are {P : Program} {w : World} : ∀ {ks : List Key} {us : List Value}, Vals (ks.map kV) us → ItemsAre (mixKind P w) ks us
  | [], _, r => by rw [List.map_nil] at r; cases r; exact .nil
  | k :: ks, _, r => by
    rw [List.map_cons] at r
    cases r with
    | cons h t => exact .cons (kV_is h) (items_are t)


abbrev KT (H : Hp) : List (List Key × V) → List (List Key × Addr × Value) → Prop := Paired fun p q => p.1 = q.1 ∧ H q.2.1 = some (.tup (p.1.map kV)) ∧ RelV p.2 q.2.2
theorem KT.val {H : Hp} {kvs : List (List Key × V)} {xs : List (List Key × Addr × Value)} (r : KT H kvs xs) (k : List Key) : RelO (valV kvs k) ((atKey xs k).map (·.2)) := by
  induction r with
  | nil => exact True.intro
  | @cons p q ps qs h t ih =>
    obtain ⟨h1, _, h2⟩ := h
    by_cases e : p.1 = k
    · have e' : q.1 = k := h1.symm.trans e
      have b : atKey (q :: qs) k = some q.2 := by simp [atKey, List.find?_cons, e']
      rw [valV_pos e, b]; exact h2
    · have e' : ¬ q.1 = k := fun z => e (h1.trans z)
      have b : atKey (q :: qs) k = atKey qs k := by simp [atKey, List.find?_cons, e']
      rw [valV_neg e, b]; exact ih
theorem KT.repl {H : Hp} {kvs : List (List Key × V)} {xs : List (List Key × Addr × Value)} (r : KT H kvs xs) (k : List Key) {y : V} {u : Value} (ry : RelV y u) :
    KT H (kvs.map fun kv => if kv.1 = k then (kv.1, y) else kv) (xs.map (putAt k u)) := by
  induction r with
  | nil => exact .nil
  | @cons p q ps qs h t ih =>
    rw [List.map_cons, List.map_cons]
    refine .cons ?_ ih
    obtain ⟨h1, h2, h3⟩ := h
    unfold putAt
    by_cases e : p.1 = k
    · rw [if_pos e, if_pos (h1.symm.trans e)]; exact ⟨h1, h2, ry⟩
    · rw [if_neg e, if_neg (fun z => e (h1.trans z))]; exact ⟨h1, h2, h3⟩
theorem KT.put {H : Hp} {kvs : List (List Key × V)} {xs : List (List Key × Addr × Value)} (r : KT H kvs xs) (k : List Key) {b : Addr} {y : V} {u : Value} (hb : H b = some (.tup (k.map kV))) (ry : RelV y u) :
    KT H (putK kvs k y) (storedH xs k b u) := by
  have e : (kvs.any fun kv => decide (kv.1 = k)) = (atKey xs k).isSome := by
    rw [valV_any, (r.val k).isSome_eq, Option.isSome_map]
  unfold putK storedH
  rw [e]
  by_cases q : (atKey xs k).isSome = true
  · rw [if_pos q, if_pos q]; exact r.repl k ry
  · rw [if_neg q, if_neg q]; exact Paired.snoc r ⟨rfl, hb, ry⟩
theorem KT.keeps {H H' : Hp} {kvs : List (List Key × V)} {xs : List (List Key × Addr × Value)} (r : KT H kvs xs) (ht : ∀ b ys, H b = some (.tup ys) → H' b = some (.tup ys)) : KT H' kvs xs :=
  Paired.mapP r fun _ _ z => ⟨z.1, ht _ _ z.2.1, z.2.2⟩

section
variable {P : Program} {w : World} {H : Hp} {h : Heap} {a : Addr}
theorem rd_of {u : HO} (ok : HOk P w H h) (e : Rd H a u) : ObjOk P w H h a u := e.ok ok
theorem dk_rd {kvs : List (Key × V)} (ok : HOk P w H h) (e : Rd H a (.dK kvs)) : kvs.length ≤ sizeLine ∧ (a == sysModules) = false ∧ ∃ vs, KV kvs vs ∧ h.DictOf (mixKind P w) a vs :=
  show ObjOk P w H h a (.dK kvs) from rd_of ok e
theorem key_of {ks : List Key} (ok : HOk P w H h) (e : H a = some (.tup (ks.map kV))) : (tupleKind (mixKind P w)).is h ks a := by
  obtain ⟨_, its, r, o, h1, h2, n, h3⟩ := (show ObjOk P w H h a (.tup (ks.map kV)) from ok a _ e)
  exact ⟨o, its.toArray, n, h1, h2, h3, by simpa using items_are r⟩
theorem dt_rd {kvs : List (List Key × V)} (ok : HOk P w H h) (e : Rd H a (.dT kvs)) : kvs.length ≤ sizeLine ∧ (a == sysModules) = false ∧
    ∃ xs, KT H kvs xs ∧ h.DictOfH (tupleKind (mixKind P w)) a xs := by
  obtain ⟨z, y, xs, r, o, es, ep, h1, h2, h3, h4, h5⟩ := (show ObjOk P w H h a (.dT kvs) from rd_of ok e)
  refine ⟨z, y, xs, r, o, es, ep, h1, h2, h3, h4, fun x hx => ?_, h5⟩
  have all : ∀ {l : List (List Key × V)} {m : List (List Key × Addr × Value)}, KT H l m → ∀ x ∈ m, (tupleKind (mixKind P w)).is h x.1 x.2.1 := by
    intro l m q
    induction q with
    | nil => intro x hx; exact nomatch hx
    | @cons p q ps qs hq t ih =>
      intro x hx
      rcases List.mem_cons.mp hx with e | hx
      · subst e
        exact key_of ok (by rw [← hq.1]; exact hq.2.1)
      · exact ih x hx
  exact all r x hx
theorem dt_of {kvs : List (List Key × V)} (ok : HOk P w H h) (e : H a = some (.dT kvs)) : kvs.length ≤ sizeLine ∧ (a == sysModules) = false ∧
    ∃ xs, KT H kvs xs ∧ h.DictOfH (tupleKind (mixKind P w)) a xs := dt_rd ok (.inl e)
end


def DGet (H : Hp) (a : Addr) (y : V) (r : Option V) : Prop :=
  (∃ kvs k, Rd H a (.dK kvs) ∧ y = kV k ∧ r = valV kvs k) ∨ ∃ kvs k b, Rd H a (.dT kvs) ∧ y = .ref b ∧ H b = some (.tup (k.map kV)) ∧ r = valV kvs k

def DPut (H : Hp) (a : Addr) (y v : V) (H' : Hp) : Prop :=
  (∃ kvs k, H a = some (.dK kvs) ∧ y = kV k ∧ kvs.length < sizeLine ∧ H' = upd H a (.dK (putK kvs k v))) ∨
  ∃ kvs k b, H a = some (.dT kvs) ∧ y = .ref b ∧ H b = some (.tup (k.map kV)) ∧ kvs.length < sizeLine ∧ H' = upd H a (.dT (putK kvs k v))
theorem DGet.k {H : Hp} {a : Addr} {kvs : List (Key × V)} {k : Key} (e : H a = some (.dK kvs)) : DGet H a (kV k) (valV kvs k) := .inl ⟨kvs, k, .inl e, rfl, rfl⟩
theorem DGet.t {H : Hp} {a b : Addr} {kvs : List (List Key × V)} {k : List Key} (e : H a = some (.dT kvs)) (eb : H b = some (.tup (k.map kV))) : DGet H a (.ref b) (valV kvs k) := .inr ⟨kvs, k, b, .inl e, rfl, eb, rfl⟩
theorem DPut.k {H : Hp} {a : Addr} {kvs : List (Key × V)} {k : Key} {v : V} (e : H a = some (.dK kvs)) (hl : kvs.length < sizeLine) : DPut H a (kV k) v (upd H a (.dK (putK kvs k v))) := .inl ⟨kvs, k, e, rfl, hl, rfl⟩
theorem DPut.t {H : Hp} {a b : Addr} {kvs : List (List Key × V)} {k : List Key} {v : V} (e : H a = some (.dT kvs)) (eb : H b = some (.tup (k.map kV))) (hl : kvs.length < sizeLine) :
    DPut H a (.ref b) v (upd H a (.dT (putK kvs k v))) := .inr ⟨kvs, k, b, e, rfl, eb, hl, rfl⟩


section
variable {X : Cx} {pins : List (Addr × Obj)} {σ : St} {H : Hp} {s : Shared} {a : Addr} {y v : V} {u r : Value} {o : Option V} {A : Around} {E : Value → Shared → Prop}

theorem Inv.big (I : Inv X pins σ H s) : sysModules < s.heap.objs.size := by
  have h : mainGlobals < s.heap.objs.size := (I.mod.glob.keeps I.bk).lt
  exact Nat.lt_trans (by decide) h


theorem d_getItem {Q : Value → Shared → Prop} (hu : A.units + 1 < cLine) (I : Inv X pins σ H s) (g : DGet H a y (some v)) (ry : RelV y u) (h : ∀ w' s', Inv X pins σ H s' → RelV v w' → Q w' s') :
    wpAny (model X.prog X.w) A (getItem (.ref a) u) Q E s := by
  rcases g with ⟨kvs, k, e, ey, l⟩ | ⟨kvs, k, b, e, ey, eb, l⟩
  · subst ey
    obtain ⟨z, hd, vs, rel, dd⟩ := dk_rd I.hok e
    obtain ⟨w', hw, rw'⟩ := RelO.some_of (v := v) (o := valueAt vs k) (by rw [l]; exact rel.val k)
    exact wpAny_getItem_of (kV_is ry) dd.mapOf hw (h w' _ (I.tok _) rw')
  · subst ey
    cases (show u = Value.ref b from ry)
    obtain ⟨z, hd, xs, rel, dd⟩ := dt_rd I.hok e
    obtain ⟨w', hw, rw'⟩ := RelO.some_of (v := v) (o := (atKey xs k).map (·.2)) (by rw [l]; exact rel.val k)
    obtain ⟨p, hp, hp2⟩ := Option.map_eq_some_iff.mp hw
    refine wpAny_getItem_heap (tupleKind_room_in1 hu) (key_of I.hok eb) dd hp ?_
    rw [hp2]
    exact h w' _ (I.tok _) rw'

theorem d_write {h' : Heap} {t' : Nat} {ob : HO} (I : Inv X pins σ H s) (mu : Mut (H a)) (hs : Heap.SameBut a s.heap h') (he : ∃ q, h'.get? a = some q) (new : ObjOk X.prog X.w (upd H a ob) h' a ob) :
    Inv X pins σ (upd H a ob) { s with heap := h', toks := t' } :=
  I.write (x := a) (e := a) mu (.inl rfl) (fun b q hb z => (hs.2 b hb).trans z) he new
end

section
variable {X : Cx} {pins : List (Addr × Obj)} {σ : St} {H : Hp} {s : Shared} {a : Addr} {kvs : List (Key × V)} {k : Key} {u : Value} {A : Around} {E : Value → Shared → Prop}

end




def NoSl (i : Expr) : Prop := ∀ ov iv, subscripted i false ov iv = operate [ov, iv] (getItem ov iv)
theorem subD_of {prog : Program} {w : World} {A : Around} {E : Value → Shared → Prop} {s : Shared} {env : Env} {value slice : Expr} {pos : Pos} {T id : String} {Q : Value → Shared → Prop}
    (hl : typeLookup (.type T) "__getitem__" = pure (some (.builtin id))) (hs : NoSl slice)
    (h : wpAny (model prog w) A (eval value env) (fun o s₁ => wpAny (model prog w) A (eval slice env) (fun i s₂ => s₂.TypeIs o T ∧ wpAny (model prog w) A (getItem o i) Q E s₂) E s₁) E s) :
    wpAny (model prog w) A (eval (.Subscript value slice pos) env) Q E s := by
  refine Subscript_ (wpAny_mono h (fun o s₁ h₁ => wpAny_mono h₁ (fun i s₂ h₂ => ?_) fun _ _ x => x) fun _ _ x => x)
  obtain ⟨hT, h₂⟩ := h₂
  unfold subscriptTail
  refine wpAny_bind ?_
  rw [getitemInPython_of_ne hT.not_modules]
  refine wpAny_bind (wpAny_specialOf hT hl ?_)
  have fin : wpAny (model prog w) A (subscripted slice false o i) (fun r s₃ => wpAny (model prog w) A (letTemporaryGo value o r >>= fun _ => pure r) Q E s₃) E s₂ := by
    rw [hs o i]
    exact wpAny_operating (wpAny_mono h₂ (fun r s₃ h₃ => wpAny_bind (wpAny_letTemporaryGo (wpAny_pure h₃))) fun _ _ x => x)
  first
    | exact wpAny_pure (wpAny_bind fin)
    | exact wpAny_bind (wpAny_pure (wpAny_bind fin))
    | exact wpAny_bind fin

theorem dict_typeIs {X : Cx} {pins : List (Addr × Obj)} {σ : St} {H : Hp} {s : Shared} {a : Addr} {y : V} {o : Option V} (I : Inv X pins σ H s) (g : DGet H a y o) : s.TypeIs (.ref a) "dict" := by
  rcases g with ⟨kvs, k, e, _, _⟩ | ⟨kvs, k, b, e, _, _, _⟩
  · obtain ⟨_, _, vs, _, dd⟩ := dk_rd I.hok e
    exact dd.typeIs
  · obtain ⟨_, _, xs, _, dd⟩ := dt_rd I.hok e
    exact dd.typeIs
def tDGet (td ty : TE) : TE := fun σ H Q => td σ H fun x H1 => ty σ H1 fun y H2 => ∃ a v, x = .ref a ∧ DGet H2 a y (some v) ∧ Q v H2

def tDIn (ty td : TE) : TE := fun σ H Q => ty σ H fun y H1 => td σ H1 fun x H2 => ∃ a o, x = .ref a ∧ DGet H2 a y o ∧ Q (.bl o.isSome) H2
def tDNotIn (ty td : TE) : TE := fun σ H Q => ty σ H fun y H1 => td σ H1 fun x H2 => ∃ a o, x = .ref a ∧ DGet H2 a y o ∧ Q (.bl (!o.isSome)) H2

def sDPut (td ty tv : TE) : TS := fun D σ H => tv σ H fun v H1 => td σ H1 fun x H2 => ty σ H2 fun y H3 => ∃ a H4, x = .ref a ∧ DPut H3 a y v H4 ∧ D.nx σ H4

section
variable {X : Cx} {o i e value : Expr} {pos pos' tpos : Pos} {td ty tv : TE}
theorem pe_dget (hu : X.A.units + 1 < cLine) (ho : PE X o td) (hi : PE X i ty) (hs : NoSl i) : PE X (.Subscript o i pos) (tDGet td ty) := by
  intro pins s σ H Q I h
  refine subD_of PySem.F.slot_dict_getitem.lookup hs (thn (ho pins s σ H _ I h) fun u s1 ⟨x, H1, I1, rx, q1⟩ => thn (hi pins s1 σ H1 _ I1 q1) fun iv s2 ⟨y, H2, I2, ry, a, v, ex, g, q2⟩ => ?_)
  subst ex
  obtain rfl : u = Value.ref a := rx
  exact ⟨dict_typeIs I2 g, d_getItem hu I2 g ry fun w' s3 I3 rw' => ⟨v, H2, I3, rw', q2⟩⟩
end



theorem dt_empty {P : Program} {w : World} {H : Hp} (h : Heap) (hb : sysModules < h.objs.size) : ObjOk P w H (h.push { cls := .type "dict", data := .dict #[] }) h.objs.size (.dT []) :=
  ⟨Nat.zero_le _, beq_eq_false_iff_ne.mpr (Ne.symm (Nat.ne_of_lt hb)), [], .nil, _, #[], 0, Heap.get?_push_size _ rfl, ⟨rfl, rfl, rfl⟩, rfl, rfl, List.nodup_nil⟩

def tDNewK : TE := fun _ H Q => ∀ p, H p = none → Q (.ref p) (upd H p (.dK []))
def tDNewT : TE := fun _ H Q => ∀ p, H p = none → Q (.ref p) (upd H p (.dT []))
section
variable {X : Cx} {pos : Pos}
theorem pe_dnewT : PE X (.Dict [] [] pos) tDNewT := fun pins s σ H Q I h =>
  wpAny_Dict_empty ⟨.ref s.heap.objs.size, _, I.laid (a := s.heap.objs.size) (o := .dT []) (t' := s.toks) (fun _ _ q => Heap.get?_push_of_some _ q) (Nat.le_refl _) (dt_empty s.heap I.big), rfl, h _ (I.hok.fresh (Nat.le_refl _))⟩
end


structure M1 (X : Cx) (o : Expr) (m : Str) (apos : Pos) (e : Expr) (cpos : Pos) : Prop where
  base : attributeBase o m X.env (eval o X.env) = eval o X.env
  few : ((backTo cpos (starEach [e] X.env)).all (fun x => !x.1) && (backToKw cpos (keywordEach [] X.env)).all (fun x => x.1.isSome)
    && decide (([e] : List Expr).length + ([] : List Keyword).length + (if ([] : List Keyword).isEmpty then 0 else 1) < 30)) = true
  line : (apos.endLine == cpos.line) = true
  trees : backTo cpos (starEach [e] X.env) = [(false, eval e X.env)]
structure M2 (X : Cx) (o : Expr) (m : Str) (apos : Pos) (e f : Expr) (cpos : Pos) : Prop where
  base : attributeBase o m X.env (eval o X.env) = eval o X.env
  few : ((backTo cpos (starEach [e, f] X.env)).all (fun x => !x.1) && (backToKw cpos (keywordEach [] X.env)).all (fun x => x.1.isSome)
    && decide (([e, f] : List Expr).length + ([] : List Keyword).length + (if ([] : List Keyword).isEmpty then 0 else 1) < 30)) = true
  line : (apos.endLine == cpos.line) = true
  trees : backTo cpos (starEach [e, f] X.env) = [(false, eval e X.env), (false, eval f X.env)]


def IsD (H : Hp) (a : Addr) : Prop := (∃ kvs, Rd H a (.dK kvs)) ∨ ∃ kvs, Rd H a (.dT kvs)
theorem isD_at {X : Cx} {pins : List (Addr × Obj)} {σ : St} {H : Hp} {s : Shared} {a : Addr} (I : Inv X pins σ H s) (d : IsD H a) :
    s.TypeIs (.ref a) "dict" ∧ (∀ b, Value.ref a = .ref b → ∃ ob, s.heap.get? b = some ob ∧ ob.dict = none) ∧ (a == sysModules) = false := by
  rcases d with ⟨kvs, e⟩ | ⟨kvs, e⟩
  · obtain ⟨_, hd, vs, _, dd⟩ := dk_rd I.hok e
    refine ⟨dd.typeIs, fun b q => ?_, hd⟩
    cases q
    obtain ⟨ob, _, _, h1, h2, _⟩ := dd
    exact ⟨ob, h1, h2.2.1⟩
  · obtain ⟨_, hd, xs, _, dd⟩ := dt_rd I.hok e
    refine ⟨dd.typeIs, fun b q => ?_, hd⟩
    cases q
    obtain ⟨ob, _, _, h1, h2, _⟩ := dd
    exact ⟨ob, h1, h2.2.1⟩

section
variable {X : Cx} {pins : List (Addr × Obj)} {σ : St} {H : Hp} {s : Shared} {a : Addr} {y d : V} {u r : Value} {o : Option V} {A : Around} {E : Value → Shared → Prop}

end

section
variable {X : Cx} {o e f : Expr} {apos cpos : Pos} {td ty tx : TE}
end


section
variable {κ : Type} [DecidableEq κ]
theorem valV_not {kvs : List (κ × V)} {k : κ} (h : valV kvs k = none) : ¬ k ∈ kvs.map (·.1) := by
  intro m
  obtain ⟨p, hp, e⟩ := List.mem_map.mp m
  have q : (kvs.any fun kv => decide (kv.1 = k)) = true := List.any_eq_true.mpr ⟨p, hp, decide_eq_true e⟩
  rw [valV_any, h] at q
  exact absurd q (by simp)
theorem nd_snoc : ∀ {l : List κ} {k : κ}, l.Nodup → ¬ k ∈ l → (l ++ [k]).Nodup
  | [], k, _, _ => by simp
  | a :: r, k, h, hk => by
    obtain ⟨h1, h2⟩ := List.nodup_cons.mp h
    show (a :: (r ++ [k])).Nodup
    refine List.nodup_cons.mpr ⟨fun m => ?_, nd_snoc h2 fun m => hk (List.mem_cons.mpr (Or.inr m))⟩
    rcases List.mem_append.mp m with q | q
    · exact h1 q
    · exact hk (List.mem_cons.mpr (Or.inl (List.mem_singleton.mp q).symm))
end
end L2


set_option Elab.async false
set_option linter.all false
set_option maxRecDepth 100000
set_option maxHeartbeats 1000000

namespace L2
open PySem PySem.Spec PyProof.Rows PySem.W PySem.Calls
section
variable {X : Cx}
def rSortD : List V → Hp → VK → Prop := fun xs H Q => ∃ (d : Addr) (kvs : List (Key × V)) (ns : List Int), xs = [.ref d] ∧ H d = some (.dK kvs) ∧ kvs.map (·.1) = ns.map Sum.inl ∧ ns.length < 64 ∧
  ∀ (ns' : List Int) (l : Addr), ns'.Perm ns → ns'.Pairwise (· ≤ ·) → H l = none → Q (.ref l) (upd H l (.lst (ns'.map V.int)))
end
end L2


set_option Elab.async false
set_option linter.all false
set_option maxRecDepth 100000
set_option maxHeartbeats 1000000

namespace L2
open PySem PySem.Spec PyProof.Rows PySem.W
section
variable {X : Cx}
def rCatU : R2 := fun x y H Q => ∃ (a b : Addr) (xs ys : List V), x = .ref a ∧ y = .ref b ∧ H a = some (.tup xs) ∧ H b = some (.tup ys) ∧ xs.length + ys.length ≤ sizeLine ∧ ∀ (p : Addr) H', Same H H' → H' p = some (.tup (xs ++ ys)) → Q (.ref p) H'
def rSlV : V → Option Int → Option Int → Hp → VK → Prop := fun x lo hi H Q => ∃ a xs, x = .ref a ∧ H a = some (.tup xs) ∧ ∀ p H', Same H H' → H' p = some (.tup (cutV xs lo hi)) → Q (.ref p) H'
def rCatK (K : Frag) : R2 := fun x y H Q => ∃ (a b : Addr) (xs ys : List V), x = .ref a ∧ y = .ref b ∧ SqL K H a xs ∧ SqL K H b ys ∧ xs.length + ys.length ≤ sizeLine ∧ ∀ p, H p = none → Q (.ref p) (upd H p (.lst (xs ++ ys)))
theorem op_catK {K : Frag} (hK : X.K = K) : OpR X (binaryOp .Add) (rCatK K) := by
  subst hK
  intro pins s σ H x y v u Q I rx ry h
  obtain ⟨a, b, xs, ys, rfl, rfl, ha, hb, hz, q⟩ := h
  cases rx
  cases ry
  obtain ⟨its, r1, p1, _⟩ := I.list ha
  obtain ⟨its2, r2, p2, _⟩ := I.list hb
  obtain ⟨⟨c1, d1, x1, l1⟩, e1, k1, n1, y1⟩ := p1.isList
  obtain ⟨⟨c2, d2, x2, l2⟩, e2, k2, n2, y2⟩ := p2.isList
  simp only at k1 y1 k2 y2
  subst k1 y1 k2 y2
  refine concat_meets ⟨_, e1, rfl⟩ ⟨_, e2, rfl⟩ noFill_list_add seq_list_add PySem.F.slot_list_add PySem.F.entry_list_add (PySem.F.args_list_add_2 _ _) (list_addW a b its.toArray its2.toArray n1 n2 d1 d2 l1 l2 (by rw [List.size_toArray, List.size_toArray, ← r1.length, ← r2.length]; exact hz)) ⟨e1, e2, ?_⟩
  have ea : its.toArray ++ its2.toArray = (its ++ its2).toArray := by simp
  rw [ea]
  exact ⟨.ref _, _, I.lnew (t' := s.toks) (r1.append r2) (by rw [List.length_append]; exact hz), rfl, q _ I.fresh⟩
end
end L2


set_option Elab.async false
set_option linter.all false
set_option maxRecDepth 100000
set_option maxHeartbeats 1000000

namespace L2
open PySem PySem.Spec PyProof.Rows PySem.W
def TrisL (H : Hp) (as : List Addr) (L : List (List V)) : Prop := as.length = L.length ∧ ∀ i (h1 : i < as.length) (h2 : i < L.length), H as[i] = some (.tup L[i])
theorem TrisL.same {H H' : Hp} {as : List Addr} {L : List (List V)} (h : TrisL H as L) (s : Same H H') : TrisL H' as L := ⟨h.1, fun i i1 i2 => s _ _ (h.2 i i1 i2)⟩
theorem TrisL.nil {H : Hp} : TrisL H [] [] := ⟨rfl, fun i h => absurd h (by simp)⟩
theorem TrisL.push {H : Hp} {as : List Addr} {L : List (List V)} {u : Addr} {r : List V} (h : TrisL H as L) (hu : H u = some (.tup r)) : TrisL H (as ++ [u]) (L ++ [r]) := by
  refine ⟨by simp [h.1], fun i i1 i2 => ?_⟩
  have hl := h.1
  by_cases e : i < as.length
  · rw [List.getElem_append_left e, List.getElem_append_left (by omega)]; exact h.2 i e (by omega)
  · have : i = as.length := by simp at i1; omega
    subst this
    have e1 : (as ++ [u])[as.length]'i1 = u := by simp
    have e2 : (L ++ [r])[as.length]'i2 = r := by simp [hl]
    rw [e1, e2]; exact hu
def TrisAt (H : Hp) (c : Addr) (L : List (List V)) : Prop := ∃ as : List Addr, H c = some (.lst (as.map V.ref)) ∧ TrisL H as L
theorem TrisAt.same {H H' : Hp} {c : Addr} {L : List (List V)} (h : TrisAt H c L) (s : Same H H') : TrisAt H' c L := by
  obtain ⟨as, h1, h2⟩ := h
  exact ⟨as, s _ _ h1, h2.same s⟩
end L2


set_option Elab.async false
set_option linter.all false
set_option maxRecDepth 100000
set_option maxHeartbeats 1000000

namespace L2
open PySem PySem.Spec PyProof.Rows PySem.W

def ChB (f : Nat → Int) (N p : Nat) : Prop := NoNext f N p ∧ f N < f p ∧ ∀ q, IsPrev f p q → f q ≤ f N
theorem ChB.unique {f : Nat → Int} {N p p' : Nat} (hp : p < N) (hp' : p' < N) (h : ChB f N p) (h' : ChB f N p') : p = p' := by
  have key : ∀ {p p' : Nat}, p < p' → p' < N → ChB f N p → ChB f N p' → False := fun {p p'} hlt hN h h' => by
    rcases prev_or f p' with z | ⟨q, z⟩
    · have := z p hlt; have := h.1 p' hlt hN; omega
    · have h1 := h'.2.2 q z
      have h2 := h.2.1
      rcases Nat.lt_trichotomy q p with w | w | w
      · have := z.2.2 p w hlt; have := h.1 p' hlt hN; omega
      · rw [w] at h1; omega
      · have := h.1 q w (by have := z.1; omega); omega
  rcases Nat.lt_trichotomy p p' with w | w | w
  · exact (key w hp' h h').elim
  · exact w
  · exact (key w hp h' h).elim

def ChA (f : Nat → Int) (N p : Nat) : Prop := NoPrev (fun i => f (i + 1)) p ∧ f 0 ≤ f (p + 1) ∧ ∀ r, IsNext (fun i => f (i + 1)) N p r → f (r + 1) < f 0
theorem ChA.unique {f : Nat → Int} {N p p' : Nat} (hp : p < N) (hp' : p' < N) (h : ChA f N p) (h' : ChA f N p') : p = p' := by
  have key : ∀ {p p' : Nat}, p < p' → p' < N → ChA f N p → ChA f N p' → False := fun {p p'} hlt hN h h' => by
    rcases next_or (fun i => f (i + 1)) N p with z | ⟨r, z⟩
    · have := z p' hlt hN; have := h'.1 p hlt; dsimp only at *; omega
    · have h1 := h.2.2 r z
      have h2 := h'.2.1
      rcases Nat.lt_trichotomy r p' with w | w | w
      · have := h'.1 r w; dsimp only at *; omega
      · rw [w] at h1; omega
      · have := z.2.2.2 p' hlt w; have := h'.1 p hlt; dsimp only at *; omega
  rcases Nat.lt_trichotomy p p' with w | w | w
  · exact (key w hp' h h').elim
  · exact w
  · exact (key w hp h' h).elim
end L2


set_option Elab.async false
set_option linter.all false
set_option maxRecDepth 100000
set_option maxHeartbeats 1000000

namespace L2
open PySem PySem.Spec PyProof.Rows PySem.W
section
variable {X : Cx} {a : Expr} {ta : TE} {pos : Pos}
def tMethX (C : Addr) (m : Str) (sp : Sp) (E : St → XK) (ta : TE) (t : TA) : TE := fun σ H Q => ta σ H fun x H1 => ∃ a dx fs, x = .ref a ∧ H1 a = some (.ins C dx fs) ∧ fs.lookup m = none ∧ t σ H1 fun vs H2 => sp (x :: vs) H2 Q (E σ)
end

end L2


set_option Elab.async false
set_option linter.all false
set_option maxRecDepth 100000
set_option maxHeartbeats 1000000
namespace L2
open PySem PySem.Spec PyProof.Rows PySem.W

structure Apart3 (z TI TO i j k a b c : Addr) : Prop where
  own : z ≠ TI ∧ z ≠ TO ∧ z ≠ i ∧ z ≠ j ∧ z ≠ k ∧ TI ≠ TO ∧ TI ≠ i ∧ TI ≠ j ∧ TI ≠ k ∧ TO ≠ i ∧ TO ≠ j ∧ TO ≠ k ∧ i ≠ j ∧ i ≠ k ∧ j ≠ k
  la : a ≠ z ∧ a ≠ TO ∧ a ≠ i ∧ a ≠ j ∧ a ≠ k
  lb : b ≠ z ∧ b ≠ TO ∧ b ≠ i ∧ b ≠ j ∧ b ≠ k
  lc : c ≠ z ∧ c ≠ TO ∧ c ≠ i ∧ c ≠ j ∧ c ≠ k
section
variable {s : Shared} {prog : Program} {w : World} {A : Around} {E : Value → Shared → Prop}
end
abbrev itO (l : Addr) : Obj := { cls := .type "list_iterator", data := .fields #[.ref l, .int 0 0] }
abbrev zA (h : Heap) (a : Addr) : Heap := h.push (itO a)
abbrev zB (h : Heap) (a b : Addr) : Heap := (zA h a).push (itO b)
section
variable {s : Shared} {prog : Program} {w : World} {A : Around} {E : Value → Shared → Prop}
end

def Itz3 (K : Frag) (a b c : Addr) : It :=
  ⟨fun i H => ∃ xs ys us x y u, SqL K H a xs ∧ SqL K H b ys ∧ SqL K H c us ∧ xs[i]? = some x ∧ ys[i]? = some y ∧ us[i]? = some u,
   fun i H v H' => ∃ p x y u, H p = none ∧ v = .ref p ∧ H' = upd H p (.tup [x, y, u]) ∧ (∀ xs, SqL K H a xs → xs[i]? = some x) ∧ (∀ ys, SqL K H b ys → ys[i]? = some y) ∧ ∀ us, SqL K H c us → us[i]? = some u,
   fun i H => ∃ xs ys us, SqL K H a xs ∧ SqL K H b ys ∧ SqL K H c us ∧ (xs.length ≤ i ∨ ys.length ≤ i ∨ us.length ≤ i)⟩
section
variable {X : Cx}
def iZip3 (K : Frag) (ta : TA) : TI := fun σ H R => ta σ H fun vs H1 => ∃ a b c xs ys us, vs = [.ref a, .ref b, .ref c] ∧ SqL K H1 a xs ∧ SqL K H1 b ys ∧ SqL K H1 c us ∧ R (Itz3 K a b c) H1
end
end L2


set_option Elab.async false
set_option linter.all false
set_option maxRecDepth 100000
set_option maxHeartbeats 1000000
namespace L2
open PySem PySem.Spec PyProof.Rows PySem.W
section
variable {X : Cx}

end
end L2


set_option Elab.async false
set_option linter.all false
set_option maxRecDepth 100000
set_option maxHeartbeats 1000000

namespace L2
open PySem PySem.Spec PyProof.Rows PySem.W
section
variable {prog : Program} {w : World} {A : Around} {E : Value → Shared → Prop} {s : Shared} {z TI TO i1 i2 l1 l2 : Addr} {k1 k2 : Nat} {xs ys : Array Value} {a b : Value}

def IsZipG (h : Heap) (z TI TO : Addr) : Prop := ∃ f0 f1 : Value, (f0 = .none ∨ ∃ T : Nat, f0 = rawInt T) ∧ h.get? z = some { cls := .type "zip", dict := none, data := .fields #[f0, f1, .bool false, .ref TI, .ref TO], slots := #[] }
theorem IsZipG.type (hz : IsZipG s.heap z TI TO) : s.TypeIs (.ref z) "zip" := by obtain ⟨f0, f1, _, e⟩ := hz; exact ⟨_, e, rfl⟩
end
section
variable {X : Cx} {pins : List (Addr × Obj)} {σ : St} {H : Hp} {s : Shared}

def Itez (K : Frag) (t u : Bool) (a b : Addr) : It :=
  ⟨fun i H => ∃ xs ys x y, SqB K t H a xs ∧ SqB K u H b ys ∧ xs[i]? = some x ∧ ys[i]? = some y,
   fun i H v H' => ∃ p q x y, H p = none ∧ H q = none ∧ q ≠ p ∧ v = .ref q ∧ H' = upd (upd H p (.tup [x, y])) q (.tup [.int (i : Int), .ref p]) ∧ (∀ xs, SqB K t H a xs → xs[i]? = some x) ∧ ∀ ys, SqB K u H b ys → ys[i]? = some y,
   fun i H => ∃ xs ys, SqB K t H a xs ∧ SqB K u H b ys ∧ (xs.length ≤ i ∨ ys.length ≤ i)⟩
def iEnumZ (K : Frag) (ta : TA) : TI := fun σ H R => ta σ H fun vs H1 => ∃ a b t u xs ys, vs = [.ref a, .ref b] ∧ SqB K t H1 a xs ∧ SqB K u H1 b ys ∧ R (Itez K t u a b) H1
end
end L2


set_option Elab.async false
set_option linter.all false
set_option maxRecDepth 100000
set_option maxHeartbeats 1000000

namespace L2
open PySem PySem.Spec PyProof.Rows PySem.W
section
variable {X : Cx}
theorem pe_bmK {K : Frag} {T : String} {id : String} {name : Str} {r : V → List V → Hp → VK → Prop} {o e : Expr} {es : List Expr} {to : TE} {t : TA} {apos cpos : Pos} (hK : X.K = K) (pa : PlainAttrs T) (slot : Slot T name id) (hty : typeOf (.builtin id) = pure (.type "method_descriptor")) (hm : MtM X id r) (ho : PE X o to) (ha : PA X (e :: es) t)
    (hbase : attributeBase o name X.env (eval o X.env) = eval o X.env := by rfl)
    (hfew : ((backTo cpos (starEach (e :: es) X.env)).all (fun x => !x.1) && (backToKw cpos (keywordEach [] X.env)).all (fun x => x.1.isSome)
      && decide ((e :: es).length + ([] : List Keyword).length + (if ([] : List Keyword).isEmpty then 0 else 1) < 30)) = true := by rfl)
    (hline : (apos.endLine == cpos.line) = true := by rfl) (hs : starEach (e :: es) X.env = (false, eval e X.env) :: starEach es X.env := by rfl) (hplain : (backTo cpos (starEach es X.env)).any (·.1) = false := by rfl) :
    PE X (.Call (.Attribute o name apos) (e :: es) [] cpos) (tBM K T r to t) := by
  subst hK
  exact pe_bm pa slot hty hm ho ha hbase hfew hline hs hplain
end
end L2


set_option Elab.async false
set_option linter.all false
set_option maxRecDepth 100000
set_option maxHeartbeats 1000000

namespace L2
open PySem PySem.Spec PyProof.Rows PySem.W PySem.Calls

def ValsAt (h : Heap) (d : Addr) (vs : List Value) (ep : Nat) : Prop := ∃ (o : Obj) (es : Array DictEntry), h.get? d = some o ∧ o.cls = .type "dict" ∧ o.data = .dict es ep ∧ es.toList.map (·.val) = vs
theorem ValsAt.moved {h h' : Heap} {d : Addr} {vs : List Value} {ep : Nat} (x : ValsAt h d vs ep) (k : ∀ o, h.get? d = some o → h'.get? d = some o) : ValsAt h' d vs ep :=
  let ⟨o, es, a, r⟩ := x; ⟨o, es, k o a, r⟩
theorem ValsAt.lt {h : Heap} {d : Addr} {vs : List Value} {ep : Nat} (x : ValsAt h d vs ep) : d < h.objs.size := let ⟨_, _, a, _⟩ := x; Heap.lt_size a
section
variable {prog : Program} {w : World} {A : Around} {E : Value → Shared → Prop} {s : Shared} {va dd ja : Addr} {vs : List Value} {ep i : Nat}
theorem iter_vals {Q : Value → Shared → Prop} (hv : s.heap.IsValuesView va dd) (hm : ValsAt s.heap dd vs ep)
    (kQ : Q (.ref s.heap.objs.size) { s with heap := s.heap.push { cls := .type "dict_valueiterator", data := .fields #[.ref dd, .int 0 0, .int vs.length 0, .int ep 0] } }) :
    wpAny (model prog w) A (pyIter (.ref va)) Q E s := by
  obtain ⟨o1, g1, c1, f1⟩ := id hv
  obtain ⟨o2, es, g2, c2, f2, e2⟩ := id hm
  refine wpAny_pyIter_slot hv.typeIs PySem.F.slot_dict_values_iter (wpAny_call_entry PySem.F.slot_dict_values_iter hv.typeIs PySem.F.entry_dict_values_iter ?_ (PySem.F.args_dict_values_iter_1 _))
  unfold Builtin.«dict_values.__iter__»; refine wpAny_bind (wpAny_pure (wpAny_bind ?_)); unfold Builtin.Dict_items.dictOf
  refine wpAny_bind (wpAny_field g1 f1 (x := .ref dd) rfl (wpAny_pure (wpAny_bind ?_)))
  unfold Builtin.Dict_items.newIterator; refine wpAny_bind (wpAny_dictEntries g2 f2 (wpAny_bind (wpAny_dictEpoch g2 f2 ?_)))
  have z1 : es.size = vs.length := by rw [← e2]; simp
  have z2 : Builtin.Dict_items.ownsTuple "dict_valueiterator" = false := by decide
  simp only [z2, Bool.false_eq_true, if_false]
  refine wpAny_newObj_type (wpAny_pure ⟨_, rfl, "dict_valueiterator", _, ⟨_, Heap.get?_push_size _ rfl, rfl⟩, PySem.F.slot_dict_valueiterator_next.lookup, ?_⟩)
  simpa [rawInt, z1] using kQ
theorem next_vals {x : Value} {Q : Option Value → Shared → Prop} (hi : s.heap.IsValIter ja dd i vs.length ep) (hm : ValsAt s.heap dd vs ep) (hx : vs[i]? = some x)
    (kQ : ∀ h', h'.IsValIter ja dd (i + 1) vs.length ep → Heap.SameBut ja s.heap h' → Q (some x) { s with heap := h' }) : wpAny (model prog w) A (pyNext (.ref ja)) Q E s := by
  obtain ⟨o1, g1, c1, f1⟩ := id hi
  obtain ⟨o2, es, g2, c2, f2, e2⟩ := id hm
  have z1 : es.size = vs.length := by rw [← e2]; simp
  have z2 : Builtin.Dict_items.ownsTuple "dict_valueiterator" = false := by decide
  have hl : i < es.size := by
    rw [z1]
    exact (List.getElem?_eq_some_iff.mp hx).1
  have hval : es[i].val = x := by
    rw [← e2, List.getElem?_map, Array.getElem?_toList, Array.getElem?_eq_getElem hl] at hx
    exact Option.some.inj hx
  unfold pyNext
  refine wpAny_bind (wpAny_attempt (wpAny_callSpecial?_slot (name := Str.ofString "__next__") hi.typeIs PySem.F.slot_dict_valueiterator_next (wpAny_call_entry PySem.F.slot_dict_valueiterator_next hi.typeIs PySem.F.entry_dict_valueiterator_next ?_ (PySem.F.args_dict_valueiterator_next_1 _))))
  refine wpAny_bind (wpAny_pure (wpAny_bind (wpAny_bind ?_)))
  first | refine wpAny_bind (wpAny_typeNameOfWhole_valiter hi.typeIs (wpAny_pure (wpAny_bind (wpAny_fieldsOf g1 f1 ?_)))) | refine wpAny_bind (wpAny_typeNameOf_valiter hi.typeIs (wpAny_pure (wpAny_bind (wpAny_fieldsOf g1 f1 ?_))))
  simp only [z2, Bool.false_eq_true, if_false]
  show wpAny _ _ (if (Value.ref dd == Value.none) = true then _ else _) _ _ s
  rw [if_neg (show ¬ ((Value.ref dd == Value.none) = true) from Bool.false_ne_true)]
  refine wpAny_bind (wpAny_pure (wpAny_bind (wpAny_dictEntries g2 f2 ?_)))
  rw [if_neg (by rw [z1]; simp)]
  refine wpAny_bind (wpAny_pure (wpAny_bind (wpAny_dictEpoch g2 f2 ?_)))
  rw [if_neg (by simp)]
  refine wpAny_pure ?_
  simp only [show ¬ ((i : Int) < 0) from by omega, if_false, Int.toNat_natCast, Array.getElem?_eq_getElem hl]
  refine wpAny_bind ?_
  first | refine wpAny_bind (wpAny_typeNameOfWhole_valiter hi.typeIs (wpAny_pure (wpAny_bind (wpAny_isOneOf_valiter hi.typeIs ?_)))) | refine wpAny_bind (wpAny_typeNameOf_valiter hi.typeIs (wpAny_pure (wpAny_bind (wpAny_isOneOf_valiter hi.typeIs ?_))))
  show wpAny _ _ (setField (.ref ja) 1 (rawInt ((i : Int) + 1)) >>= _) _ _ s
  refine wpAny_bind (wpAny_setField g1 f1 (by simp) ?_)
  have g3 : (s.heap.update ja (Obj.mapFields (·.setIfInBounds 1 (rawInt ((i : Int) + 1))))).IsValIter ja dd (i + 1) vs.length ep :=
    ⟨_, Heap.get?_update_self _ g1 (Obj.isFreed_of_fields (Obj.data_mapFields f1 _)), (Obj.cls_mapFields ..).trans c1, by rw [Obj.data_mapFields f1]; simp [rawInt]⟩
  refine wpAny_bind (wpAny_holding (wpAny_bind (wpAny_isOneOf_valiter (s := { s with heap := s.heap.update ja (Obj.mapFields (·.setIfInBounds 1 (rawInt ((i : Int) + 1)))) }) g3.typeIs ?_)))
  refine wpAny_bind (wpAny_isOneOf_valiter (s := { s with heap := s.heap.update ja (Obj.mapFields (·.setIfInBounds 1 (rawInt ((i : Int) + 1)))) }) g3.typeIs ?_)
  show wpAny _ _ (pure es[i].val) _ _ _; exact wpAny_pure (wpAny_pure ⟨_, rfl, wpAny_pure (hval ▸ kQ _ g3 (Heap.SameBut.update ..))⟩)
theorem next_valsEnd {Q : Option Value → Shared → Prop} (nh : A.handled = none) (hi : s.heap.IsValIter ja dd i vs.length ep) (hm : ValsAt s.heap dd vs ep) (hx : vs[i]? = none)
    (kQ : ∀ h', Heap.ExtBut ja s.heap h' → Q none { s with heap := h' }) : wpAny (model prog w) A (pyNext (.ref ja)) Q E s := by
  obtain ⟨o1, g1, c1, f1⟩ := id hi
  obtain ⟨o2, es, g2, c2, f2, e2⟩ := id hm
  have z1 : es.size = vs.length := by rw [← e2]; simp
  have z2 : Builtin.Dict_items.ownsTuple "dict_valueiterator" = false := by decide
  unfold pyNext
  refine wpAny_bind (wpAny_attempt (wpAny_callSpecial?_slot (name := Str.ofString "__next__") hi.typeIs PySem.F.slot_dict_valueiterator_next (wpAny_call_entry PySem.F.slot_dict_valueiterator_next hi.typeIs PySem.F.entry_dict_valueiterator_next ?_ (PySem.F.args_dict_valueiterator_next_1 _))))
  refine wpAny_bind (wpAny_pure (wpAny_bind (wpAny_bind ?_)))
  first | refine wpAny_bind (wpAny_typeNameOfWhole_valiter hi.typeIs (wpAny_pure (wpAny_bind (wpAny_fieldsOf g1 f1 ?_)))) | refine wpAny_bind (wpAny_typeNameOf_valiter hi.typeIs (wpAny_pure (wpAny_bind (wpAny_fieldsOf g1 f1 ?_))))
  simp only [z2, Bool.false_eq_true, if_false]
  show wpAny _ _ (if (Value.ref dd == Value.none) = true then _ else _) _ _ s
  rw [if_neg (show ¬ ((Value.ref dd == Value.none) = true) from Bool.false_ne_true)]
  refine wpAny_bind (wpAny_pure (wpAny_bind (wpAny_dictEntries g2 f2 ?_)))
  rw [if_neg (by rw [z1]; simp)]
  refine wpAny_bind (wpAny_pure (wpAny_bind (wpAny_dictEpoch g2 f2 ?_)))
  rw [if_neg (by simp)]
  refine wpAny_pure ?_
  have ge : es.size ≤ i := by rw [z1]; simpa using hx
  simp only [show ¬ ((i : Int) < 0) from by omega, if_false, Int.toNat_natCast, Array.getElem?_eq_none ge]
  refine wpAny_bind ?_
  first | refine wpAny_bind (wpAny_typeNameOfWhole_valiter hi.typeIs (wpAny_pure ?_)) | refine wpAny_bind (wpAny_typeNameOf_valiter hi.typeIs (wpAny_pure ?_))
  show wpAny _ _ (setField (.ref ja) 0 .none >>= _) _ _ s
  refine wpAny_bind (wpAny_setField g1 f1 (by simp) ?_)
  show wpAny _ _ (newExc (.type "StopIteration") [] >>= _) _ _ _; refine wpAny_bind ?_
  simp only [newExc, newTuple]
  refine wpAny_bind (wpAny_newObj_type ?_ (by size_fits)); refine wpAny_bind (m := firstArgMember _ _) (wpAny_of_eq (a := Value.none) (by first | rfl | (simp only [firstArgMember]; rfl)) (wpAny_newObj_type ?_ (by size_fits)))
  simp only [raiseNew]
  refine wpAny_bind (wpAny_handled ?_); rw [show A.in1.handled = none from nh]
  refine (wpAny_bind (wpAny_pure (wpAny_throw ?_)))
  refine wpAny_bind (wpAny_isInstance (b := true) (T := "StopIteration") ⟨_, Heap.get?_push_size _ rfl, rfl⟩ isSubtype_stop (wpAny_pure (kQ _ ?_)))
  exact ((Heap.SameBut.update ..).extBut.push _).push _
theorem walks_vals (nh : A.handled = none) (I dd : Addr) (hne : dd ≠ I) (vs : List Value) (ep : Nat) :
    Walks prog w A I [I, dd] [I] vs.length (fun i x => vs[i]? = some x) (fun i h => h.IsValIter I dd i vs.length ep ∧ ValsAt h dd vs ep) where
  sub := fun b mb => by simp at mb; simp [mb]
  frame := fun _ _ _ st hk => ⟨let ⟨o, e, r⟩ := st.1; ⟨o, hk I (by simp) o e, r⟩, st.2.moved fun o e => hk dd (by simp) o e⟩
  item := fun i s Q E hi st kQ => by
    have hx : vs[i]? = some vs[i] := List.getElem?_eq_getElem hi
    refine next_vals st.1 st.2 hx fun h' g1 g2 => ?_
    exact kQ _ h' s.toks hx ⟨g1, st.2.moved fun o e => g2.extBut dd o hne e⟩ fun b o mb e => g2.extBut b o (fun h => mb (by simp [h])) e
  done := fun s Q E st kQ => next_valsEnd nh st.1 st.2 (by simp) fun h' he' => kQ h' s.toks fun b o mb e => he' b o (fun h => mb (by simp [h])) e
  self := fun _ _ _ _ st0 kQ => wpAny_pyIter_valiter st0.1 kQ
theorem src_vals : KdlSrc prog w "dict_values" va dd vs.length (fun i x => vs[i]? = some x) (fun h => h.IsValuesView va dd ∧ ValsAt h dd vs ep) where
  type := fun _ x0 => x0.1.typeIs
  there := fun _ hm => ⟨let ⟨_, a, _⟩ := hm.1; Heap.lt_size a, hm.2.lt⟩
  keep := fun _ _ hm hk => ⟨let ⟨o, a, x⟩ := hm.1; ⟨o, hk va (.inl rfl) o a, x⟩, hm.2.moved fun o e => hk dd (.inr rfl) o e⟩
  notList := by decide
  notTuple := by decide
  hint := fun _ _ _ _ x0 hq => kdl_hint_values x0.1.typeIs hq
  iter := fun _ _ nh hm => ⟨_, _, (fun _ _ hq => iter_vals hm.1 hm.2 hq), walks_vals nh _ dd (Nat.ne_of_lt hm.2.lt) vs ep, ⟨⟨_, Heap.get?_push_size _ rfl, rfl, rfl⟩, hm.2.moved fun o e => Heap.get?_push_of_some _ e⟩⟩
end
section
variable {prog : Program} {w : World} {K : Type} [DecidableEq K] {knd : HeapKind prog w K} {A : Around} {E : Value → Shared → Prop} {s : Shared} {dd ka : Addr} {k : K} {xs : List (K × Addr × Value)} {df : Value}
theorem setDefault_h {Q : Value → Shared → Prop} (hu : knd.room A) (hkey : knd.is s.heap k ka) (hm : s.heap.DictOfH knd dd xs) (hz : xs.length ≤ sizeLine)
    (h1 : ∀ p, atKey xs k = some p → Q p.2 { s with toks := s.toks + knd.draws k })
    (h2 : atKey xs k = none → ∀ h', h'.DictOfH knd dd (storedH xs k ka df) → Heap.SameBut dd s.heap h' → Q df { s with heap := h', toks := s.toks + knd.draws k }) :
    wpAny (model prog w) A (dictSetDefault dd (.ref ka) df) Q E s := by
  obtain ⟨o, es, ep, g1, g2, g3, g4, g5, g6⟩ := hm
  unfold dictSetDefault; try with_reducible refine wpAny_holding ?_
  refine wpAny_bind (knd.pyHash hu hkey (wpAny_bind (wpAny_dictFind_heap (s := { s with toks := s.toks + knd.draws k }) hu hkey g1 g3 g4 g5 g6 (fun no => ?_) (fun j p hj => ?_))))
  · have nk := atKey_none_of_get no
    have no' := not_mem_keys_of_get no
    refine wpAny_bind (wpAny_rule (wpAny_bind (wpAny_updateDictKeys (hz := by have e := size_of_entries g4; omega) (s := { s with toks := s.toks + knd.draws k }) g1 g3 (wpAny_pure (h2 nk _ ⟨_, _, ep + 1, Heap.get?_update_self _ g1 (Obj.isFreed_of_dict (Obj.data_mapDictKeys g3 _)), g2.mapDictKeys _, Obj.data_mapDictKeys g3 _, ?_, ?_, ?_⟩ (Heap.SameBut.update ..))))))
    · rw [storedH_new nk]; simp [g4, entryOfKey]
    · rw [storedH_new nk]; intro x hx
      rcases List.mem_append.mp hx with hx | hx0
      · exact knd.keeps (g5 x hx) g1 g3 (Heap.SameBut.update ..)
      · rw [List.mem_singleton.mp hx0]; exact knd.keeps hkey g1 g3 (Heap.SameBut.update ..)
    · rw [storedH_new nk, List.map_append, List.nodup_append]
      refine ⟨g6, by simp, fun x hx y hy e => ?_⟩
      have ey : y = k := by simpa using hy
      exact no' (ey ▸ e ▸ hx)
  · refine wpAny_bind (wpAny_dictEntries (s := { s with toks := s.toks + knd.draws k }) g1 g3 ?_)
    rw [entry_at g4 j, hj]
    exact wpAny_bind (wpAny_rule (wpAny_pure (h1 p (atKey_of_get g6 hj))))
theorem meets_setDefault_h (knd : HeapKind prog w K) (dd ka : Addr) (hd : (dd == sysModules) = false) (df : Value) :
    MeetsIn prog w (Builtin.«dict.setdefault» ⟨[.ref dd, .ref ka, df], []⟩) (fun A R s => knd.room A.in1 ∧ ∃ k xs, knd.is s.heap k ka ∧ s.heap.DictOfH knd dd xs ∧ xs.length ≤ sizeLine ∧
      (∀ p, atKey xs k = some p → R (.ok (.ret p.2)) { s with toks := s.toks + knd.draws k }) ∧
      (atKey xs k = none → ∀ h', h'.DictOfH knd dd (storedH xs k ka df) → Heap.SameBut dd s.heap h' → R (.ok (.ret df)) { s with heap := h', toks := s.toks + knd.draws k })) :=
  .of_wp fun A R s ⟨hu, k, xs, hkey, hm, hz, h1, h2⟩ => by
    unfold Builtin.«dict.setdefault»; refine wpAny_bind ?_; unfold Builtin.Dict.keyAndDefault
    refine (wpAny_bind (wpAny_notOrdered_dict hm.typeIs ?_))
    show wpAny _ _ (pure (dd, Value.ref ka, some df)) _ _ s
    refine wpAny_pure ?_
    show wpAny _ _ (if (dd == sysModules) = true then _ else (dictSetDefault dd (.ref ka) df >>= _)) _ _ s
    rw [if_neg (show ¬ (dd == sysModules) = true from hd ▸ Bool.false_ne_true)]
    exact wpAny_bind (setDefault_h hu hkey hm hz (fun p hp => wpAny_pure ⟨p.2, rfl, h1 p hp⟩) fun hn h' hm' hs' => wpAny_pure ⟨df, rfl, h2 hn h' hm' hs'⟩)
end
section
variable {X : Cx} {o e f : Expr} {apos cpos : Pos} {td ty tx : TE}

def tDSetD (td ty tx : TE) : TE := fun σ H Q => td σ H fun x H1 => ∃ a, x = .ref a ∧ IsD H1 a ∧ ty σ H1 fun y H2 => tx σ H2 fun z H3 => ∃ kvs k b, H3 a = some (.dT kvs) ∧ y = .ref b ∧ H3 b = some (.tup (k.map kV)) ∧ kvs.length < sizeLine ∧
  (∀ v, valV kvs k = some v → Q v H3) ∧ (valV kvs k = none → Q z (upd H3 a (.dT (kvs ++ [(k, z)]))))
theorem pe_dsetd (hu : X.A.units + 1 < cLine) (ho : PE X o td) (he : PE X e ty) (hf : PE X f tx) (m : M2 X o "setdefault" apos e f cpos) : PE X (.Call (.Attribute o "setdefault" apos) [e, f] [] cpos) (tDSetD td ty tx) := by
  intro pins s σ H Q I h
  refine wpAny_Call_method m.base m.few m.line PySem.F.plainAttrs_dict PySem.F.slot_dict_setdefault PySem.F.type_dict_setdefault (thn (ho pins s σ H _ I h) fun u s1 ⟨x, H1, I1, rx, a, ex, d, q1⟩ => ?_)
  subst ex
  obtain rfl : u = Value.ref a := rx
  obtain ⟨t1, t2, _⟩ := isD_at I1 d
  refine ⟨t1, t2, ?_⟩
  rw [m.trees]
  refine Calls.callWith_builtin rfl (Calls.evalArgs_plain (Calls.spliced_cons (thn (he pins s1 σ H1 _ I1 q1) fun iv s2 ⟨y, H2, I2, ry, q2⟩ =>
    Calls.spliced_cons (thn (hf pins s2 σ H2 _ I2 q2) fun fv s3 ⟨z, H3, I3, rz, kvs, k, b, ea, ey, eb, hl, q3, q4⟩ => Calls.spliced_nil ?_))))
  subst ey
  cases (show iv = Value.ref b from ry)
  obtain ⟨z1, hd, xs, rel, dd⟩ := dt_of I3.hok ea
  have hz : xs.length ≤ sizeLine := by rw [← Paired.length rel]; exact z1
  have hv := rel.val k
  refine call_meetsIn PySem.F.slot_dict_setdefault dd.typeIs PySem.F.entry_dict_setdefault (PySem.F.args_dict_setdefault_3 _ _ _) (meets_setDefault_h (tupleKind (mixKind X.prog X.w)) a b hd fv) ⟨tupleKind_room_in1 hu, k, xs, key_of I3.hok eb, dd, hz, fun p hp => ?_, fun hn h' dd' hs => ?_⟩
  · rw [hp] at hv
    cases l : valV kvs k with
    | none => rw [l] at hv; exact absurd hv (by intro z; cases z)
    | some v =>
      rw [l] at hv
      exact ⟨v, H3, I3.tok _, hv, q3 v l⟩
  · rw [hn] at hv
    cases l : valV kvs k with
    | some v => rw [l] at hv; exact absurd hv (by intro z; cases z)
    | none =>
      obtain ⟨q, es, ep, hq, h2, h3, h4, _, h5⟩ := dd'
      rw [← putK_new z l] at q4
      have hl' : (putK kvs k z).length ≤ sizeLine := by have := length_putK kvs k z; omega
      refine ⟨z, _, d_write (ob := .dT (putK kvs k z)) I3 (by rw [ea]; exact True.intro) hs ⟨q, hq⟩ ⟨hl', hd, _, (rel.put k eb rz).keeps fun c ys ec => ?_, q, es, ep, hq, h2, h3, h4, h5⟩, rz, q4 l⟩
      rw [upd_ne (ne_of ec ea (fun z => nomatch z))]
      exact ec
end
section
variable {X : Cx} {o : Expr} {apos cpos : Pos} {td : TE}

def ViewOf (v d : Addr) : Heap → Prop := fun h => h.IsValuesView v d
theorem meets_vals {prog : Program} {w : World} (dd : Addr) (hd : (dd == sysModules) = false) :
    MeetsIn prog w (Builtin.«dict.values» ⟨[.ref dd], []⟩) (fun _ R s => s.TypeIs (.ref dd) "dict" ∧
      R (.ok (.ret (.ref s.heap.objs.size))) { s with heap := s.heap.push { cls := .type "dict_values", data := .fields #[.ref dd] } }) :=
  .of_wp fun A R s ⟨ht, h⟩ => by
    refine wpAny_bind ?_; unfold Builtin.Dict.noArgs
    refine wpAny_bind (wpAny_notOrdered_dict ht ?_)
    show wpAny _ _ (pure dd) _ _ s
    refine wpAny_pure ?_
    show wpAny _ _ (Builtin.Dict.showsAll dd >>= _) _ _ s
    unfold Builtin.Dict.showsAll; rw [if_neg (show ¬ (dd == sysModules) = true from hd ▸ Bool.false_ne_true)]
    exact wpAny_bind (wpAny_pure (wpAny_bind (wpAny_newObj_type (wpAny_pure ⟨_, rfl, h⟩))))

def tDVals (td : TE) : TE := fun σ H Q => td σ H fun x H1 => ∃ a kvs, x = .ref a ∧ H1 a = some (.dT kvs) ∧ ∀ v, H1 v = none → Q (.ref v) (upd H1 v (.ext (ViewOf v a)))
theorem pe_dvals (ho : PE X o td) (hbase : attributeBase o "values" X.env (eval o X.env) = eval o X.env := by rfl) (hline : (apos.endLine == cpos.line) = true := by rfl) : PE X (.Call (.Attribute o "values" apos) [] [] cpos) (tDVals td) := by
  intro pins s σ H Q I h
  refine wpAny_Call_method0_late hbase hline (thn (ho pins s σ H _ I h) fun u s1 ⟨x, H1, I1, rx, a, kvs, ex, ea, q⟩ => ?_)
  subst ex
  obtain rfl : u = Value.ref a := rx
  obtain ⟨t1, t2, hd⟩ := isD_at I1 (.inr ⟨kvs, .inl ea⟩)
  refine ⟨"dict", _, PySem.F.plainAttrs_dict, PySem.F.slot_dict_values, PySem.F.type_dict_values, t1, t2, Calls.callWith_builtin rfl (PySem.evalArgs_none ?_)⟩
  refine call_meetsIn PySem.F.slot_dict_values t1 PySem.F.entry_dict_values (PySem.F.args_dict_values_1 _) (meets_vals a hd) ⟨t1, ?_⟩
  refine ⟨.ref s1.heap.objs.size, _, I1.laid (t' := s1.toks) (a := s1.heap.objs.size) (o := .ext (ViewOf s1.heap.objs.size a)) (fun b o e => Heap.get?_push_of_some _ e) (Nat.le_refl _) ⟨⟨_, Heap.get?_push_size _ rfl, rfl, rfl⟩, ⟨_, Heap.get?_push_size _ rfl⟩, fun h1 h2 e k => ?_⟩, rfl, q _ (I1.hok.fresh (Nat.le_refl _))⟩
  obtain ⟨o, a1, a2⟩ := e
  exact ⟨o, k o a1, a2⟩
theorem kt_vals {H : Hp} {kvs : List (List Key × V)} {xs : List (List Key × Addr × Value)} (r : KT H kvs xs) : Vals (kvs.map (·.2)) (xs.map (·.2.2)) := by
  induction r with
  | nil => exact .nil
  | cons h t ih => exact .cons h.2.2 ih

def rLVals : List V → Hp → VK → Prop := fun xs H Q => ∃ (v a : Addr) (kvs : List (List Key × V)), xs = [.ref v] ∧ H v = some (.ext (ViewOf v a)) ∧ H a = some (.dT kvs) ∧ ∀ l, H l = none → Q (.ref l) (upd H l (.lst (kvs.map (·.2))))
theorem call_list_vals (hc : X.calm = true) : CallR X (.type "list") rLVals := by
  intro pins s σ H xs us Q I r h
  obtain ⟨v, a, kvs, rfl, hv, ha, q⟩ := h
  obtain ⟨u, rfl, ru⟩ := r.one
  cases (show u = Value.ref v from ru)
  obtain ⟨hz, lo, ys, rel, o, es, ep, g1, g2, g3, g4, g5, g6⟩ := dt_of I.hok ha
  have hV : s.heap.IsValuesView v a := (show ObjOk X.prog X.w H s.heap v (.ext (ViewOf v a)) from I.hok v _ hv).1
  have hA : ValsAt s.heap a (ys.map (·.2.2)) ep := ⟨o, es, g1, g2.1, g3, by rw [g4, List.map_map]; rfl⟩
  have hl : (ys.map (·.2.2)).length ≤ sizeLine := by rw [List.length_map, ← Paired.length rel]; exact hz
  refine kdl_call (A := X.A) src_vals (I.ok.hd hc) ⟨hV, hA⟩ hl fun h' tk acc c kp hS hacc => ?_
  have eacc : acc.toList = ys.map (·.2.2) := by
    refine List.ext_getElem? fun i => ?_
    rw [Array.getElem?_toList]
    rcases Nat.lt_or_ge i acc.size with hi | hi
    · have := hacc.2 i acc[i] (Array.getElem?_eq_getElem hi)
      rw [this, Array.getElem?_eq_getElem hi]
    · rw [Array.getElem?_eq_none hi, List.getElem?_eq_none (by rw [← hacc.1]; exact hi)]
  have hsz : s.heap.objs.size < h'.objs.size := Heap.lt_size hS
  refine ⟨.ref s.heap.objs.size, _, I.laid (t' := tk) (a := s.heap.objs.size) (o := .lst (kvs.map (·.2))) kp (Nat.le_refl _) ⟨by rw [List.length_map]; exact hz, acc.toList, c, by rw [eacc]; exact kt_vals rel, by rw [hS, Array.toArray_toList]⟩, rfl, q _ (I.hok.fresh (Nat.le_refl _))⟩
end

def rNInD (K : Frag) : R2 := fun x y H Q => ∃ (q p : Addr) (as : List Addr) (e : Addr → Bool), x = .ref q ∧ y = .ref p ∧ SqL K H p (as.map V.ref) ∧ (∀ a ∈ as, EqD K H 3 (.ref a) x (e a)) ∧ Q (.bl (!as.any e)) H
theorem op_notInD {X : Cx} {K : Frag} (hK : X.K = K) {k : Nat} (hr : Room k X.A) : OpR X (compareOp .NotIn) (rNInD K) := by
  subst hK
  have hu0 := hr.un
  intro pins s σ H x y v u Q I rx ry h
  obtain ⟨q, p, as, e, rfl, rfl, hp, he, hQ⟩ := h
  cases rx
  cases ry
  obtain ⟨its, r, pl, hz⟩ := I.list hp
  have hi := vals_refs r
  subst hi
  refine SeqAt.notIn_listAt (eU e) pl.isList (fun w hw => ?_) ⟨.bl _, H, I, rfl, ?_⟩
  · have hw' : w ∈ as.map Value.ref := by simpa using hw
    obtain ⟨a, ha, rfl⟩ := List.mem_map.mp hw'
    exact eqd_at I (he a ha) X.A.in1 _ _ (by show X.A.units + 1 + 3 < cLine; omega) rfl rfl
  · have : (as.map Value.ref).toArray.any (eU e) = as.any e := by
      simp [List.any_map, Function.comp_def, eU]
    rw [this]; exact hQ

theorem valV_at {κ : Type} [DecidableEq κ] {k : κ} {v : V} : ∀ {kvs : List (κ × V)}, valV kvs k = some v → ∃ (i : Nat) (h : i < kvs.length), kvs[i] = (k, v)
  | [], h => by simp [valV] at h
  | p :: r, h => by
    by_cases e : p.1 = k
    · rw [valV_pos e] at h
      exact ⟨0, by simp, by cases p; cases e; cases h; rfl⟩
    · rw [valV_neg e] at h
      obtain ⟨i, h1, h2⟩ := valV_at h
      exact ⟨i + 1, by simpa using h1, by simpa using h2⟩
def firstsE (E : Nat → Nat → Bool) (j : Nat) : List Nat := (List.range j).filter fun a => (List.range a).all fun b => !E b a
def grpE (E : Nat → Nat → Bool) (j f : Nat) : List Nat := (List.range j).filter fun b => E b f
theorem grpE_succ (E : Nat → Nat → Bool) (j f : Nat) : grpE E (j + 1) f = grpE E j f ++ (if E j f = true then [j] else []) := by
  unfold grpE
  rw [List.range_succ, List.filter_append]
  by_cases e : E j f = true
  · simp [e]
  · simp [e]
theorem firstsE_old {E : Nat → Nat → Bool} {j b : Nat} (hb : b < j) (e : E b j = true) : firstsE E (j + 1) = firstsE E j := by
  unfold firstsE
  rw [List.range_succ, List.filter_append]
  have : ((List.range j).all fun b => !E b j) = false := by
    rw [Bool.eq_false_iff]; intro h
    have := List.all_eq_true.mp h b (List.mem_range.mpr hb)
    rw [e] at this; cases this
  simp [this]
theorem firstsE_new {E : Nat → Nat → Bool} {j : Nat} (h : ∀ b, b < j → E b j = false) : firstsE E (j + 1) = firstsE E j ++ [j] := by
  unfold firstsE
  rw [List.range_succ, List.filter_append]
  have : ((List.range j).all fun b => !E b j) = true := List.all_eq_true.mpr fun b hb => by rw [h b (List.mem_range.mp hb)]; rfl
  simp [this]
theorem firstsE_mem {E : Nat → Nat → Bool} {j f : Nat} : f ∈ firstsE E j ↔ f < j ∧ ∀ b, b < f → E b f = false := by
  unfold firstsE
  rw [List.mem_filter, List.mem_range, List.all_eq_true]
  constructor
  · rintro ⟨a, b⟩
    exact ⟨a, fun c hc => by have := b c (List.mem_range.mpr hc); simpa using this⟩
  · rintro ⟨a, b⟩
    exact ⟨a, fun c hc => by rw [b c (List.mem_range.mp hc)]; rfl⟩

theorem firstsE_of {E : Nat → Nat → Bool} (tr : ∀ a b c, E a b = true → E b c = true → E a c = true) (rf : ∀ a, E a a = true) (j : Nat) : ∀ a, a < j → ∃ f, f ∈ firstsE E j ∧ E f a = true ∧ f ≤ a := by
  intro a
  induction a using Nat.strongRecOn with
  | ind a ih =>
    intro ha
    by_cases h : ∀ b, b < a → E b a = false
    · exact ⟨a, firstsE_mem.mpr ⟨ha, h⟩, rf a, Nat.le_refl _⟩
    · obtain ⟨b, hb⟩ := Classical.not_forall.mp h
      obtain ⟨hb1, hb2⟩ := Classical.not_imp.mp hb
      have hb3 : E b a = true := by cases e : E b a with | true => rfl | false => exact absurd e hb2
      obtain ⟨f, f1, f2, f3⟩ := ih b hb1 (by omega)
      exact ⟨f, f1, tr _ _ _ f2 hb3, by omega⟩
theorem firstsE_nodup (E : Nat → Nat → Bool) (j : Nat) : (firstsE E j).Nodup := List.Pairwise.filter _ List.nodup_range
end L2


set_option Elab.async false
set_option linter.all false
set_option maxRecDepth 100000
set_option maxHeartbeats 4000000
namespace K46
open PySem PySem.Spec PyProof.Rows L2
local macro_rules | `(tactic| walk_at "rd") => `(tactic| simp only [tIfS, tNot, tTest, tChain, rI0, rI, rU, tVar, tC, tB, tIf, tAndV, tOrV, tNotV, tCall, tCallX, tCons, tNil, tAsg, tSeq, tRet, tNext, tOp, tUn, tAnd, tOr, tDrop, gName, gSub, tAug, tCB, tSl, tRaise, tLst, tTup, L2.start, tYes, gTup, gCons, gNil, iniC, Option.join_some, Option.join_none, rEq, rNe, scal_ii, scal_bb, scal_ss, scal_nn, scal_ni, scal_in, tBM, Bool.true_eq_false, List.map_cons, List.map_nil, List.cons_append, List.nil_append, List.length_cons, List.length_nil, List.replicate, List.append_nil, List.set_cons_zero, List.set_cons_succ, List.getElem?_cons_zero, List.getElem?_cons_succ, Option.some.injEq, V.int.injEq, V.bl.injEq, V.ref.injEq, List.cons.injEq, and_true, true_and, exists_eq_left, exists_eq_left', exists_and_left, exists_eq, decide_eq_true_eq, Bool.not_eq_true', decide_eq_false_iff_not, cxK, and_assoc, Bool.false_eq_true, ↓reduceIte, tFor_eq, tWhile_eq, tComp_eq, iRng1, iRng2, iList, iTup, iZip, iRev, rIxL, rIxT, rSetL, rCat, rIsi, rSum, rCount, tDelT, rPop, rIntB, tPar, rInsert, rIndex, rLen, rLof, rTof, tChain3, rBits, iSeq, tBM0, rEqD, tRngV, rLstR, tRngV2, rLstR2, rIn, gSubSl, rSlQ, iEnum, iEnumT, rInD, tMaxDT, tMaxD, tMinD, rIndexF, rSorted, rOr, rAll, rAny, ipM, rIxQ, tRev, rSlL, tPart, tNoPart, tSl, ipI, rAppend, rRep, cOf_ref, cOf_ty, rTupR2, rPopAt, iZipQ, rExtend, rSortT, rSlU, tAugS, iRevR, rMulS, rJoin, iStr, rSumT, V.str.injEq, rCountS, rRstrip, rLenS, rLtT, rRepU, rRemP, rIsAsc, rIsDig, rStarts, rStrI, rIntS, rSplit, tFldC, sFldC, tMeth, tMake, tDNewK, tDGet, sDPut, tDIn, tDNotIn, rSortD, rCatU, rSlV, rCatK, tMethX, iZip3, iEnumZ, tDNewT, tDSetD, tDVals, rLVals, rNInD])
def top (i : Nat) : Stmt := PySem.Challenge.pw_dipkin_k46_groups_told.main.body.getD i (.Pass ⟨0, 0, 0, 0⟩)
abbrev s_settle : Stmt := top 1
abbrev s_tree_of : Stmt := top 2
abbrev s_way_up : Stmt := top 3
abbrev s_fences_of : Stmt := top 4
abbrev s_distance_list : Stmt := top 6
abbrev s_row_distances : Stmt := top 8
abbrev s_seen_within : Stmt := top 9
abbrev s_stretch_keys : Stmt := top 11
abbrev s_groups_by : Stmt := top 12
abbrev s_groups_of : Stmt := top 13
abbrev s__law_deal : Stmt := top 15
abbrev s__law_take : Stmt := top 16
abbrev s__law_whole : Stmt := top 17
abbrev s__law_row : Stmt := top 18
abbrev s__law_elder : Stmt := top 19
abbrev s__law_tree : Stmt := top 20
abbrev s__law_either : Stmt := top 21
abbrev s__law_wide_row : Stmt := top 22
abbrev s__law_trees : Stmt := top 23
abbrev s__law_due : Stmt := top 24
abbrev s_law : Stmt := top 25
structure Txt (K : PySem.W.Frag) (mg : Str → Option Value) : Prop where
  b_all : mg "all" = none
  b_bool : mg "bool" = none
  b_enumerate : mg "enumerate" = none
  b_int : mg "int" = none
  b_isinstance : mg "isinstance" = none
  b_len : mg "len" = none
  b_list : mg "list" = none
  b_max : mg "max" = none
  b_min : mg "min" = none
  b_range : mg "range" = none
  b_tuple : mg "tuple" = none
abbrev SpT := PySem.W.Frag → (Str → Option Value) → Sp
def spLaw (K : PySem.W.Frag) : Sp := fun vs H Q E => ∃ (a : Addr) (ns : List Int), vs = [.ref a] ∧ SqL K H a (ns.map V.int) ∧ ns.length ≤ 63 ∧ ∀ H', Q (.bl true) H'
def sp__law_whole : SpT := fun K mg vs H Q E => ∃ i : Int, vs = [.int i] ∧ Q (.bl true) H

def sp__law_deal : SpT := fun K mg vs H Q E => ∃ (a : Addr) (ns : List Int) (k : Int), vs = [.ref a, .int k] ∧ SqL K H a (ns.map V.int) ∧ 0 ≤ k ∧ k ≤ 100 ∧ ∀ p H', H p = none → Same H H' → PotAt H' p → Q (.ref p) H'
def sp__law_take : SpT := fun K mg vs H Q E => ∃ (p : Addr) (many : Int), vs = [.ref p, .int many] ∧ 0 < many ∧ many ≤ 1000000001 ∧ PotAt H p ∧ ∀ d H', 0 ≤ d → d < many → PotAt H' p → Exc p H H' → Q (.int d) H'
def sp__law_row : SpT := fun K mg vs H Q E => ∃ (p : Addr) (most : Int), vs = [.ref p, .int most] ∧ 0 ≤ most ∧ most ≤ 1000 ∧ PotAt H p ∧ ∀ (r : Addr) (ns : List Int) H', H r = none → (ns.length : Int) ≤ most → H' r = some (.lst (ns.map V.int)) → PotAt H' p → Exc p H H' → Q (.ref r) H'
def sp__law_elder : SpT := fun K mg vs H Q E => ∃ (r : Addr) (ns : List Int) (i : Nat), vs = [.ref r, .int (i : Int)] ∧ H r = some (.lst (ns.map V.int)) ∧ ns.length ≤ 1000 ∧ i < ns.length ∧ ∀ (e : Int) H', ElderIs (nth ns) ns.length i e → Same H H' → Q (.int e) H'
def sp__law_tree : SpT := fun K mg vs H Q E => ∃ (r : Addr) (ns : List Int), vs = [.ref r] ∧ H r = some (.lst (ns.map V.int)) ∧ ns.length ≤ 1000 ∧ ∀ (t : Addr) (es : List Int) H', TreeIs ns es → Same H H' → H' t = some (.tup (es.map V.int)) → Q (.ref t) H'

def sp_settle : SpT := fun K mg vs H Q E => ∃ (el sp : Addr) (es : List Int) (A B : List Nat) (i : Nat), vs = [.ref el, .ref sp, .int i, .int A.length] ∧ H el = some (.lst (es.map V.int)) ∧ H sp = some (.lst (natsV (A ++ B))) ∧ el ≠ sp ∧ i < es.length ∧ (∀ q ∈ A ++ B, q < es.length) ∧ (A ++ B).length ≤ 1000 ∧
  ∀ H', (∀ b o, b ≠ el → b ≠ sp → H b = some o → H' b = some o) → H' el = some (.lst ((setE es A B i).map V.int)) → H' sp = some (.lst (natsV (A ++ [i]))) → Q .non H'
def sp_tree_of : SpT := fun K mg vs H Q E => ∃ (r : Addr) (ns : List Int), vs = [.ref r] ∧ (SqL K H r (ns.map V.int) ∨ SqT K H r (ns.map V.int)) ∧ ns.length ≤ 1000 ∧ ∀ (t : Addr) (es : List Int) H', TreeIs ns es → Same H H' → H' t = some (.tup (es.map V.int)) → Q (.ref t) H'

def sp_way_up : SpT := fun K mg vs H Q E => ∃ (t : Addr) (T : List Int) (p : Nat), vs = [.ref t, .int p] ∧ H t = some (.tup (T.map V.int)) ∧ T.length ≤ 1000 ∧ p < T.length ∧ ∀ (w : Addr) H', H w = none → Same H H' → H' w = some (.lst ((wayI T p).map V.int)) → Q (.ref w) H'

def sp_fences_of : SpT := fun K mg vs H Q E => ∃ (t : Addr) (ns T : List Int), vs = [.ref t] ∧ H t = some (.tup (T.map V.int)) ∧ TreeIs ns T ∧ ns.length ≤ 1000 ∧ ∀ (l : Addr) H', Same H H' → PairsAt H' l ns.length (fun p => (fenA (nth ns) p, fenB (nth ns) ns.length p)) → Q (.ref l) H'
def sp_distance_list : SpT := fun K mg vs H Q E => ∃ (t : Addr) (ns T : List Int), vs = [.ref t] ∧ H t = some (.tup (T.map V.int)) ∧ TreeIs ns T ∧ ns.length ≤ 1000 ∧ ∀ (l : Addr) H', H l = none → Same H H' → H' l = some (.lst ((distI ns).map V.int)) → Q (.ref l) H'

def sp_row_distances : SpT := fun K mg vs H Q E => ∃ (r : Addr) (ns : List Int), vs = [.ref r] ∧ (SqL K H r (ns.map V.int) ∨ SqT K H r (ns.map V.int)) ∧ ns.length ≤ 1000 ∧ ∀ (l : Addr) H', H l = none → Same H H' → H' l = some (.lst ((distI ns).map V.int)) → Q (.ref l) H'
def sp_seen_within : SpT := fun K mg vs H Q E => ∃ (d : Int) (k : Nat), vs = [.int d, .int k] ∧ Q (.int (sw d k)) H
def BordersAt (f : Nat → Int) (bs : List Nat) : Prop := ∀ k, k < bs.length → IsBorder f (k + 1) (bs.getD k 0)
def sp_follow : SpT := fun K mg vs H Q E => ∃ (l b : Addr) (ns : List Int) (bs : List Nat) (s : Nat) (d : Int), vs = [.ref l, .ref b, .int s, .int d] ∧ H l = some (.lst ((distI ns).map V.int)) ∧ H b = some (.lst (natsV bs)) ∧ BordersAt (nth ns) bs ∧ ns.length ≤ 1000 ∧ 0 < ns.length ∧ s ≤ bs.length ∧ bs.length ≤ ns.length ∧ 0 ≤ d ∧ ∀ m : Nat, Goes (nth ns) ns.length s d m → Q (.int ((m + 1 : Nat) : Int)) H
def sp_borders_by : SpT := fun K mg vs H Q E => ∃ (l : Addr) (ns : List Int), vs = [.ref l] ∧ H l = some (.lst ((distI ns).map V.int)) ∧ ns.length ≤ 1000 ∧ ∀ (b : Addr) (bs : List Nat) H', H b = none → bs.length = ns.length → BordersAt (nth ns) bs → Same H H' → H' b = some (.lst (natsV bs)) → Q (.ref b) H'
def sp_borders_of : SpT := fun K mg vs H Q E => ∃ (r : Addr) (ns : List Int), vs = [.ref r] ∧ (SqL K H r (ns.map V.int) ∨ SqT K H r (ns.map V.int)) ∧ ns.length ≤ 1000 ∧ ∀ (b : Addr) (bs : List Nat) H', H b = none → bs.length = ns.length → BordersAt (nth ns) bs → Same H H' → H' b = some (.lst (natsV bs)) → Q (.ref b) H'

def sp__law_either : SpT := fun K mg vs H Q E => ∃ (p r : Addr) (ns : List Int), vs = [.ref p, .ref r] ∧ PotAt H p ∧ r ≠ p ∧ H r = some (.lst (ns.map V.int)) ∧ ns.length ≤ 1000 ∧ ∀ (u : Addr) H', H u = none → (H' u = some (.lst (ns.map V.int)) ∨ H' u = some (.tup (ns.map V.int))) → PotAt H' p → Exc p H H' → Q (.ref u) H'

/-- the key of the stretch of c places from a on -/
noncomputable def keyI (ns : List Int) (c a : Nat) : List Int := (List.range c).map fun i => sw (distN (nth ns) (a + i)) i
/-- how many stretches of c places there are -/
def manyS (n c : Nat) : Nat := n + 1 - c
noncomputable def alikeK (ns : List Int) (c : Nat) : Nat → Nat → Bool := fun a b => decide (keyI ns c a = keyI ns c b)
noncomputable def groupsK (ns : List Int) (c : Nat) : List (List Nat) := (firstsE (alikeK ns c) (manyS ns.length c)).map (grpE (alikeK ns c) (manyS ns.length c))
/-- a list of new lists of places -/
def NewRows (H0 H : Hp) (l : Addr) (rs : List (List Nat)) : Prop := ∃ as : List Addr, H l = some (.lst (as.map V.ref)) ∧ as.Nodup ∧ l ∉ as ∧ as.length = rs.length ∧ (∀ i (h1 : i < as.length) (h2 : i < rs.length), H as[i] = some (.lst (natsV rs[i]))) ∧ H0 l = none ∧ ∀ a ∈ as, H0 a = none
/-- a list of the keys -/
def KeysAt (H : Hp) (l : Addr) (m : Nat) (f : Nat → List Int) : Prop := ∃ as : List Addr, H l = some (.lst (as.map V.ref)) ∧ as.length = m ∧ ∀ i (h : i < as.length), H as[i] = some (.tup ((f i).map V.int))
def sp_stretch_keys : SpT := fun K mg vs H Q E => ∃ (l : Addr) (ns : List Int) (c : Nat), vs = [.ref l, .int (c : Int)] ∧ H l = some (.lst ((distI ns).map V.int)) ∧ ns.length ≤ 1000 ∧ 1 ≤ c ∧ c ≤ 2000 ∧ ∀ (q : Addr) H', H q = none → Same H H' → KeysAt H' q (manyS ns.length c) (keyI ns c) → Q (.ref q) H'
def sp_groups_by : SpT := fun K mg vs H Q E => ∃ (l : Addr) (ns : List Int) (c : Nat), vs = [.ref l, .int (c : Int)] ∧ H l = some (.lst ((distI ns).map V.int)) ∧ ns.length ≤ 1000 ∧ 1 ≤ c ∧ c ≤ 2000 ∧ ∀ (q : Addr) H', Same H H' → NewRows H H' q (groupsK ns c) → Q (.ref q) H'
def sp_groups_of : SpT := fun K mg vs H Q E => ∃ (r : Addr) (ns : List Int) (c : Nat), vs = [.ref r, .int (c : Int)] ∧ (SqL K H r (ns.map V.int) ∨ SqT K H r (ns.map V.int)) ∧ ns.length ≤ 1000 ∧ 1 ≤ c ∧ c ≤ 2000 ∧ ∀ (q : Addr) H', Same H H' → NewRows H H' q (groupsK ns c) → Q (.ref q) H'
def sp__law_wide_row : SpT := fun K mg vs H Q E => ∃ p : Addr, vs = [.ref p] ∧ PotAt H p ∧ ∀ (r : Addr) (ns : List Int) H', H r = none → ns.length ≤ 40 → H' r = some (.lst (ns.map V.int)) → PotAt H' p → Exc p H H' → Q (.ref r) H'
def sp__law_trees : SpT := fun K mg vs H Q E => ∃ (r : Addr) (ns : List Int) (c : Nat), vs = [.ref r, .int (c : Int)] ∧ H r = some (.lst (ns.map V.int)) ∧ ns.length ≤ 1000 ∧ 1 ≤ c ∧ c ≤ 2000 ∧ ∀ (q : Addr) (T : Nat → List Int) H', H q = none → Same H H' → (∀ i, i < manyS ns.length c → TreeIs (cutN ns i c) (T i)) → KeysAt H' q (manyS ns.length c) T → Q (.ref q) H'
def sp__law_due : SpT := fun K mg vs H Q E => ∃ (r : Addr) (ns : List Int) (c : Nat), vs = [.ref r, .int (c : Int)] ∧ H r = some (.lst (ns.map V.int)) ∧ ns.length ≤ 1000 ∧ 1 ≤ c ∧ c ≤ 2000 ∧ ∀ (q : Addr) H', Same H H' → NewRows H H' q (groupsK ns c) → Q (.ref q) H'

section
variable {P : Program} {w : World} {K : PySem.W.Frag} {mg : Str → Option Value} {base : Heap}
theorem sc_settle : FnScope ["elders", "spine", "place", "keep"] ["elders", "spine", "place", "keep"] (defScope s_settle) := ⟨rfl, rfl, rfl, by decide +kernel, rfl, by decide +kernel, by decide +kernel⟩
theorem sc_tree_of : FnScope ["row", "elders", "spine", "place", "keep"] ["row"] (defScope s_tree_of) := ⟨rfl, rfl, rfl, by decide +kernel, rfl, by decide +kernel, by decide +kernel⟩
theorem sc_way_up : FnScope ["tree", "place", "way", "at"] ["tree", "place"] (defScope s_way_up) := ⟨rfl, rfl, rfl, by decide +kernel, rfl, by decide +kernel, by decide +kernel⟩
theorem sc_fences_of : FnScope ["tree", "fences", "place", "way", "ahead", "behind"] ["tree"] (defScope s_fences_of) := ⟨rfl, rfl, rfl, by decide +kernel, rfl, by decide +kernel, by decide +kernel⟩
theorem sc_distance_list : FnScope ["tree"] ["tree"] (defScope s_distance_list) := ⟨rfl, rfl, rfl, by decide +kernel, rfl, by decide +kernel, by decide +kernel⟩
theorem sc_row_distances : FnScope ["row"] ["row"] (defScope s_row_distances) := ⟨rfl, rfl, rfl, by decide +kernel, rfl, by decide +kernel, by decide +kernel⟩
theorem sc_seen_within : FnScope ["distance", "size"] ["distance", "size"] (defScope s_seen_within) := ⟨rfl, rfl, rfl, by decide +kernel, rfl, by decide +kernel, by decide +kernel⟩
theorem sc_stretch_keys : FnScope ["told", "size", "keys", "a"] ["told", "size"] (defScope s_stretch_keys) := ⟨rfl, rfl, rfl, by decide +kernel, rfl, by decide +kernel, by decide +kernel⟩
theorem sc_groups_by : FnScope ["told", "size", "groups", "a", "key"] ["told", "size"] (defScope s_groups_by) := ⟨rfl, rfl, rfl, by decide +kernel, rfl, by decide +kernel, by decide +kernel⟩
theorem sc_groups_of : FnScope ["row", "size"] ["row", "size"] (defScope s_groups_of) := ⟨rfl, rfl, rfl, by decide +kernel, rfl, by decide +kernel, by decide +kernel⟩
theorem sc__law_deal : FnScope ["script", "k", "cell", "seed", "number", "turn"] ["script", "k"] (defScope s__law_deal) := ⟨rfl, rfl, rfl, by decide +kernel, rfl, by decide +kernel, by decide +kernel⟩
theorem sc__law_take : FnScope ["pot", "many", "digit"] ["pot", "many"] (defScope s__law_take) := ⟨rfl, rfl, rfl, by decide +kernel, rfl, by decide +kernel, by decide +kernel⟩
theorem sc__law_whole : FnScope ["thing"] ["thing"] (defScope s__law_whole) := ⟨rfl, rfl, rfl, by decide +kernel, rfl, by decide +kernel, by decide +kernel⟩
theorem sc__law_row : FnScope ["pot", "most", "many", "kind", "turn", "row", "k"] ["pot", "most"] (defScope s__law_row) := ⟨rfl, rfl, rfl, by decide +kernel, rfl, by decide +kernel, by decide +kernel⟩
theorem sc__law_elder : FnScope ["row", "place", "earlier", "later"] ["row", "place"] (defScope s__law_elder) := ⟨rfl, rfl, rfl, by decide +kernel, rfl, by decide +kernel, by decide +kernel⟩
theorem sc__law_tree : FnScope ["row"] ["row"] (defScope s__law_tree) := ⟨rfl, rfl, rfl, by decide +kernel, rfl, by decide +kernel, by decide +kernel⟩
theorem sc__law_either : FnScope ["pot", "some"] ["pot", "some"] (defScope s__law_either) := ⟨rfl, rfl, rfl, by decide +kernel, rfl, by decide +kernel, by decide +kernel⟩
theorem sc__law_wide_row : FnScope ["pot", "row", "way"] ["pot"] (defScope s__law_wide_row) := ⟨rfl, rfl, rfl, by decide +kernel, rfl, by decide +kernel, by decide +kernel⟩
theorem sc__law_trees : FnScope ["row", "size"] ["row", "size"] (defScope s__law_trees) := ⟨rfl, rfl, rfl, by decide +kernel, rfl, by decide +kernel, by decide +kernel⟩
theorem sc__law_due : FnScope ["row", "size", "trees", "starts"] ["row", "size"] (defScope s__law_due) := ⟨rfl, rfl, rfl, by decide +kernel, rfl, by decide +kernel, by decide +kernel⟩
theorem sc_law : FnScope ["script", "k", "pot", "row", "handed", "size", "told", "due", "one"] ["script"] (defScope s_law) := ⟨rfl, rfl, rfl, by decide +kernel, rfl, by decide +kernel, by decide +kernel⟩
theorem ok__law_whole {f : Addr} {fd : FuncData} (F : Fun K "_law_whole" "_law_whole" s__law_whole f fd)  (T : Txt K mg) : FnOk P w K mg base (CXE P w) 1 f fd ["thing"] (sp__law_whole K mg) := by
  refine F.okX sc__law_whole (fun vs H Q E h => ?_) (fun cdv A outer s H vs Q E hr h => ?_)
  · obtain ⟨n, rfl, _⟩ := h; rfl
  obtain ⟨i, rfl, k1⟩ := h
  refine ⟨_, (pss_one (ps_ret (pe_and (pe_callB (call_isiK (K := K) rfl) rfl T.b_isinstance bt_isinstance (pa_cons (pv 0) (pa_cons (pe_bltn (v := .ty "int") rfl T.b_int bt_int rfl) pa_nil))) (pe_one (pe_not (pe_callB (call_isiK (K := K) rfl) rfl T.b_isinstance bt_isinstance (pa_cons (pv 0) (pa_cons (pe_bltn (v := .ty "bool") rfl T.b_bool bt_bool rfl) pa_nil)))))))), ?_⟩
  walk_at "rd"
  exact ⟨_, ty_ii, iteT ⟨_, ty_ib, k1⟩⟩

theorem ok__law_deal {f : Addr} {fd : FuncData} (F : Fun K "_law_deal" "_law_deal" s__law_deal f fd)  (T : Txt K mg) : FnOk P w K mg base (CXE P w) 1 f fd ["script", "k"] (sp__law_deal K mg) := by
  refine F.okX sc__law_deal (fun vs H Q E h => ?_) (fun cdv A outer s H vs Q E hr h => ?_)
  · obtain ⟨a, ns, k, rfl, _⟩ := h; rfl
  obtain ⟨a, ns, k, rfl, hS, h0, h1, k1⟩ := h
  refine ⟨_, (pss_cons (ps_set (i := 2) sc__law_deal.nd rfl (Or.inl rfl) pe_int)
      (pss_cons (ps_if (pt_cmpR op_lt (pv 1) (pe_callB (call_lenK (K := K) rfl) rfl T.b_len PySem.boot_len (pa_cons (pv 0) pa_nil)) (nomark _)) (pss_one (ps_set (i := 2) sc__law_deal.nd rfl (Or.inl rfl) (pe_op op_mod (pe_ix ix_list (pv 0) (pv 1) (fun _ _ => rfl)) (pe_op op_mulX (pe_op op_mulX (pe_op op_mulX (pe_op op_pow pe_int pe_int) (pe_op op_pow pe_int pe_int)) (pe_op op_pow pe_int pe_int)) (pe_op op_pow pe_int pe_int))))) pss_nil)
      (pss_cons (ps_if (pt_cmpR op_ge (pv 2) (pe_op op_pow pe_int pe_int) (nomark _)) (pss_one (ps_ret (pe_lst (pa_cons (pe_op op_sub (pv 2) (pe_op op_pow pe_int pe_int)) pa_nil)))) pss_nil)
      (pss_cons (ps_set (i := 3) sc__law_deal.nd rfl (Or.inl rfl) (pe_op op_add (pe_op op_add (pe_op op_mod (pv 2) pe_int) (pe_op op_mulX pe_int (pv 1))) pe_int))
      (pss_cons (ps_set (i := 4) sc__law_deal.nd rfl (Or.inl rfl) pe_int)
      (pss_cons (ps_nox (ps_for PassesOwn.never rfl (pi_range1 rfl T.b_range (pa_cons pe_int pa_nil)) (pg_name (i := 5) sc__law_deal.nd rfl (Or.inl rfl)) (pss_cons (ps_set (i := 3) sc__law_deal.nd rfl (Or.inl rfl) (pe_op op_mod (pe_op op_add (pe_op op_mulX (pv 3) pe_int) pe_int) pe_int))
      (pss_one (ps_set (i := 4) sc__law_deal.nd rfl (Or.inl rfl) (pe_op op_add (pe_op op_mulX (pv 4) pe_int) (pe_op op_mod (pe_op op_fdivL (pe_op op_mod (pe_op op_mulX (pv 3) (pv 3)) pe_int) pe_int) pe_int)))))))
      (pss_one (ps_ret (pe_lst (pa_cons (pv 4) pa_nil)))))))))), ?_⟩
  simp only [tIfS, tNot, tTest, tChain, rI0, rI, rU, tVar, tC, tB, tIf, tAndV, tOrV, tNotV, tCall, tCallX, tCons, tNil, tAsg, tSeq, tRet, tNext, tOp, tUn, tAnd, tOr, tDrop, gName, gSub, tAug, tCB, tSl, tRaise, tLst, tTup, L2.start, tYes, gTup, gCons, gNil, iniC, Option.join_some, Option.join_none, rEq, rNe, scal_ii, scal_bb, scal_ss, scal_nn, scal_ni, scal_in, tBM, Bool.true_eq_false, List.map_cons, List.map_nil, List.cons_append, List.nil_append, List.length_cons, List.length_nil, List.replicate, List.append_nil, List.set_cons_zero, List.set_cons_succ, List.getElem?_cons_zero, List.getElem?_cons_succ, Option.some.injEq, V.int.injEq, V.bl.injEq, V.ref.injEq, List.cons.injEq, and_true, true_and, exists_eq_left, exists_eq_left', exists_and_left, exists_eq, decide_eq_true_eq, Bool.not_eq_true', decide_eq_false_iff_not, cxK, and_assoc, Bool.false_eq_true, ↓reduceIte, tFor_eq, tWhile_eq, tComp_eq, iRng1, iRng2, iList, iTup, iZip, iRev, rIxL, rIxT, rSetL, rCat, rIsi, rSum, rCount, tDelT, rPop, rIntB, tPar, rInsert, rIndex, rLen, rLof, rTof, tChain3, rBits, iSeq, tBM0, rEqD, tRngV, rLstR, tRngV2, rLstR2, rIn, gSubSl, rSlQ, iEnum, iEnumT, rInD, tMaxDT, tMaxD, tMinD, rIndexF, rSorted, rOr, rAll, rAny, ipM, rIxQ, tRev, rSlL, tPart, tNoPart, tSl, ipI, rAppend, rRep, cOf_ref, cOf_ty, rTupR2, rPopAt, iZipQ, rExtend, rSortT, rSlU, tAugS, iRevR, rMulS, rJoin, iStr, rSumT, V.str.injEq, rCountS, rRstrip, rLenS, rLtT, rRepU, rRemP, rIsAsc, rIsDig, rStarts, rStrI, rIntS, rSplit, tFldC, sFldC, tMeth, tMake, tDNewK, tDGet, sDPut, tDIn, tDNotIn, rSortD, rCatU, rSlV, rCatK, tMethX, iZip3, iEnumZ, tDNewT, tDSetD, tDVals, rLVals, rNInD, cp18, cp60, qm1, qm2, qm3, qm4]
  have fin : ∀ g : Int, 0 ≤ g → ∀ p, H p = none → Q (V.ref p) (upd H p (.lst [V.int g])) := fun g hg p hp => k1 p _ hp ((Same.refl H).upd hp) ⟨_, upd_same, hg⟩
  refine ⟨_, .inl hS, ite2 (fun hk => ?_) (fun hk => ?_)⟩
  case' refine_1 =>
    obtain ⟨j, hj0⟩ := Int.eq_ofNat_of_zero_le h0
    have hj : j < (ns.map V.int).length := by omega
    refine ⟨_, hS, _, atI_at hj0 hj, ns[j]'(by simpa using hj), by simp, ite2 (fun c => ⟨by decide, fin _ (Int.sub_nonneg.mpr c)⟩) (fun _ => ⟨by decide, mul_l (by decide) (by decide), by decide, by decide, ?_⟩)⟩
  case' refine_2 =>
    refine ite2 (fun z => absurd z (by decide)) (fun _ => ⟨by decide, mul_l (by decide) (by decide), by decide, by decide, ?_⟩)
  all_goals
    refine for_range (fun i σ H' => ∃ v2 g o v5, σ = [some (.ref a), some (.int k), v2, some (.int o), some (.int g), v5] ∧ 0 ≤ g ∧ H' = H) ⟨_, 0, _, none, rfl, Int.le_refl _, rfl⟩ ?_ ?_
    · rintro i σ H' hi ⟨v2, g, o, v5, rfl, hg, rfl⟩
      walk_at "rd"
      have b1 := Int.emod_nonneg (o * 48271 + 12345) (b := 2147483647) (by decide)
      have b2 := Int.emod_lt_of_pos (o * 48271 + 12345) (b := 2147483647) (by decide)
      refine ⟨mul_r (by decide) (by decide), by decide, mul_r (by decide) (by decide), mul_l (by omega) (by omega), by decide, ⟨by decide, by decide⟩, by decide, ?_⟩
      have b3 := Int.emod_nonneg ((o * 48271 + 12345) % 2147483647 * ((o * 48271 + 12345) % 2147483647) % 2147483629 / 64) (b := 16777216) (by decide)
      have b4 := Int.mul_nonneg hg (show (0 : Int) ≤ 16777216 by decide)
      omega
    · rintro σ H' ⟨v2, g, o, v5, rfl, hg, rfl⟩
      walk_at "rd"
      exact ⟨by decide, fin g hg⟩
theorem ok__law_take {f : Addr} {fd : FuncData} (F : Fun K "_law_take" "_law_take" s__law_take f fd)  (T : Txt K mg) : FnOk P w K mg base (CXE P w) 1 f fd ["pot", "many"] (sp__law_take K mg) := by
  refine F.okX sc__law_take (fun vs H Q E h => ?_) (fun cdv A outer s H vs Q E hr h => ?_)
  · obtain ⟨p, many, rfl, _⟩ := h; rfl
  obtain ⟨p, many, rfl, h0, h1, ⟨x, hp, hx⟩, k1⟩ := h
  refine ⟨_, (pss_cons (ps_set (i := 2) sc__law_take.nd rfl (Or.inl rfl) (pe_op op_mod (pe_ix ix_list (pv 0) pe_int (fun _ _ => rfl)) (pv 1)))
      (pss_cons (ps_asg (pe_op op_fdivL (pe_ix ix_list (pv 0) pe_int (fun _ _ => rfl)) (pv 1)) (pg_sub (pv 0) pe_int set_list (fun _ => rfl)))
      (pss_one (ps_ret (pv 2))))), ?_⟩
  walk_at "rd"
  refine ⟨_, SqL.of hp, _, rfl, _, rfl, h0, ?_⟩
  refine ⟨_, SqL.of hp, _, rfl, _, rfl, ⟨h0, by omega⟩, _, hp, _, rfl, ?_⟩
  exact k1 _ _ (Int.emod_nonneg _ (by omega)) (Int.emod_lt_of_pos _ h0) ⟨_, upd_same, Int.ediv_nonneg hx (by omega)⟩ Exc.upd
theorem ok__law_row {f : Addr} {fd : FuncData} (F : Fun K "_law_row" "_law_row" s__law_row f fd) (G__law_take : Callee P w K mg base "_law_take" 1 ["pot", "many"] (sp__law_take K mg)) (T : Txt K mg) : FnOk P w K mg base (CXE P w) 2 f fd ["pot", "most"] (sp__law_row K mg) := by
  refine F.okX sc__law_row (fun vs H Q E h => ?_) (fun cdv A outer s H vs Q E hr h => ?_)
  · obtain ⟨p, most, rfl, _⟩ := h; rfl
  obtain ⟨p, most, rfl, h0, h1, hP, k1⟩ := h
  refine ⟨_, (pss_cons (ps_set (i := 2) sc__law_row.nd rfl (Or.inl rfl) (pe_callF G__law_take (hr.mono (by decide)) rfl passE (pa_cons (pv 0) (pa_cons (pe_op op_add (pv 1) pe_int) pa_nil))))
      (pss_cons (ps_set (i := 3) sc__law_row.nd rfl (Or.inl rfl) (pe_callF G__law_take (hr.mono (by decide)) rfl passE (pa_cons (pv 0) (pa_cons pe_int pa_nil))))
      (pss_cons (ps_set (i := 4) sc__law_row.nd rfl (Or.inl rfl) (pe_op op_add pe_int (pe_callF G__law_take (hr.mono (by decide)) rfl passE (pa_cons (pv 0) (pa_cons pe_int pa_nil)))))
      (pss_cons (ps_set (i := 5) sc__law_row.nd rfl (Or.inr rfl) (pe_lst pa_nil))
      (pss_cons (ps_nox (ps_for PassesOwn.never rfl (pi_range1 rfl T.b_range (pa_cons (pv 2) pa_nil)) (pg_name (i := 6) sc__law_row.nd rfl (Or.inl rfl)) (pss_one (ps_if (pt_cmpR op_lt (pv 3) pe_int (nomark _)) (pss_one (ps_expr (pe_bm PySem.F.plainAttrs_list PySem.F.slot_list_append PySem.F.type_list_append mt_append (pv 5) (pa_cons (pe_callF G__law_take (hr.mono (by decide)) rfl passE (pa_cons (pv 0) (pa_cons (pv 4) pa_nil))) pa_nil)))) (pss_one (ps_if (pt_cmpR op_eq (pv 3) pe_int (nomark _)) (pss_one (ps_expr (pe_bm PySem.F.plainAttrs_list PySem.F.slot_list_insert PySem.F.type_list_insert mt_insert (pv 5) (pa_cons (pe_callF G__law_take (hr.mono (by decide)) rfl passE (pa_cons (pv 0) (pa_cons (pe_op op_add (pv 6) pe_int) pa_nil))) (pa_cons (pv 6) pa_nil))))) (pss_one (ps_if (pt_cmpR op_eq (pv 3) pe_int (nomark _)) (pss_one (ps_expr (pe_bm PySem.F.plainAttrs_list PySem.F.slot_list_append PySem.F.type_list_append mt_append (pv 5) (pa_cons (pe_op op_sub (pe_op op_mod (pv 6) (pv 4)) (pe_op op_fdivL (pv 6) (pv 4))) pa_nil)))) (pss_one (ps_if (pt_cmpR op_eq (pv 3) pe_int (nomark _)) (pss_one (ps_expr (pe_bm PySem.F.plainAttrs_list PySem.F.slot_list_append PySem.F.type_list_append mt_append (pv 5) (pa_cons (pe_ix ix_list (pe_lst (pa_cons (pv 6) (pa_cons (pe_un un_neg (pv 6)) pa_nil))) (pe_op op_mod (pv 4) pe_int) (fun _ _ => rfl)) pa_nil)))) (pss_one (ps_if (pt_cmpR op_eq (pv 3) pe_int (nomark _)) (pss_one (ps_expr (pe_bm PySem.F.plainAttrs_list PySem.F.slot_list_append PySem.F.type_list_append mt_append (pv 5) (pa_cons (pe_op op_mulX (pe_op op_sub (pe_callF G__law_take (hr.mono (by decide)) rfl passE (pa_cons (pv 0) (pa_cons pe_int pa_nil))) pe_int) (pe_op op_pow pe_int pe_int)) pa_nil)))) (pss_one (ps_expr (pe_bm PySem.F.plainAttrs_list PySem.F.slot_list_append PySem.F.type_list_append mt_append (pv 5) (pa_cons (pe_op op_sub (pe_callF G__law_take (hr.mono (by decide)) rfl passE (pa_cons (pv 0) (pa_cons pe_int pa_nil))) pe_int) pa_nil))))))))))))))))
      (pss_cons (ps_if (pt_cmpR op_eq (pv 3) pe_int (nomark _)) (pss_one (ps_set (i := 5) sc__law_row.nd rfl (Or.inr rfl) (pe_compN ["k", "row"] [none, some 5] rfl rfl rfl (pi_range1 rfl T.b_range (pa_cons (pv 2) pa_nil)) (fun _ _ _ _ _ => (pg_name (i := 0) (show (["k", "row"] : List Str).Nodup from by decide +kernel) rfl (Or.inl rfl))) (fun _ _ _ _ _ => pifs_nil) (fun _ _ _ _ _ => (pe_bmK (K := K) rfl PySem.F.plainAttrs_list PySem.F.slot_list_index PySem.F.type_list_index (mt_index (K := K) rfl) (pv 1) (pa_cons (pv 0) pa_nil))) only_name))) pss_nil)
      (pss_one (ps_ret (pv 5))))))))), ?_⟩
  refine seqR (fun σ Hx => ∃ m : Int, σ = [some (.ref p), some (.int most), some (.int m), none, none, none, none] ∧ 0 ≤ m ∧ m ≤ most ∧ PotAt Hx p ∧ Exc p H Hx) (fun R hR => ?_) ?_
  · walk_at "rd"
    exact ⟨p, _, rfl, by omega, by omega, hP, fun d H1 d0 d1 P1 e1 => hR _ _ ⟨d, rfl, d0, by omega, P1, e1⟩⟩
  rintro σ H1 ⟨many, rfl, m0, m1, P1, e1⟩
  refine seqR (fun σ Hx => ∃ k : Int, σ = [some (.ref p), some (.int most), some (.int many), some (.int k), none, none, none] ∧ 0 ≤ k ∧ k < 8 ∧ PotAt Hx p ∧ Exc p H Hx) (fun R hR => ?_) ?_
  · walk_at "rd"
    exact ⟨p, _, rfl, by decide, by decide, P1, fun d H2 d0 d1 P2 e2 => hR _ _ ⟨d, rfl, d0, d1, P2, e1.trans e2⟩⟩
  clear P1 e1 H1
  rintro σ H1 ⟨kd, rfl, d0, d1, P1, e1⟩
  refine seqR (fun σ Hx => ∃ t : Int, σ = [some (.ref p), some (.int most), some (.int many), some (.int kd), some (.int t), none, none] ∧ 2 ≤ t ∧ t < 6 ∧ PotAt Hx p ∧ Exc p H Hx) (fun R hR => ?_) ?_
  · walk_at "rd"
    exact ⟨p, _, rfl, by decide, by decide, P1, fun d H2 d0 d1 P2 e2 => ⟨d, rfl, hR _ _ ⟨_, rfl, by omega, by omega, P2, e1.trans e2⟩⟩⟩
  clear P1 e1 H1
  rintro σ H1 ⟨tn, rfl, t0, t1, P1, e1⟩
  refine seqR (fun σ Hx => ∃ q : Addr, σ = [some (.ref p), some (.int most), some (.int many), some (.int kd), some (.int tn), some (.ref q), none] ∧ H q = none ∧ q ≠ p ∧ Hx q = some (.lst []) ∧ PotAt Hx p ∧ Exc p H Hx) (fun R hR => ?_) ?_
  · walk_at "rd"
    exact ⟨Nat.zero_le _, fun q hq => hR _ _ ⟨q, rfl, e1.free (P1.ne hq) hq, P1.ne hq, upd_same, P1.upd hq, e1.same ((Same.refl H1).upd hq)⟩⟩
  clear P1 e1 H1
  rintro σ H1 ⟨q, rfl, zq, nqp, hq1, P1, e1⟩
  refine seqR (fun σ Hx => ∃ (ns : List Int) (v6 : Option V), σ = [some (.ref p), some (.int most), some (.int many), some (.int kd), some (.int tn), some (.ref q), v6] ∧ (ns.length : Int) = many ∧ (kd = 3 → ∀ j : Nat, (j : Int) < many → (j : Int) ∈ ns) ∧ Hx q = some (.lst (ns.map V.int)) ∧ PotAt Hx p ∧ Exc p H Hx) (fun R hR => ?_) ?_
  · walk_at "rd"
    refine ⟨by omega, by omega, ?_⟩
    refine for_range (fun i σ Hx => ∃ (ns : List Int) (v6 : Option V), σ = [some (.ref p), some (.int most), some (.int many), some (.int kd), some (.int tn), some (.ref q), v6] ∧ ns.length = i ∧ (kd = 3 → ∀ j : Nat, j < i → (j : Int) ∈ ns) ∧ Hx q = some (.lst (ns.map V.int)) ∧ PotAt Hx p ∧ Exc p H Hx) ⟨[], none, rfl, rfl, (fun _ j hj => absurd hj (by omega)), hq1, P1, e1⟩ ?_ ?_
    · rintro i σ Hx hi ⟨ns, v6, rfl, hl, hin, hqx, Px, ex⟩
      have hi' : i < 1000 := by omega
      have hb : (ns.map V.int).length < sizeLine := Nat.lt_of_le_of_lt (show _ ≤ 1000 by rw [List.length_map]; omega) (by decide)
      have app : kd ≠ 3 → ∀ (y : Int) (Hy : Hp), Hy q = some (.lst (ns.map V.int)) → PotAt Hy p → Exc p H Hy → ∃ x_1, Hy q = some (HO.lst x_1) ∧ x_1.length < sizeLine ∧ ∃ ns' : List Int, ns'.length = i + 1 ∧ (kd = 3 → ∀ (j : Nat), j < i + 1 → (j : Int) ∈ ns') ∧ upd Hy q (HO.lst (x_1 ++ [V.int y])) q = some (HO.lst (List.map V.int ns')) ∧ PotAt (upd Hy q (HO.lst (x_1 ++ [V.int y]))) p ∧ Exc p H (upd Hy q (HO.lst (x_1 ++ [V.int y]))) := fun n3 y Hy hy Py ey =>
        ⟨_, hy, hb, ns ++ [y], by simp [hl], (fun z => absurd z n3), by rw [upd_same]; simp, Py.updN nqp, ey.updN zq⟩
      walk_at "rd"
      refine ite2 (fun k3 => ⟨tyV_list hqx, p, _, rfl, by omega, by omega, Px, fun d H2 d0 d1 P2 e2 => app (by omega) d H2 (e2 _ _ nqp hqx) P2 (ex.trans e2)⟩) fun k3 => ?_
      refine ite2 (fun k4 => ⟨tyV_list hqx, p, _, rfl, by omega, by omega, Px, fun d H2 d0 d1 P2 e2 => ?_⟩) fun k4 => ?_
      · refine ⟨_, d, rfl, e2 _ _ nqp hqx, d0, by omega, hb, ns.take d.toNat ++ (0 + (i : Int)) :: ns.drop d.toNat, by simp; omega, fun _ j hj => ?_, by rw [upd_same]; simp, P2.updN nqp, (ex.trans e2).updN zq⟩
        by_cases ej : j = i
        · rw [ej]; simp
        · have hm := hin k4 j (by omega)
          rw [← List.take_append_drop d.toNat ns] at hm
          rcases List.mem_append.mp hm with z | z
          · exact List.mem_append_left _ z
          · exact List.mem_append_right _ (List.mem_cons_of_mem _ z)
      refine ite2 (fun k5 => ⟨tyV_list hqx, by omega, ⟨by omega, by omega⟩, app k4 _ Hx hqx Px ex⟩) fun k5 => ?_
      refine ite2 (fun k6 => ⟨tyV_list hqx, by decide, fun u hu => ⟨by decide, ?_⟩⟩) fun k6 => ?_
      · obtain ⟨v, hv, y, rfl⟩ := atI_all (xs := [V.int (0 + (i : Int)), V.int (-(0 + (i : Int)))]) (i := tn % 2) (fun v => ∃ y : Int, v = V.int y) (by omega) (by show _ < ((2 : Nat) : Int); omega) (by
          intro x hx
          simp only [List.mem_cons, List.not_mem_nil, or_false] at hx
          rcases hx with rfl | rfl <;> exact ⟨_, rfl⟩)
        have g := (Same.refl Hx).upd (o := .lst [V.int (0 + (i : Int)), V.int (-(0 + (i : Int)))]) hu
        exact ⟨_, SqL.of upd_same, _, hv, app k4 y _ (g _ _ hqx) (Px.same g) (ex.same g)⟩
      exact ite2 (fun k7 => ⟨tyV_list hqx, p, _, rfl, by decide, by decide, Px, fun d H2 d0 d1 P2 e2 => ⟨d, rfl, cp59, mul_l (by omega) (by omega), app k4 _ H2 (e2 _ _ nqp hqx) P2 (ex.trans e2)⟩⟩) fun k7 => ⟨tyV_list hqx, p, _, rfl, by decide, by decide, Px, fun d H2 d0 d1 P2 e2 => ⟨d, rfl, app k4 _ H2 (e2 _ _ nqp hqx) P2 (ex.trans e2)⟩⟩
    · rintro σ Hx ⟨ns, v6, rfl, hl, hin, hqx, Px, ex⟩
      exact hR _ _ ⟨ns, v6, rfl, by omega, (fun z j hj => hin z j (by omega)), hqx, Px, ex⟩
  clear P1 e1 hq1 H1
  rintro σ H1 ⟨ns, v6, rfl, hl, hin, hq1, P1, e1⟩
  refine seqR (fun σ Hx => ∃ (q : Addr) (ns : List Int) (v6 : Option V), σ = [some (.ref p), some (.int most), some (.int many), some (.int kd), some (.int tn), some (.ref q), v6] ∧ H q = none ∧ (ns.length : Int) = many ∧ Hx q = some (.lst (ns.map V.int)) ∧ PotAt Hx p ∧ Exc p H Hx) (fun R hR => ?_) ?_
  · walk_at "rd"
    refine ite2 (fun k3 => ⟨by omega, by omega, ?_⟩) fun k3 => hR _ _ ⟨q, ns, v6, rfl, zq, hl, hq1, P1, e1⟩
    refine comp_map (n := many.toNat) (fun j => V.int ((ns.idxOf ((j : Nat) : Int) : Nat) : Int)) (Nat.lt_of_le_of_lt (show _ ≤ 1000 by omega) (by decide)) (fun j Hx s hj => hj) (fun Hx s => Nat.le_refl _) ?_ ?_
    · rintro j x Hx Hy hj s ⟨rfl, rfl⟩
      have e0 : ((0 : Int) + (j : Int)) = (j : Int) := by omega
      rw [e0]
      walk_at "rd"
      exact ⟨tyV_list (s _ _ hq1), _, SqL.of (s _ _ hq1), by omega, hin k3 j (by omega), CW.next hj rfl s⟩
    · intro l Hx s hlx
      have em : (List.range many.toNat).map (fun j => V.int ((ns.idxOf ((j : Nat) : Int) : Nat) : Int)) = ((List.range many.toNat).map fun j => ((ns.idxOf ((j : Nat) : Int) : Nat) : Int)).map V.int := by rw [List.map_map]; rfl
      rw [em]
      exact hR _ _ ⟨l, _, v6, rfl, e1.free ((P1.same s).ne hlx) (s.free hlx), by simp; omega, upd_same, (P1.same s).upd hlx, (e1.same s).same ((Same.refl Hx).upd hlx)⟩
  rintro σ H2 ⟨q2, ms, v6', rfl, zq2, hl2, hq2, P2, e2⟩
  walk_at "rd"
  exact k1 q2 ms _ zq2 (by omega) hq2 P2 e2
theorem ok__law_elder {f : Addr} {fd : FuncData} (F : Fun K "_law_elder" "_law_elder" s__law_elder f fd)  (T : Txt K mg) : FnOk P w K mg base (CXE P w) 1 f fd ["row", "place"] (sp__law_elder K mg) := by
  refine F.okX sc__law_elder (fun vs H Q E h => ?_) (fun cdv A outer s H vs Q E hr h => ?_)
  · obtain ⟨r, ns, i, rfl, _⟩ := h; rfl
  obtain ⟨r, ns, i, rfl, hr1, hn, hi, k1⟩ := h
  refine ⟨_, (pss_cons (ps_setCN (i := 2) ["other", "row", "place"] [none, some 0, some 1] sc__law_elder.nd rfl (Or.inl rfl) rfl rfl rfl (pi_range1 rfl T.b_range (pa_cons (pv 1) pa_nil)) (fun _ _ _ _ _ => (pg_name (i := 0) (show (["other", "row", "place"] : List Str).Nodup from by decide +kernel) rfl (Or.inl rfl))) (fun _ _ _ _ _ => pifs_one (pt_cmpR op_le (pe_ix (r := rIxL K) ix_list (pv 1) (pv 0) (fun _ _ => rfl)) (pe_ix (r := rIxL K) ix_list (pv 1) (pv 2) (fun _ _ => rfl)) (nomark _))) (fun _ _ _ _ _ => (pv 0)) only_name)
      (pss_cons (ps_setCN (i := 3) ["other", "row", "place"] [none, some 0, some 1] sc__law_elder.nd rfl (Or.inl rfl) rfl rfl rfl (pi_range2 rfl T.b_range (pa_cons (pe_op op_add (pv 1) pe_int) (pa_cons (pe_callB (call_lenK (K := K) rfl) rfl T.b_len PySem.boot_len (pa_cons (pv 0) pa_nil)) pa_nil))) (fun _ _ _ _ _ => (pg_name (i := 0) (show (["other", "row", "place"] : List Str).Nodup from by decide +kernel) rfl (Or.inl rfl))) (fun _ _ _ _ _ => pifs_one (pt_cmpR op_lt (pe_ix (r := rIxL K) ix_list (pv 1) (pv 0) (fun _ _ => rfl)) (pe_ix (r := rIxL K) ix_list (pv 1) (pv 2) (fun _ _ => rfl)) (nomark _))) (fun _ _ _ _ _ => (pv 0)) only_name)
      (pss_cons (ps_if (PW.pt (pw_or (pt_cmpR (op_eqD (K := K) rfl hr) (pv 2) (pe_lst pa_nil) (nomark _)) (pw_or1 (pt_cmpR (op_eqD (K := K) rfl hr) (pv 3) (pe_lst pa_nil) (nomark _))))) (pss_one (ps_ret (pe_ix ix_list (pe_op op_cat (pe_op op_cat (pe_slice sl_list (pv 2) (po_some (pe_un un_neg pe_int)) po_none) (pe_slice sl_list (pv 3) po_none (po_some pe_int))) (pe_lst (pa_cons (pe_un un_neg pe_int) pa_nil))) pe_int (fun _ _ => rfl)))) pss_nil)
      (pss_cons (ps_if (pt_cmpR op_gt (pe_ix ix_list (pv 0) (pe_ix ix_list (pv 2) (pe_un un_neg pe_int) (fun _ _ => rfl)) (fun _ _ => rfl)) (pe_ix ix_list (pv 0) (pe_ix ix_list (pv 3) pe_int (fun _ _ => rfl)) (fun _ _ => rfl)) (nomark _)) (pss_one (ps_ret (pe_ix ix_list (pv 2) (pe_un un_neg pe_int) (fun _ _ => rfl)))) pss_nil)
      (pss_one (ps_ret (pe_ix ix_list (pv 3) pe_int (fun _ _ => rfl)))))))), ?_⟩
  have eL : (ns.map V.int).length = ns.length := List.length_map ..
  have EE := elder_lists (f := nth ns) hi
  generalize hA : ((List.range i).filter fun q => decide (nth ns q ≤ nth ns i)) = A at EE
  generalize hB : ((List.range (ns.length - (i + 1))).filter fun j => decide (nth ns (i + 1 + j) < nth ns i)) = B at EE
  have hqa : ∀ q ∈ A, q < ns.length := fun q hq => by
    rw [← hA] at hq
    have := List.mem_range.mp (List.mem_filter.mp hq).1; omega
  have hqb : ∀ j ∈ B, i + 1 + j < ns.length := fun j hq => by
    rw [← hB] at hq
    have := List.mem_range.mp (List.mem_filter.mp hq).1; omega
  refine seqR (fun σ Hz => ∃ a, σ = [some (.ref r), some (.int (i : Int)), some (.ref a), none] ∧ Same H Hz ∧ Hz a = some (.lst (natsV A))) (fun R hR => ?_) ?_
  · walk_at "rd"
    refine ⟨by omega, by omega, ?_⟩
    have e1 : ((i : Int)).toNat = i := by omega
    rw [e1]
    refine comp_filt (n := i) (fun q => decide (nth ns q ≤ nth ns i)) (fun q => V.int ((q : Nat) : Int)) (Nat.lt_of_le_of_lt (show _ ≤ 1000 by omega) (by decide)) (fun j Hx s hj => hj) (fun Hx s => Nat.le_refl _) ?_ ?_
    · rintro j x Hx Hz hj s ⟨rfl, rfl⟩
      have e0 : ((0 : Int) + (j : Int)) = (j : Int) := by omega
      rw [e0]
      walk_at "rd"
      exact ⟨_, SqL.of (s _ _ hr1), _, nth_at (by omega), _, SqL.of (s _ _ hr1), _, nth_at (by omega), _, rfl, _, rfl, ite2 (fun h => CF.take hj (decide_eq_true h) rfl s) (fun h => CF.skip hj (decide_eq_false h) s)⟩
    · intro l1 H1 s1 hl1
      exact hR _ _ ⟨l1, rfl, s1.upd' hl1, by rw [upd_same, hA]; rfl⟩
  rintro σ Hx ⟨a, rfl, sx, hxa⟩
  refine seqR (fun σ Hy => ∃ b, σ = [some (.ref r), some (.int (i : Int)), some (.ref a), some (.ref b)] ∧ Same H Hy ∧ Hy a = some (.lst (natsV A)) ∧ Hy b = some (.lst (natsV (B.map fun j => i + 1 + j)))) (fun R hR => ?_) ?_
  · walk_at "rd"
    refine ⟨_, .inl (SqL.of (sx _ _ hr1)), by omega, by omega, by omega, by rw [eL]; omega, ?_⟩
    have e1 : ((((ns.map V.int).length : Nat) : Int) - ((i : Int) + 1)).toNat = ns.length - (i + 1) := by rw [eL]; omega
    rw [e1]
    refine comp_filt (n := ns.length - (i + 1)) (fun q => decide (nth ns (i + 1 + q) < nth ns i)) (fun q => V.int ((i + 1 + q : Nat) : Int)) (Nat.lt_of_le_of_lt (show _ ≤ 1000 by omega) (by decide)) (fun j Hx s hj => hj) (fun Hx s => Nat.le_refl _) ?_ ?_
    · rintro j x Hy Hz hj s ⟨rfl, rfl⟩
      have e0 : ((i : Int) + 1 + (j : Int)) = ((i + 1 + j : Nat) : Int) := by omega
      rw [e0]
      walk_at "rd"
      exact ⟨_, SqL.of ((sx.trans s) _ _ hr1), _, nth_at (by omega), _, SqL.of ((sx.trans s) _ _ hr1), _, nth_at (by omega), _, rfl, _, rfl, ite2 (fun h => CF.take hj (decide_eq_true h) rfl s) (fun h => CF.skip hj (decide_eq_false h) s)⟩
    · intro l1 H1 s1 hl1
      exact hR _ _ ⟨l1, rfl, (sx.trans s1).upd' hl1, (s1.upd' hl1) _ _ hxa, by rw [upd_same, hB]; simp [natsV, Function.comp_def]⟩
  clear sx hxa Hx
  rintro σ Hx ⟨b, rfl, sx, hxa, hxb⟩
  have ka : cutV (natsV A) (some (-1)) none = natsV (A.drop (A.length - 1)) := by rw [cut_m1, natsV_len]; simp [natsV, List.map_drop]
  have kb : cutV (natsV (B.map fun j => i + 1 + j)) none (some 1) = natsV ((B.take 1).map fun j => i + 1 + j) := by rw [cut_to1]; simp [natsV, List.map_take]
  have lA : A.length ≤ 1000 := by rw [← hA]; exact Nat.le_trans (List.length_filter_le _ _) (by simp; omega)
  refine seqR (fun σ Hy => σ = [some (.ref r), some (.int (i : Int)), some (.ref a), some (.ref b)] ∧ Same Hx Hy ∧ A ≠ [] ∧ B ≠ []) (fun R hR => ?_) ?_
  · refine ifR (fun H1 => Same Hx H1 ∧ (A = [] ∨ B = [])) (fun H1 => Same Hx H1 ∧ A ≠ [] ∧ B ≠ []) ?_ ?_ ?_
    · rintro H1 ⟨s1, hc⟩
      have key : ∃ e : Int, atI (natsV (A.drop (A.length - 1)) ++ natsV ((B.take 1).map fun j => i + 1 + j) ++ [V.int (-1)]) 0 = some (V.int e) ∧ ElderIs (nth ns) ns.length i e := by
        rcases hc with rfl | rfl
        · cases B with
          | nil => exact ⟨-1, rfl, by simpa using EE⟩
          | cons j B' => exact ⟨((i + 1 + j : Nat) : Int), rfl, by simpa using EE⟩
        · rcases snoc_cases A with rfl | ⟨ys, y, rfl⟩
          · exact ⟨-1, rfl, by simpa using EE⟩
          · refine ⟨(y : Int), ?_, by simpa using EE⟩
            have : (ys ++ [y]).drop ((ys ++ [y]).length - 1) = [y] := by simp
            rw [this]; rfl
      obtain ⟨e, he, hE⟩ := key
      have m1 := s1 _ _ hxa
      have m2 := s1 _ _ hxb
      walk_at "rd"
      refine ⟨_, SqL.of m1, fun c1 z1 => ?_⟩
      rw [ka]
      have u1 := (Same.refl H1).upd (o := .lst (natsV (A.drop (A.length - 1)))) z1
      refine ⟨_, SqL.of (u1 _ _ m2), fun c2 z2 => ?_⟩
      rw [kb]
      have u2 := (Same.refl _).upd (o := .lst (natsV ((B.take 1).map fun j => i + 1 + j))) z2
      refine ⟨_, u2 _ _ upd_same, _, upd_same, Nat.le_trans (show _ ≤ 1001 by rw [natsV_len, natsV_len]; simp; omega) (by decide), fun c3 z3 => ⟨by decide, fun c4 z4 => ?_⟩⟩
      have u4 := (Same.refl _).upd (o := .lst [V.int (-1)]) z4
      refine ⟨_, u4 _ _ upd_same, _, upd_same, Nat.le_trans (show _ ≤ 1003 by rw [List.length_append, natsV_len, natsV_len]; simp; omega) (by decide), fun c5 z5 => ⟨_, SqL.of upd_same, _, he, k1 e _ hE (((((((sx.trans s1).trans u1).trans u2).upd' z3).trans u4).upd' z5))⟩⟩
    · rintro H1 ⟨s1, hc⟩
      walk_at "rd"
      exact hR _ _ ⟨rfl, s1, hc⟩
    · intro B0 hT hU
      walk_at "rd"
      refine ⟨Nat.zero_le _, fun c hc => ?_⟩
      have u1 := (Same.refl Hx).upd (o := .lst []) hc
      refine ⟨_, eqd_nil (u1 _ _ hxa) upd_same, ?_⟩
      by_cases zA : A = []
      · exact ite2 (fun _ => hT _ ⟨u1, .inl zA⟩) fun z => absurd (decide_eq_true zA) z
      refine ite2 (fun z => absurd (of_decide_eq_true z) zA) fun _ => ⟨Nat.zero_le _, fun d hd => ?_⟩
      have u2 := u1.upd' (o := .lst []) hd
      refine ⟨_, eqd_nil (u2 _ _ hxb) upd_same, ?_⟩
      by_cases zB : B = []
      · have : decide (B.map (fun j => i + 1 + j) = []) = true := decide_eq_true (by rw [zB]; rfl)
        rw [this]; exact hT _ ⟨u2, .inr zB⟩
      · have : decide (B.map (fun j => i + 1 + j) = []) = false := decide_eq_false (by simpa using zB)
        rw [this]; exact hU _ ⟨u2, zA, zB⟩
  rintro σ Hy ⟨rfl, sy, nA, nB⟩
  replace hxa := sy _ _ hxa
  replace hxb := sy _ _ hxb
  replace sx := sx.trans sy
  rcases snoc_cases A with rfl | ⟨ys, y, rfl⟩
  · exact absurd rfl nA
  cases B with
  | nil => exact absurd rfl nB
  | cons j B' =>
    have hy : y < ns.length := hqa y (by simp)
    have hj : i + 1 + j < ns.length := hqb j (by simp)
    have el : atI (natsV (ys ++ [y])) (-1) = some (V.int (y : Int)) := by rw [natsV_app]; exact atI_last _ _
    have ej : atI (natsV ((j :: B').map fun j => i + 1 + j)) 0 = some (V.int ((i + 1 + j : Nat) : Int)) := natsV_at (j := 0) rfl
    have eg : (ys ++ [y]).getLast? = some y := by simp
    rw [eg] at EE
    walk_at "rd"
    refine ⟨_, SqL.of hxa, _, el, _, _, rfl, SqL.of (sx _ _ hr1), _, nth_at hy, _, SqL.of hxb, _, ej, _, _, rfl, SqL.of (sx _ _ hr1), _, nth_at hj, _, rfl, _, rfl, ite2 (fun z => ⟨_, SqL.of hxa, _, el, k1 _ _ ?_ sx⟩) fun z => ⟨_, SqL.of hxb, _, ej, k1 _ _ ?_ sx⟩⟩
    · simp only [List.head?_cons, if_neg (show ¬ nth ns y ≤ nth ns (i + 1 + j) by omega)] at EE
      exact EE
    · simp only [List.head?_cons, if_pos (show nth ns y ≤ nth ns (i + 1 + j) by omega)] at EE
      exact EE
theorem ok__law_tree {f : Addr} {fd : FuncData} (F : Fun K "_law_tree" "_law_tree" s__law_tree f fd) (G__law_elder : Callee P w K mg base "_law_elder" 1 ["row", "place"] (sp__law_elder K mg)) (T : Txt K mg) : FnOk P w K mg base (CXE P w) 2 f fd ["row"] (sp__law_tree K mg) := by
  refine F.okX sc__law_tree (fun vs H Q E h => ?_) (fun cdv A outer s H vs Q E hr h => ?_)
  · obtain ⟨r, ns, rfl, _⟩ := h; rfl
  obtain ⟨r, ns, rfl, hr0, hn, k1⟩ := h
  refine ⟨_, (pss_one (ps_ret (pe_callTy (call_tupK (K := K) rfl) rfl T.b_tuple bt_tuple (pa_cons (pe_compN ["place", "row"] [none, some 0] rfl rfl rfl (pi_range1 rfl T.b_range (pa_cons (pe_callB (call_lenK (K := K) rfl) rfl T.b_len PySem.boot_len (pa_cons (pv 0) pa_nil)) pa_nil)) (fun _ _ _ _ _ => (pg_name (i := 0) (show (["place", "row"] : List Str).Nodup from by decide +kernel) rfl (Or.inl rfl))) (fun _ _ _ _ _ => pifs_nil) (fun _ _ _ _ _ => (pe_callF G__law_elder (hr.mono (by decide)) rfl passE (pa_cons (pv 1) (pa_cons (pv 0) pa_nil)))) only_name) pa_nil)))), ?_⟩
  walk_at "rd"
  have eL : (ns.map V.int).length = ns.length := List.length_map ..
  refine ⟨_, .inl (SqL.of hr0), by omega, by omega, ?_⟩
  have e1 : (((ns.map V.int).length : Nat) : Int).toNat = ns.length := by rw [eL]; omega
  rw [e1]
  refine comp_inv (n := ns.length) (fun i acc Hx => ∃ es : List Int, acc = es.map V.int ∧ es.length = i ∧ (∀ p, p < i → ElderIs (nth ns) ns.length p (es.getD p 0)) ∧ Same H Hx) (Nat.lt_of_le_of_lt (show _ ≤ 1000 by omega) (by decide)) ⟨[], rfl, rfl, (fun p hp => absurd hp (by omega)), Same.refl _⟩ (fun i acc Hx _ hi => hi) (fun acc Hx _ => Nat.le_refl _) ?_ ?_
  · rintro i x acc Hx Hy hi hla ⟨es, rfl, hl, hE, sx⟩ ⟨rfl, rfl⟩
    walk_at "rd"
    refine ⟨r, ns, i, by rw [Int.zero_add], sx _ _ hr0, hn, hi, fun e H2 he s2 => CA.take hi hla ⟨es ++ [e], by simp, by simp [hl], fun p hp => ?_, sx.trans s2⟩⟩
    by_cases z : p < es.length
    · rw [show (es ++ [e]).getD p 0 = es.getD p 0 by simp [List.getD_eq_getElem?_getD, List.getElem?_append_left z]]
      exact hE p (by omega)
    · have ep : p = es.length := by omega
      rw [show (es ++ [e]).getD p 0 = e by rw [ep]; simp [List.getD_eq_getElem?_getD], ep, hl]
      exact he
  · rintro l acc Hx ⟨es, rfl, hl, hE, sx⟩ _ hlx
    refine ⟨l, rfl, _, .inl ⟨SqL.of upd_same, fun t ht => k1 t es _ ⟨hl, hE⟩ ((sx.upd' hlx).upd' ht) upd_same⟩⟩

theorem ok_settle {f : Addr} {fd : FuncData} (F : Fun K "settle" "settle" s_settle f fd)  (T : Txt K mg) : FnOk P w K mg base (CXE P w) 1 f fd ["elders", "spine", "place", "keep"] (sp_settle K mg) := by
  refine F.okX sc_settle (fun vs H Q E h => ?_) (fun cdv A outer s H vs Q E hr h => ?_)
  · obtain ⟨el, sp, es, A, B, i, rfl, _⟩ := h; rfl
  obtain ⟨el, sp, es, A', B, i, rfl, hel, hsp, hne, hi, hq, hlen, k1⟩ := h
  refine ⟨_, (pss_cons (ps_if (pt_cmpR op_lt (pv 3) (pe_callB (call_lenK (K := K) rfl) rfl T.b_len PySem.boot_len (pa_cons (pv 1) pa_nil)) (nomark _)) (pss_one (ps_asg (pv 2) (pg_sub (pv 0) (pe_ix ix_list (pv 1) (pv 3) (fun _ _ => rfl)) set_list (fun _ => rfl)))) pss_nil)
      (pss_cons (ps_if (pt_cmpR op_gt (pv 3) pe_int (nomark _)) (pss_one (ps_asg (pe_ix ix_list (pv 1) (pe_op op_sub (pv 3) pe_int) (fun _ _ => rfl)) (pg_sub (pv 0) (pv 2) set_list (fun _ => rfl)))) pss_nil)
      (pss_cons (ps_delTail (pv 1) (pv 3))
      (pss_one (ps_expr (pe_bm PySem.F.plainAttrs_list PySem.F.slot_list_append PySem.F.type_list_append mt_append (pv 1) (pa_cons (pv 2) pa_nil))))))), ?_⟩
  walk_at "rd"
  have hb1 : (natsV A').length < sizeLine := by
    rw [natsV_len]
    rw [List.length_append] at hlen
    exact Nat.lt_of_le_of_lt (show _ ≤ 1000 by omega) (by decide)
  have etk : List.take A'.length (natsV (A' ++ B)) = natsV A' := by
    rw [natsV_app]
    have : A'.length = (natsV A').length := (natsV_len A').symm
    rw [this, List.take_left]
  have hle : A'.length ≤ (natsV (A' ++ B)).length := by rw [natsV_len, List.length_append]; omega
  have esn : natsV A' ++ [V.int (i : Nat)] = natsV (A' ++ [i]) := by rw [natsV_app]; rfl
  refine ⟨_, .inl (SqL.of hsp), ?_⟩
  rw [natsV_len, List.length_append]
  -- the end: behind the two stores
  have fin : ∀ (es1 : List Int) (Hx : Hp), (∀ b o, b ≠ el → b ≠ sp → H b = some o → Hx b = some o) → Hx el = some (.lst (es1.map V.int)) → Hx sp = some (.lst (natsV (A' ++ B))) → es1 = setE es A' B i →
      ∃ (xs : List V) (k : Nat), (A'.length : Int) = (k : Int) ∧ Hx sp = some (HO.lst xs) ∧ k ≤ xs.length ∧ tyV K "list" (V.ref sp) (upd Hx sp (HO.lst (List.take k xs))) ∧ ∃ x, upd Hx sp (HO.lst (List.take k xs)) sp = some (HO.lst x) ∧ x.length < sizeLine ∧ Q V.non (upd (upd Hx sp (HO.lst (List.take k xs))) sp (HO.lst (x ++ [V.int (i : Nat)]))) := by
    intro es1 Hx h1 h2 h3 h4
    refine ⟨_, A'.length, rfl, h3, hle, tyV_list upd_same, _, upd_same, by rw [etk]; exact hb1, k1 _ (fun b o n1 n2 z => by rw [upd_ne n2, upd_ne n2]; exact h1 b o n1 n2 z) (by rw [upd_ne hne, upd_ne hne, h2, h4]) (by rw [upd_same, etk, esn])⟩
  -- elders[place] = spine[keep - 1]
  have mid : ∀ (es1 : List Int) (Hx : Hp), (∀ b o, b ≠ el → b ≠ sp → H b = some o → Hx b = some o) → Hx el = some (.lst (es1.map V.int)) → es1.length = es.length → Hx sp = some (.lst (natsV (A' ++ B))) → ∀ q, A'.getLast? = some q → es1.set i (q : Int) = setE es A' B i →
      ∃ x, SqL K Hx sp x ∧ ∃ x_1, atI x ((A'.length : Int) - 1) = some x_1 ∧ ∃ x, Hx el = some (HO.lst x) ∧ ∃ x_2, ixN x.length (i : Int) = some x_2 ∧ ∃ (xs : List V) (k : Nat), (A'.length : Int) = (k : Int) ∧ upd Hx el (HO.lst (x.set x_2 x_1)) sp = some (HO.lst xs) ∧ k ≤ xs.length ∧ tyV K "list" (V.ref sp) (upd (upd Hx el (HO.lst (x.set x_2 x_1))) sp (HO.lst (List.take k xs))) ∧
        ∃ x_3, upd (upd Hx el (HO.lst (x.set x_2 x_1))) sp (HO.lst (List.take k xs)) sp = some (HO.lst x_3) ∧ x_3.length < sizeLine ∧ Q V.non (upd (upd (upd Hx el (HO.lst (x.set x_2 x_1))) sp (HO.lst (List.take k xs))) sp (HO.lst (x_3 ++ [V.int (i : Nat)]))) := by
    intro es1 Hx h1 h2 hl1 h3 q hq h4
    have hpos : 0 < A'.length := by
      cases A' with
      | nil => cases hq
      | cons _ _ => simp
    have hat : (A' ++ B)[A'.length - 1]? = some q := by
      rw [List.getElem?_append_left (by omega)]
      rw [List.getLast?_eq_getElem?] at hq; exact hq
    have ei : ((A'.length : Int) - 1) = ((A'.length - 1 : Nat) : Int) := by omega
    refine ⟨_, SqL.of h3, _, by rw [ei]; exact natsV_at hat, _, h2, i, by rw [List.length_map, hl1]; exact ixN_nat hi, ?_⟩
    have em : (es1.map V.int).set i (V.int (q : Nat)) = (es1.set i (q : Int)).map V.int := by rw [List.map_set]
    rw [em]
    exact fin _ _ (fun b o n1 n2 z => by rw [upd_ne n1]; exact h1 b o n1 n2 z) upd_same (by rw [upd_ne hne.symm]; exact h3) h4
  cases B with
  | nil =>
    rw [if_neg (by simp)]
    cases hq : A'.getLast? with
    | none =>
      have : A' = [] := List.getLast?_eq_none_iff.mp hq
      rw [if_neg (by rw [this]; simp)]
      exact fin es H (fun b o _ _ z => z) hel hsp (by unfold setE; rw [hq]; rfl)
    | some q =>
      have : A' ≠ [] := fun z => by rw [z] at hq; cases hq
      rw [if_pos (by have := List.length_pos_iff.mpr this; omega)]
      exact mid es H (fun b o _ _ z => z) hel rfl hsp q hq (by unfold setE; rw [hq]; rfl)
  | cons b Br =>
    rw [if_pos (by simp; omega)]
    have hat : (A' ++ b :: Br)[A'.length]? = some b := by rw [List.getElem?_append_right (Nat.le_refl _)]; simp
    have hbn : b < es.length := hq b (by simp)
    refine ⟨_, SqL.of hsp, _, natsV_at hat, _, _, rfl, hel, b, by rw [List.length_map]; exact ixN_nat hbn, ?_⟩
    have em : (es.map V.int).set b (V.int (i : Nat)) = (es.set b (i : Int)).map V.int := by rw [List.map_set]
    rw [em]
    cases hq2 : A'.getLast? with
    | none =>
      have : A' = [] := List.getLast?_eq_none_iff.mp hq2
      rw [if_neg (by rw [this]; simp)]
      exact fin (es.set b i) _ (fun c o n1 n2 z => by rw [upd_ne n1]; exact z) upd_same (by rw [upd_ne hne.symm]; exact hsp) (by unfold setE; rw [hq2]; rfl)
    | some q =>
      have : A' ≠ [] := fun z => by rw [z] at hq2; cases hq2
      rw [if_pos (by have := List.length_pos_iff.mpr this; omega)]
      exact mid (es.set b i) _ (fun c o n1 n2 z => by rw [upd_ne n1]; exact z) upd_same (by simp) (by rw [upd_ne hne.symm]; exact hsp) q hq2 (by unfold setE; rw [hq2]; rfl)
theorem ok_tree_of {f : Addr} {fd : FuncData} (F : Fun K "tree_of" "tree_of" s_tree_of f fd) (G_settle : Callee P w K mg base "settle" 1 ["elders", "spine", "place", "keep"] (sp_settle K mg)) (T : Txt K mg) : FnOk P w K mg base (CXE P w) 2 f fd ["row"] (sp_tree_of K mg) := by
  refine F.okX sc_tree_of (fun vs H Q E h => ?_) (fun cdv A outer s H vs Q E hr h => ?_)
  · obtain ⟨r, ns, rfl, _⟩ := h; rfl
  obtain ⟨r, ns, rfl, hS, hn, k1⟩ := h
  refine ⟨_, (pss_cons (ps_set (i := 1) sc_tree_of.nd rfl (Or.inl rfl) (pe_op op_rep (pe_lst (pa_cons (pe_un un_neg pe_int) pa_nil)) (pe_callB (call_lenK (K := K) rfl) rfl T.b_len PySem.boot_len (pa_cons (pv 0) pa_nil))))
      (pss_cons (ps_set (i := 2) sc_tree_of.nd rfl (Or.inl rfl) (pe_lst pa_nil))
      (pss_cons (ps_nox (ps_for PassesOwn.never rfl (pi_range1 rfl T.b_range (pa_cons (pe_callB (call_lenK (K := K) rfl) rfl T.b_len PySem.boot_len (pa_cons (pv 0) pa_nil)) pa_nil)) (pg_name (i := 3) sc_tree_of.nd rfl (Or.inl rfl)) (pss_cons (ps_set (i := 4) sc_tree_of.nd rfl (Or.inl rfl) (pe_callB (call_lenK (K := K) rfl) rfl T.b_len PySem.boot_len (pa_cons (pv 2) pa_nil)))
      (pss_cons (ps_nox (ps_while PassesOwn.never (PW.pt (pw_and (pt_cmpR op_gt (pv 4) pe_int (nomark _)) (pw_and1 (pt_cmpR op_gt (pe_ix (ix_q (K := K) rfl) (pv 0) (pe_ix ix_list (pv 2) (pe_op op_sub (pv 4) pe_int) (fun _ _ => rfl)) (fun _ _ => rfl)) (pe_ix (ix_q (K := K) rfl) (pv 0) (pv 3) (fun _ _ => rfl)) (nomark _))))) (pss_one (ps_aug (i := 4) sc_tree_of.nd rfl (Or.inl rfl) pe_int ip_sub))))
      (pss_one (ps_expr (pe_callF G_settle (hr.mono (by decide)) rfl passE (pa_cons (pv 1) (pa_cons (pv 2) (pa_cons (pv 3) (pa_cons (pv 4) pa_nil)))))))))))
      (pss_one (ps_ret (pe_callTy (call_tupK (K := K) rfl) rfl T.b_tuple bt_tuple (pa_cons (pv 1) pa_nil))))))), ?_⟩
  walk_at "rd"
  have eL : (ns.map V.int).length = ns.length := List.length_map ..
  refine ⟨by decide, fun p hp => ⟨_, ((Same.refl H).upd hp).q hS, _, upd_same, by omega, by rw [eL]; omega, ?_, fun el hel => ⟨Nat.zero_le _, fun sp hsp => ?_⟩⟩⟩
  · exact Nat.le_trans (show _ ≤ 1000 by simp; omega) (by decide)
  have s0 : Same H (upd (upd (upd H p (.lst [V.int (-1)])) el (.lst (List.replicate (((ns.map V.int).length : Nat) : Int).toNat [V.int (-1)]).flatten)) sp (.lst [])) := (((Same.refl H).upd hp).upd' hel).upd' hsp
  refine ⟨_, s0.q hS, by omega, by rw [eL]; omega, ?_⟩
  have en : (((ns.map V.int).length : Nat) : Int).toNat = ns.length := by rw [eL]; omega
  have hel0 : (upd (upd (upd H p (.lst [V.int (-1)])) el (.lst (List.replicate (((ns.map V.int).length : Nat) : Int).toNat [V.int (-1)]).flatten)) sp (.lst [])) el = some (.lst ((List.replicate ns.length (-1 : Int)).map V.int)) := by
    have := ((Same.refl _).upd' (o := .lst []) hsp) el _ upd_same
    rw [this, en]; simp
  have hsp0 : (upd (upd (upd H p (.lst [V.int (-1)])) el (.lst (List.replicate (((ns.map V.int).length : Nat) : Int).toNat [V.int (-1)]).flatten)) sp (.lst [])) sp = some (.lst (natsV [])) := upd_same
  have nes : el ≠ sp := fun z => by
    subst z
    rw [upd_same] at hsp; cases hsp
  have zel : H el = none := ((Same.refl H).upd hp).free hel
  have zsp : H sp = none := (((Same.refl H).upd hp).upd' hel).free hsp
  rw [en] at hel0 hsp0 s0 ⊢
  generalize (upd (upd (upd H p (.lst [V.int (-1)])) el (.lst (List.replicate ns.length [V.int (-1)]).flatten)) sp (.lst [])) = H0 at s0 hel0 hsp0 ⊢
  refine for_range (fun i σ Hx => ∃ (es : List Int) (S : List Nat) (v3 v4 : Option V), σ = [some (.ref r), some (.ref el), some (.ref sp), v3, v4] ∧ Same H Hx ∧ Hx el = some (.lst (es.map V.int)) ∧ Hx sp = some (.lst (natsV S)) ∧ es.length = ns.length ∧ Spine (nth ns) i S ∧ (∀ p e, p < i → e = es.getD p 0 → ElderIs (nth ns) i p e) ∧ ∀ p, i ≤ p → p < ns.length → es.getD p 0 = -1)
    ⟨List.replicate ns.length (-1), [], none, none, rfl, s0, hel0, hsp0, by simp, ⟨List.Pairwise.nil, fun q => by simp⟩, fun p e hp => by omega, fun p _ hp => by simp [List.getD_eq_getElem?_getD, hp]⟩ ?_ ?_
  · rintro i σ Hx hi ⟨es, S, v3, v4, rfl, sx, hxe, hxs, hesl, hS2, hE, hE2⟩
    walk_at "rd"
    have hin : i < ns.length := by omega
    have hSl : S.length ≤ 1000 := by
      rcases pw_len S i 0 hS2.1 (fun q hq => ⟨Nat.zero_le _, ((hS2.2 q).mp hq).1⟩) with z | z
      · omega
      · rw [z]; simp
    refine ⟨_, .inl (SqL.of hxs), ?_⟩
    rw [natsV_len]
    refine while_i S.length (fun j σ Hy => ∃ A B, S = A ++ B ∧ B.length = j ∧ (∀ q ∈ B, nth ns i < nth ns q) ∧ σ = [some (.ref r), some (.ref el), some (.ref sp), some (.int (0 + (i : Int))), some (.int (A.length : Nat))] ∧ Hy = Hx) ⟨S, [], by simp, rfl, (fun q hq => absurd hq (by simp)), rfl, rfl⟩ ?_
    rintro j σ Hy hj ⟨A, B, hAB, hBl, hBg, rfl, rfl⟩
    walk_at "rd"
    have hmem : ∀ q, q ∈ A ++ B → q < i := fun q hq => ((hS2.2 q).mp (by rw [hAB]; exact hq)).1
    have hix : (0 + (i : Int)) = (i : Int) := by omega
    rw [hix]
    by_cases hA0 : A = []
    case' pos =>
      rw [if_neg (by rw [hA0]; simp)]
      have hA : ∀ q ∈ A, nth ns q ≤ nth ns i := fun q hq => absurd hq (by rw [hA0]; simp)
    case' neg =>
      obtain ⟨q, Al, rfl⟩ : ∃ q Al, A = Al ++ [q] := ⟨A.getLast hA0, A.dropLast, (List.dropLast_concat_getLast hA0).symm⟩
      have hal : (Al ++ [q]).length = Al.length + 1 := by simp
      rw [if_pos (by rw [hal]; omega)]
      have eiA : (((Al ++ [q]).length : Nat) : Int) - 1 = (Al.length : Int) := by rw [hal]; omega
      have hat : S[Al.length]? = some q := by
        rw [hAB, List.append_assoc, List.getElem?_append_right (Nat.le_refl _)]; simp
      have hqi : q < i := hmem q (by simp)
      refine ⟨_, SqL.of hxs, _, by rw [eiA]; exact natsV_at hat, _, _, rfl, sx.q hS, _, nth_at (by omega), _, sx.q hS, _, nth_at hin, _, rfl, _, rfl, ite2 (fun hlt => ?_) (fun hge => ?_)⟩
      · have hj2 : j + 1 ≤ S.length := by rw [hAB, List.length_append, hal]; omega
        refine ⟨_, WI.next, hj2, Al, q :: B, by rw [hAB]; simp, by simp [hBl], fun x hx => ?_, by rw [eiA], rfl⟩
        rcases List.mem_cons.mp hx with z | z
        · rw [z]; exact hlt
        · exact hBg x z
      have hA : ∀ x ∈ Al ++ [q], nth ns x ≤ nth ns i := fun x hx => by
        by_cases z : x = q
        · rw [z]; omega
        · have hxa : x ∈ Al := by
            rcases List.mem_append.mp hx with y | y
            · exact y
            · exact absurd (by simpa using y) z
          have hpw := hS2.1
          rw [hAB] at hpw
          have hxq : x < q := (List.pairwise_append.mp (List.pairwise_append.mp hpw).1).2.2 x hxa q (by simp)
          have := ((hS2.2 x).mp (by rw [hAB]; exact List.mem_append_left _ hx)).2 q hxq hqi
          omega
      generalize Al ++ [q] = A at hA hAB hmem hA0 ⊢
    all_goals
      have SS := spine_step (f := nth ns) (i := i) (A := A) (B := B) (by rw [← hAB]; exact hS2) hA hBg
      refine ⟨el, sp, es, A, B, i, rfl, hxe, by rw [← hAB]; exact hxs, nes, by omega, fun q hq => by have := hmem q hq; omega, by rw [← hAB]; exact hSl, fun H' q1 q2 q3 => ?_⟩
      have hbi : ∀ b, B.head? = some b → b ≠ i := fun b hb => by
        have := hmem b (List.mem_append_right _ (List.mem_of_head? hb)); omega
      refine ⟨fun b o z => q1 b o (ne_of_none z zel) (ne_of_none z zsp) (sx b o z), setE es A B i, q2, A ++ [i], q3, by rw [setE_len]; exact hesl, SS.1, fun p e hp he => ?_, fun p hp1 hp2 => ?_⟩
      · rw [setE_at _ _ _ _ _ (by omega) hbi] at he
        by_cases z : p = i
        · subst z
          rw [if_pos rfl, hE2 p (Nat.le_refl _) (by omega)] at he
          rw [he]; exact SS.2.1
        · rw [if_neg z] at he
          rw [he]
          exact SS.2.2 p _ (by omega) (hE p _ (by omega) rfl)
      · rw [setE_at _ _ _ _ _ (by omega) hbi, if_neg (by omega), if_neg (fun z => ?_)]
        · exact hE2 p (by omega) hp2
        · have := hmem p (List.mem_append_right _ (List.mem_of_head? z)); omega
  · rintro σ Hx ⟨es, S, v3, v4, rfl, sx, hxe, hxs, hesl, hS2, hE, hE2⟩
    walk_at "rd"
    exact ⟨_, .inl ⟨SqL.of hxe, fun t ht => k1 t es _ ⟨hesl, fun p hp => hE p _ hp rfl⟩ (sx.upd' ht) upd_same⟩⟩

theorem ok_way_up {f : Addr} {fd : FuncData} (F : Fun K "way_up" "way_up" s_way_up f fd)  (T : Txt K mg) : FnOk P w K mg base (CXE P w) 1 f fd ["tree", "place"] (sp_way_up K mg) := by
  refine F.okX sc_way_up (fun vs H Q E h => ?_) (fun cdv A outer s H vs Q E hr h => ?_)
  · obtain ⟨t, T, p, rfl, _⟩ := h; rfl
  obtain ⟨t, T', p, rfl, ht, hn, hp, k1⟩ := h
  refine ⟨_, (pss_cons (ps_set (i := 2) sc_way_up.nd rfl (Or.inl rfl) (pe_lst pa_nil))
      (pss_cons (ps_set (i := 3) sc_way_up.nd rfl (Or.inl rfl) (pe_ix ix_tup (pv 0) (pv 1) (fun _ _ => rfl)))
      (pss_cons (ps_nox (ps_while PassesOwn.never (PW.pt (pw_and (pt_chain op_le op_lt pe_int (pv 3) (pe_callB (call_lenK (K := K) rfl) rfl T.b_len PySem.boot_len (pa_cons (pv 0) pa_nil))) (pw_and1 (pt_cmpR op_lt (pe_callB (call_lenK (K := K) rfl) rfl T.b_len PySem.boot_len (pa_cons (pv 2) pa_nil)) (pe_callB (call_lenK (K := K) rfl) rfl T.b_len PySem.boot_len (pa_cons (pv 0) pa_nil)) (nomark _))))) (pss_cons (ps_expr (pe_bm PySem.F.plainAttrs_list PySem.F.slot_list_append PySem.F.type_list_append mt_append (pv 2) (pa_cons (pv 3) pa_nil)))
      (pss_one (ps_set (i := 3) sc_way_up.nd rfl (Or.inl rfl) (pe_ix ix_tup (pv 0) (pv 3) (fun _ _ => rfl)))))))
      (pss_one (ps_ret (pv 2)))))), ?_⟩
  walk_at "rd"
  refine ⟨Nat.zero_le _, fun l hl => ⟨_, SqT.of (((Same.refl H).upd hl) _ _ ht), _, nth_at hp, ?_⟩⟩
  refine while_i T'.length (fun j σ Hx => Same H Hx ∧ Hx l = some (.lst (natsV (wayF T' j (nth T' p)))) ∧ (wayF T' j (nth T' p)).length = j ∧ σ = [some (.ref t), some (.int p), some (.ref l), some (.int (wayAt T' j (nth T' p)))]) ⟨(Same.refl H).upd hl, upd_same, rfl, rfl⟩ ?_
  rintro j σ Hx hj ⟨sx, hxl, hjl, rfl⟩
  walk_at "rd"
  have hlen : (natsV (wayF T' j (nth T' p))).length = j := by rw [natsV_len]; exact hjl
  have eL : (T'.map V.int).length = T'.length := List.length_map ..
  have done : (j = T'.length ∨ ¬ (0 ≤ wayAt T' j (nth T' p) ∧ wayAt T' j (nth T' p) < T'.length)) → Q (.ref l) Hx := fun z => by
    refine k1 l Hx hl sx ?_
    have : wayF T' T'.length (nth T' p) = wayF T' j (nth T' p) := by
      rcases z with z | z
      · rw [← z]
      · exact wayF_stop T' j _ _ hj hjl z
    rw [hxl]; unfold wayI; rw [this]; simp [natsV]
  refine ite2 (fun h0 => ⟨_, .inr (SqT.of (sx _ _ ht)), ite2 (fun h1 => ⟨_, .inl (SqL.of hxl), _, .inr (SqT.of (sx _ _ ht)), ite2 (fun h2 => ?_) fun h2 => done (.inl (by rw [hlen, eL] at h2; omega))⟩) fun h1 => done (.inr (by rw [eL] at h1; omega))⟩) fun h0 => done (.inr (by omega))
  rw [eL] at h1; rw [hlen, eL] at h2
  obtain ⟨a1, a2⟩ := wayF_snoc T' j (nth T' p) h0 h1 hjl
  have ei : wayAt T' j (nth T' p) = (((wayAt T' j (nth T' p)).toNat : Nat) : Int) := by omega
  have nlt : t ≠ l := ne_of_none ht hl
  refine ⟨_, WI.next, tyV_list hxl, _, hxl, by rw [hlen]; exact Nat.lt_of_le_of_lt (show _ ≤ 1000 by omega) (by decide), _, SqT.of (by rw [upd_ne nlt]; exact sx _ _ ht), _, (congrArg (atI _) ei).trans (nth_at (by omega)), by omega, sx.upd hl, ?_, ?_, ?_⟩
  · rw [upd_same, a1, natsV_app]
    have : natsV [(wayAt T' j (nth T' p)).toNat] = [V.int (wayAt T' j (nth T' p))] := by rw [ei]; simp [natsV]
    rw [this]
  · rw [a1]; simp [hjl]
  · rw [a2]

theorem ok_fences_of {f : Addr} {fd : FuncData} (F : Fun K "fences_of" "fences_of" s_fences_of f fd) (G_way_up : Callee P w K mg base "way_up" 1 ["tree", "place"] (sp_way_up K mg)) (T : Txt K mg) : FnOk P w K mg base (CXE P w) 2 f fd ["tree"] (sp_fences_of K mg) := by
  refine F.okX sc_fences_of (fun vs H Q E h => ?_) (fun cdv A outer s H vs Q E hr h => ?_)
  · obtain ⟨t, ns, T, rfl, _⟩ := h; rfl
  obtain ⟨t, ns, T', rfl, ht, hT, hn, k1⟩ := h
  refine ⟨_, (pss_cons (ps_set (i := 1) sc_fences_of.nd rfl (Or.inl rfl) (pe_lst pa_nil))
      (pss_cons (ps_nox (ps_for PassesOwn.never rfl (pi_range1 rfl T.b_range (pa_cons (pe_callB (call_lenK (K := K) rfl) rfl T.b_len PySem.boot_len (pa_cons (pv 0) pa_nil)) pa_nil)) (pg_name (i := 2) sc_fences_of.nd rfl (Or.inr rfl)) (pss_cons (ps_set (i := 3) sc_fences_of.nd rfl (Or.inl rfl) (pe_callF G_way_up (hr.mono (by decide)) rfl passE (pa_cons (pv 0) (pa_cons (pv 2) pa_nil))))
      (pss_cons (ps_set (i := 4) sc_fences_of.nd rfl (Or.inl rfl) (pe_maxD (K := K) rfl rfl rfl T.b_max (pa_cons (pe_compN ["elder", "place"] [none, some 2] rfl rfl rfl (pi_list (pv 3)) (fun _ _ _ _ _ => (pg_name (i := 0) (show (["elder", "place"] : List Str).Nodup from by decide +kernel) rfl (Or.inl rfl))) (fun _ _ _ _ _ => pifs_one (pt_cmpR op_lt (pv 0) (pv 1) (nomark _))) (fun _ _ _ _ _ => (pv 0)) only_name) pa_nil) (pk_cons (pe_un un_neg pe_int) pk_nil)))
      (pss_cons (ps_set (i := 5) sc_fences_of.nd rfl (Or.inl rfl) (pe_minD (K := K) rfl rfl rfl T.b_min (pa_cons (pe_compN ["elder", "place"] [none, some 2] rfl rfl rfl (pi_list (pv 3)) (fun _ _ _ _ _ => (pg_name (i := 0) (show (["elder", "place"] : List Str).Nodup from by decide +kernel) rfl (Or.inl rfl))) (fun _ _ _ _ _ => pifs_one (pt_cmpR op_gt (pv 0) (pv 1) (nomark _))) (fun _ _ _ _ _ => (pv 0)) only_name) pa_nil) (pk_cons (pe_callB (call_lenK (K := K) rfl) rfl T.b_len PySem.boot_len (pa_cons (pv 0) pa_nil)) pk_nil)))
      (pss_one (ps_expr (pe_bm PySem.F.plainAttrs_list PySem.F.slot_list_append PySem.F.type_list_append mt_append (pv 1) (pa_cons (pe_tup (pa_cons (pv 4) (pa_cons (pv 5) pa_nil))) pa_nil)))))))))
      (pss_one (ps_ret (pv 1))))), ?_⟩
  walk_at "rd"
  have eT : T'.length = ns.length := hT.1
  have eL : (T'.map V.int).length = T'.length := List.length_map ..
  refine ⟨Nat.zero_le _, fun p hp => ?_⟩
  have s0 : Same H (upd H p (.lst [])) := (Same.refl H).upd hp
  refine ⟨_, .inr (SqT.of (s0 _ _ ht)), by omega, by rw [eL]; omega, ?_⟩
  have en : (((T'.map V.int).length : Nat) : Int).toNat = ns.length := by rw [eL]; omega
  rw [en]
  have h0 : PairsAt (upd H p (.lst [])) p 0 (fun p => (fenA (nth ns) p, fenB (nth ns) ns.length p)) := ⟨[], upd_same, rfl, fun j q hq => by simp at hq⟩
  generalize upd H p (.lst []) = H0 at s0 h0 ⊢
  refine for_range (fun i σ Hx => ∃ v2 v3 v4 v5, σ = [some (.ref t), some (.ref p), v2, v3, v4, v5] ∧ PairsAt Hx p i (fun p => (fenA (nth ns) p, fenB (nth ns) ns.length p)) ∧ Same H Hx) ⟨_, _, _, _, rfl, h0, s0⟩ ?_ ?_
  · rintro i σ Hx hi ⟨v2, v3, v4, v5, rfl, hP, sx⟩
    have e0 : ((0 : Int) + (i : Int)) = (i : Int) := by omega
    rw [e0]
    have hpi : i < ns.length := hi
    have hw1 : (wayI T' i).length ≤ 1000 := by simp only [wayI, List.length_map]; exact Nat.le_trans (wayF_len _ _ _) (by omega)
    refine seqR (fun σ Hy => ∃ w : Addr, σ = [some (.ref t), some (.ref p), some (.int (i : Int)), some (.ref w), v4, v5] ∧ Hy w = some (.lst ((wayI T' i).map V.int)) ∧ PairsAt Hy p i (fun p => (fenA (nth ns) p, fenB (nth ns) ns.length p)) ∧ Same H Hy) (fun R hR => ?_) ?_
    · walk_at "rd"
      exact ⟨t, T', i, rfl, sx _ _ ht, by omega, by omega, fun w H1 hw s1 h1 => hR _ _ ⟨w, rfl, h1, hP.same s1, sx.trans s1⟩⟩
    rintro σ Hy ⟨w, rfl, hw, hP1, sy⟩
    refine seqR (fun σ Hz => σ = [some (.ref t), some (.ref p), some (.int (i : Int)), some (.ref w), some (.int (fenA (nth ns) i)), v5] ∧ Hz w = some (.lst ((wayI T' i).map V.int)) ∧ PairsAt Hz p i (fun p => (fenA (nth ns) p, fenB (nth ns) ns.length p)) ∧ Same H Hz) (fun R hR => ?_) ?_
    · walk_at "rd"
      refine ⟨⟨_, SqL.of hw⟩, comp_sift (fun o => decide (o < (i : Int))) hw hw1 (fun x Hy R hR => ?_) fun l H2 s2 hl => ?_⟩
      · walk_at "rd"
        exact hR
      have FA := fenA_max hT hpi
      have g := s2.upd' (o := .lst (((wayI T' i).filter fun o => decide (o < (i : Int))).map V.int)) hl
      refine ⟨l, rfl, _, SqL.of upd_same, fun e => ?_, fun hne m hm hmax => ?_⟩
      · rw [← FA.1 e]
        exact hR _ _ ⟨rfl, g _ _ hw, hP1.same g, sy.trans g⟩
      · rw [FA.2 hne m hm hmax]
        exact hR _ _ ⟨rfl, g _ _ hw, hP1.same g, sy.trans g⟩
    clear hw hP1 sy Hy
    rintro σ Hy ⟨rfl, hw, hP1, sy⟩
    refine seqR (fun σ Hz => σ = [some (.ref t), some (.ref p), some (.int (i : Int)), some (.ref w), some (.int (fenA (nth ns) i)), some (.int (fenB (nth ns) ns.length i))] ∧ PairsAt Hz p i (fun p => (fenA (nth ns) p, fenB (nth ns) ns.length p)) ∧ Same H Hz) (fun R hR => ?_) ?_
    · walk_at "rd"
      refine ⟨⟨_, SqL.of hw⟩, comp_sift (fun o => decide ((i : Int) < o)) hw hw1 (fun x Hy R hR => ?_) fun l H2 s2 hl => ?_⟩
      · walk_at "rd"
        exact hR
      have FB := fenB_min hT hpi
      have g := s2.upd' (o := .lst (((wayI T' i).filter fun o => decide ((i : Int) < o)).map V.int)) hl
      refine ⟨_, .inr (SqT.of ((sy.trans g) _ _ ht)), l, rfl, _, SqL.of upd_same, fun e => ?_, fun hne m hm hmin => ?_⟩
      · rw [eL, eT, ← FB.1 e]
        exact hR _ _ ⟨rfl, hP1.same g, sy.trans g⟩
      · rw [FB.2 hne m hm hmin]
        exact hR _ _ ⟨rfl, hP1.same g, sy.trans g⟩
    clear hw hP1 sy Hy
    rintro σ Hy ⟨rfl, hP1, sy⟩
    walk_at "rd"
    obtain ⟨qs, hq1, hq2, hq3⟩ := id hP1
    refine ⟨tyV_list hq1, by decide, fun q hq => ?_⟩
    have g := (Same.refl Hy).upd (o := .tup [.int (fenA (nth ns) i), .int (fenB (nth ns) ns.length i)]) hq
    obtain ⟨xs, hx1, hx2, hx3⟩ := (hP1.same g).push (q := q) upd_same
    have zp : H p = none := hp
    refine ⟨xs, hx1, Nat.lt_of_le_of_lt (show _ ≤ 1000 by omega) (by decide), hx3, fun b o z => ?_⟩
    rw [upd_ne (ne_of_none z zp)]
    exact (sy.trans g) b o z
  · rintro σ Hx ⟨v2, v3, v4, v5, rfl, hP, sx⟩
    walk_at "rd"
    exact k1 p Hx sx hP

theorem ok_distance_list {f : Addr} {fd : FuncData} (F : Fun K "distance_list" "distance_list" s_distance_list f fd) (G_fences_of : Callee P w K mg base "fences_of" 2 ["tree"] (sp_fences_of K mg)) (T : Txt K mg) : FnOk P w K mg base (CXE P w) 3 f fd ["tree"] (sp_distance_list K mg) := by
  refine F.okX sc_distance_list (fun vs H Q E h => ?_) (fun cdv A outer s H vs Q E hr h => ?_)
  · obtain ⟨t, ns, T, rfl, _⟩ := h; rfl
  obtain ⟨t, ns, T', rfl, ht, hT, hn, k1⟩ := h
  refine ⟨_, (pss_one (ps_ret (pe_compN ["place", "ahead", "behind"] [none, none, none] rfl rfl rfl (pi_enum (K := K) rfl rfl T.b_enumerate (pa_cons (pe_callF G_fences_of (hr.mono (by decide)) rfl passE (pa_cons (pv 0) pa_nil)) pa_nil)) (fun _ _ _ _ _ => (pg_tupK (K := K) (n := 2) rfl rfl (pgs_cons (pg_name (i := 0) (show (["place", "ahead", "behind"] : List Str).Nodup from by decide +kernel) rfl (Or.inl rfl)) (pgs_cons (pg_tupK (K := K) (n := 2) rfl rfl (pgs_cons (pg_name (i := 1) (show (["place", "ahead", "behind"] : List Str).Nodup from by decide +kernel) rfl (Or.inl rfl)) (pgs_cons (pg_name (i := 2) (show (["place", "ahead", "behind"] : List Str).Nodup from by decide +kernel) rfl (Or.inl rfl)) pgs_nil))) pgs_nil)))) (fun _ _ _ _ _ => pifs_nil) (fun _ _ _ _ _ => (pe_ifExp (pt_cmpR op_ge (pv 1) pe_int (nomark _)) (pe_op op_sub (pv 0) (pv 1)) pe_int)) (only_tup (only_cons only_name (only_cons (only_tup (only_cons only_name (only_cons only_name only_nil))) only_nil)))))), ?_⟩
  walk_at "rd"
  refine ⟨t, ns, T', rfl, ht, hT, hn, fun l H1 s1 hP => ?_⟩
  obtain ⟨qs, h1, h2, h3⟩ := hP
  refine ⟨l, rfl, _, SqL.of h1, comp_map (n := ns.length) (fun q => V.int (distN (nth ns) q)) (Nat.lt_of_le_of_lt (show _ ≤ 1000 by omega) (by decide)) (fun j Hx s hj => ⟨_, _, SqL.of (s _ _ h1), List.getElem?_eq_getElem (by simpa [h2] using hj)⟩) (fun Hx s => ⟨_, SqL.of (s _ _ h1), by simp [h2]⟩) ?_ ?_⟩
  · rintro j x Hx Hy hj s ⟨p, x, hp, rfl, rfl, hx⟩
    have hx1 := hx _ (SqL.of (s _ _ h1))
    obtain ⟨q, hq⟩ : ∃ q, qs[j]? = some q := ⟨qs[j]'(by omega), List.getElem?_eq_getElem (by omega)⟩
    rw [List.getElem?_map, hq] at hx1
    cases hx1
    have hq1 := s _ _ (h3 j q hq)
    have hq2 := ((Same.refl Hx).upd (o := .tup [.int (j : Int), .ref q]) hp) _ _ hq1
    walk_at "rd"
    refine ⟨_, SqT.of upd_same, rfl, _, _, rfl, _, _, rfl, _, rfl, _, SqT.of hq2, rfl, _, _, rfl, _, _, rfl, rfl, rfl, _, rfl, ite2 (fun z => ⟨_, rfl, _, rfl, CW.next hj ?_ (s.upd' hp)⟩) fun z => CW.next hj ?_ (s.upd' hp)⟩
    · unfold distN; rw [if_pos z]
    · unfold distN; rw [if_neg z]
  · intro l' Hx s hl'
    have ed : (List.range ns.length).map (fun q => V.int (distN (nth ns) q)) = (distI ns).map V.int := by simp [distI]
    rw [ed]
    exact k1 l' _ ((s1.trans s).free hl') ((s1.trans s).upd' hl') upd_same

theorem ok_row_distances {f : Addr} {fd : FuncData} (F : Fun K "row_distances" "row_distances" s_row_distances f fd) (G_tree_of : Callee P w K mg base "tree_of" 2 ["row"] (sp_tree_of K mg)) (G_distance_list : Callee P w K mg base "distance_list" 3 ["tree"] (sp_distance_list K mg)) (T : Txt K mg) : FnOk P w K mg base (CXE P w) 4 f fd ["row"] (sp_row_distances K mg) := by
  refine F.okX sc_row_distances (fun vs H Q E h => ?_) (fun cdv A outer s H vs Q E hr h => ?_)
  · obtain ⟨r, ns, rfl, _⟩ := h; rfl
  obtain ⟨r, ns, rfl, hS, hn, k1⟩ := h
  refine ⟨_, (pss_one (ps_ret (pe_callF G_distance_list (hr.mono (by decide)) rfl passE (pa_cons (pe_callF G_tree_of (hr.mono (by decide)) rfl passE (pa_cons (pv 0) pa_nil)) pa_nil)))), ?_⟩
  walk_at "rd"
  exact ⟨r, ns, rfl, hS, hn, fun t es H1 hT s1 ht => ⟨t, ns, es, rfl, ht, hT, hn, fun l H2 zl s2 hl => k1 l _ (s1.free zl) (s1.trans s2) hl⟩⟩
theorem ok_seen_within {f : Addr} {fd : FuncData} (F : Fun K "seen_within" "seen_within" s_seen_within f fd)  (T : Txt K mg) : FnOk P w K mg base (CXE P w) 1 f fd ["distance", "size"] (sp_seen_within K mg) := by
  refine F.okX sc_seen_within (fun vs H Q E h => ?_) (fun cdv A outer s H vs Q E hr h => ?_)
  · obtain ⟨d, k, rfl, _⟩ := h; rfl
  obtain ⟨d, k, rfl, k1⟩ := h
  refine ⟨_, (pss_one (ps_ret (pe_ifExp (pt_cmpR op_le (pv 0) (pv 1) (nomark _)) (pv 0) pe_int))), ?_⟩
  walk_at "rd"
  unfold sw at k1
  by_cases h : d ≤ k
  · rw [if_pos h] at k1 ⊢; exact k1
  · rw [if_neg h] at k1 ⊢; exact k1
theorem ok__law_either {f : Addr} {fd : FuncData} (F : Fun K "_law_either" "_law_either" s__law_either f fd) (G__law_take : Callee P w K mg base "_law_take" 1 ["pot", "many"] (sp__law_take K mg)) (T : Txt K mg) : FnOk P w K mg base (CXE P w) 2 f fd ["pot", "some"] (sp__law_either K mg) := by
  refine F.okX sc__law_either (fun vs H Q E h => ?_) (fun cdv A outer s H vs Q E hr h => ?_)
  · obtain ⟨p, r, ns, rfl, _⟩ := h; rfl
  obtain ⟨p, r, ns, rfl, hP, nrp, hr1, hn, k1⟩ := h
  refine ⟨_, (pss_one (ps_ret (pe_ix ix_tup (pe_tup (pa_cons (pe_callTy (call_listK (K := K) rfl) rfl T.b_list bt_list (pa_cons (pv 1) pa_nil)) (pa_cons (pe_callTy (call_tupK (K := K) rfl) rfl T.b_tuple bt_tuple (pa_cons (pv 1) pa_nil)) pa_nil))) (pe_callF G__law_take (hr.mono (by decide)) rfl passE (pa_cons (pv 0) (pa_cons pe_int pa_nil))) (fun _ _ => rfl)))), ?_⟩
  walk_at "rd"
  refine ⟨_, .inl (SqL.of hr1), fun l hl => ?_⟩
  have g1 := (Same.refl H).upd (o := .lst (ns.map V.int)) hl
  refine ⟨_, .inl ⟨SqL.of (g1 _ _ hr1), fun l2 hl2 => ⟨by decide, fun c hc => ?_⟩⟩⟩
  have g2 := (Same.refl _).upd (o := .tup (ns.map V.int)) hl2
  have g3 := (Same.refl _).upd (o := .tup [V.ref l, V.ref l2]) hc
  have gg := (g1.trans g2).trans g3
  have hl3 := (g2.trans g3) _ _ (upd_same (H := H) (a := l) (o := .lst (ns.map V.int)))
  have hl23 := g3 _ _ (upd_same (a := l2) (o := .tup (ns.map V.int)) (H := upd H l (.lst (ns.map V.int))))
  have nlp : l ≠ p := hP.ne hl
  have nl2p : l2 ≠ p := (hP.same g1).ne hl2
  have ncp : c ≠ p := (hP.same (g1.trans g2)).ne hc
  refine ⟨p, _, rfl, by decide, by decide, hP.same gg, fun d H2 d0 d1 P2 e2 => ⟨_, d, rfl, SqT.of (e2 _ _ ncp upd_same), ?_⟩⟩
  have ex := (Same.refl H).toExc.same gg |>.trans e2
  rcases (by omega : d = 0 ∨ d = 1) with rfl | rfl
  · exact ⟨_, rfl, k1 l H2 hl (.inl (e2 _ _ nlp hl3)) P2 ex⟩
  · exact ⟨_, rfl, k1 l2 H2 (g1.free hl2) (.inr (e2 _ _ nl2p hl23)) P2 ex⟩

theorem kk_map (xs : List Int) : (xs.map (Sum.inl : Int → Key)).map kV = xs.map V.int := by rw [List.map_map]; rfl
theorem kk_inj : ∀ {xs ys : List Int}, xs.map (Sum.inl : Int → Key) = ys.map Sum.inl → xs = ys
  | [], [], _ => rfl
  | [], _ :: _, h => by cases h
  | _ :: _, [], h => by cases h
  | x :: xs, y :: ys, h => by
    rw [List.map_cons, List.map_cons] at h
    injection h with h1 h2
    injection h1 with h1
    rw [h1, kk_inj h2]
/-- the groups as far as the place j -/
def GrpsAt (H0 H : Hp) (p : Addr) (ns : List Int) (c j : Nat) : Prop := ∃ (kvs : List (List Key × V)) (as : List Addr), H p = some (.dT kvs) ∧ kvs.map (·.1) = (firstsE (alikeK ns c) j).map (fun f => (keyI ns c f).map Sum.inl) ∧ kvs.map (·.2) = as.map V.ref ∧ as.Nodup ∧ (∀ i (h1 : i < as.length) (h2 : i < (firstsE (alikeK ns c) j).length), H as[i] = some (.lst (natsV (grpE (alikeK ns c) j (firstsE (alikeK ns c) j)[i])))) ∧ (∀ a ∈ as, H0 a = none)
theorem GrpsAt.same {H0 H H' : Hp} {p : Addr} {ns : List Int} {c j : Nat} (h : GrpsAt H0 H p ns c j) (s : Same H H') : GrpsAt H0 H' p ns c j := by
  obtain ⟨kvs, as, h1, h2, h3, h4, h5, h6⟩ := h
  exact ⟨kvs, as, s _ _ h1, h2, h3, h4, fun i a b => s _ _ (h5 i a b), h6⟩
theorem alikeK_iff {ns : List Int} {c a b : Nat} : alikeK ns c a b = true ↔ keyI ns c a = keyI ns c b := decide_eq_true_iff
theorem first_one {ns : List Int} {c j f g : Nat} (hf : f ∈ firstsE (alikeK ns c) j) (hg : g ∈ firstsE (alikeK ns c) j) (e : keyI ns c f = keyI ns c g) : f = g := by
  have h1 := (firstsE_mem.mp hf).2
  have h2 := (firstsE_mem.mp hg).2
  rcases Nat.lt_trichotomy f g with h | h | h
  · have := h2 f h; rw [alikeK_iff.mpr e] at this; cases this
  · exact h
  · have := h1 g h; rw [alikeK_iff.mpr e.symm] at this; cases this
theorem natsV_snoc (xs : List Nat) (j : Nat) : natsV (xs ++ [j]) = natsV xs ++ [V.int (j : Int)] := by unfold natsV; rw [List.map_append]; rfl
theorem grpE_len (E : Nat → Nat → Bool) (j f : Nat) : (grpE E j f).length ≤ j := by
  unfold grpE
  refine Nat.le_trans (List.length_filter_le _ _) ?_
  rw [List.length_range]; exact Nat.le_refl _
theorem GrpsAt.old {H0 H : Hp} {p : Addr} {ns : List Int} {c j : Nat} (hG : GrpsAt H0 H p ns c j) {kvs : List (List Key × V)} (hp : H p = some (.dT kvs)) {v : V} (hv : valV kvs ((keyI ns c j).map Sum.inl) = some v) :
    ∃ a xs, v = .ref a ∧ a ≠ p ∧ H0 a = none ∧ H a = some (.lst xs) ∧ xs.length ≤ j ∧ GrpsAt H0 (upd H a (.lst (xs ++ [V.int (j : Int)]))) p ns c (j + 1) := by
  obtain ⟨kvs', as, h1, h2, h3, h4, h5, h6⟩ := hG
  rw [h1] at hp; cases hp
  obtain ⟨i, hi, e⟩ := valV_at hv
  have l1 : kvs.length = (firstsE (alikeK ns c) j).length := by simpa using congrArg List.length h2
  have l2 : kvs.length = as.length := by simpa using congrArg List.length h3
  have hF : i < (firstsE (alikeK ns c) j).length := by omega
  have hA : i < as.length := by omega
  have e1 : (keyI ns c (firstsE (alikeK ns c) j)[i]).map (Sum.inl : Int → Key) = (keyI ns c j).map Sum.inl := by
    have := congrArg (fun (l : List (List Key)) => l[i]?) h2
    simp only [List.getElem?_map, List.getElem?_eq_getElem hi, List.getElem?_eq_getElem hF, Option.map_some, e] at this
    exact (Option.some.inj this).symm
  have e2 : v = V.ref as[i] := by
    have := congrArg (fun (l : List V) => l[i]?) h3
    simp only [List.getElem?_map, List.getElem?_eq_getElem hi, List.getElem?_eq_getElem hA, Option.map_some, e] at this
    exact Option.some.inj this
  have ek := kk_inj e1
  have mF := List.getElem_mem hF
  have lF := (firstsE_mem.mp mF).1
  have eF : firstsE (alikeK ns c) (j + 1) = firstsE (alikeK ns c) j := firstsE_old lF (alikeK_iff.mpr ek)
  have hL := h5 i hA hF
  have np : as[i] ≠ p := fun z => by rw [z, h1] at hL; cases hL
  refine ⟨as[i], _, e2, np, h6 _ (List.getElem_mem hA), hL, by rw [natsV_len]; exact grpE_len _ _ _, kvs, as, by rw [upd_ne (Ne.symm np)]; exact h1, by rw [eF]; exact h2, h3, h4, fun i' a b => ?_, h6⟩
  have b' : i' < (firstsE (alikeK ns c) j).length := by rw [eF] at b; exact b
  have eg : (firstsE (alikeK ns c) (j + 1))[i'] = (firstsE (alikeK ns c) j)[i'] := by simp only [eF]
  rw [eg, grpE_succ]
  by_cases z : i' = i
  · subst z
    rw [upd_same, if_pos (alikeK_iff.mpr ek.symm), natsV_snoc]
  · rw [upd_ne (fun y => z ((List.getElem_inj h4).mp y)), if_neg, List.append_nil]
    · exact h5 i' a b'
    · intro y
      have := first_one (List.getElem_mem b') mF ((alikeK_iff.mp y).symm.trans ek.symm)
      exact z ((List.getElem_inj (firstsE_nodup _ _)).mp this)
theorem GrpsAt.new {H0 Hb H : Hp} {p l : Addr} {ns : List Int} {c j : Nat} (hG : GrpsAt H0 Hb p ns c j) (s : Same Hb H) (hlb : Hb l = none) (hl : H l = some (.lst [])) (hl0 : H0 l = none) {kvs : List (List Key × V)} (hp : H p = some (.dT kvs)) (hv : valV kvs ((keyI ns c j).map Sum.inl) = none) :
    GrpsAt H0 (upd (upd H p (.dT (kvs ++ [((keyI ns c j).map Sum.inl, V.ref l)]))) l (.lst ([] ++ [V.int (j : Int)]))) p ns c (j + 1) := by
  obtain ⟨kvs', as, h1, h2, h3, h4, h5, h6⟩ := hG
  have h1' := s _ _ h1
  rw [h1'] at hp; cases hp
  have nlp : p ≠ l := fun z => by rw [z, hlb] at h1; cases h1
  have l1 : kvs.length = (firstsE (alikeK ns c) j).length := by simpa using congrArg List.length h2
  have l2 : kvs.length = as.length := by simpa using congrArg List.length h3
  have no := valV_not hv
  rw [h2] at no
  have noE : ∀ b, b < j → alikeK ns c b j = false := by
    intro b hb
    rw [Bool.eq_false_iff]; intro z
    obtain ⟨f, f1, f2, f3⟩ := firstsE_of (E := alikeK ns c) (fun a b c h1 h2 => alikeK_iff.mpr ((alikeK_iff.mp h1).trans (alikeK_iff.mp h2))) (fun a => alikeK_iff.mpr rfl) j b hb
    have e : keyI ns c f = keyI ns c j := (alikeK_iff.mp f2).trans (alikeK_iff.mp z)
    exact no (List.mem_map.mpr ⟨f, f1, by rw [e]⟩)
  have eF := firstsE_new noE
  have nin : l ∉ as := fun z => by
    obtain ⟨i, hi, e⟩ := List.getElem_of_mem z
    have := h5 i hi (by omega)
    rw [e, hlb] at this; cases this
  refine ⟨_, as ++ [l], by rw [upd_ne nlp, upd_same], by rw [eF, List.map_append, List.map_append, h2]; rfl, by rw [List.map_append, List.map_append, h3]; rfl, nd_snoc h4 nin, fun i a b => ?_, fun a ha => ?_⟩
  · have b' : i < (firstsE (alikeK ns c) j ++ [j]).length := by rw [← eF]; exact b
    have eg : (firstsE (alikeK ns c) (j + 1))[i] = (firstsE (alikeK ns c) j ++ [j])[i] := by simp only [eF]
    rw [eg, grpE_succ]
    by_cases z : i < as.length
    · have z' : i < (firstsE (alikeK ns c) j).length := by omega
      rw [List.getElem_append_left z, List.getElem_append_left z']
      have h7 := h5 i z z'
      have nl : as[i] ≠ l := fun y => nin (y ▸ List.getElem_mem z)
      rw [upd_ne nl, upd_ne (fun y => by rw [y, h1] at h7; cases h7), if_neg, List.append_nil]
      · exact s _ _ h7
      · intro y
        have := noE _ (firstsE_mem.mp (List.getElem_mem z')).1
        rw [alikeK_iff.mpr (alikeK_iff.mp y).symm] at this; cases this
    · have ei : i = as.length := by simp at a; omega
      subst ei
      rw [List.getElem_append_right (Nat.le_refl _)]
      simp only [Nat.sub_self, List.getElem_cons_zero]
      have e3 : (firstsE (alikeK ns c) j ++ [j])[as.length] = j := by
        rw [List.getElem_append_right (by omega)]
        simp only [show as.length - (firstsE (alikeK ns c) j).length = 0 by omega, List.getElem_cons_zero]
      rw [e3, upd_same, if_pos (alikeK_iff.mpr rfl)]
      have e4 : grpE (alikeK ns c) j j = [] := by
        unfold grpE
        rw [List.filter_eq_nil_iff]
        intro b hb
        rw [noE b (List.mem_range.mp hb)]; exact Bool.false_ne_true
      rw [e4]; rfl
  · rcases List.mem_append.mp ha with ha | ha
    · exact h6 a ha
    · rw [List.mem_singleton.mp ha]; exact hl0
theorem groupsK_at {ns : List Int} {c i : Nat} (h : i < (groupsK ns c).length) (h2 : i < (firstsE (alikeK ns c) (manyS ns.length c)).length) : (groupsK ns c)[i] = grpE (alikeK ns c) (manyS ns.length c) (firstsE (alikeK ns c) (manyS ns.length c))[i] := List.getElem_map _
theorem firstsE_congr {E E' : Nat → Nat → Bool} {m : Nat} (h : ∀ a b, a < m → b < m → E a b = E' a b) : firstsE E m = firstsE E' m := by
  unfold firstsE
  refine List.filter_congr fun a ha => ?_
  have ha := List.mem_range.mp ha
  rw [Bool.eq_iff_iff, List.all_eq_true, List.all_eq_true]
  constructor
  · intro z b hb; rw [← h b a (by have := List.mem_range.mp hb; omega) ha]; exact z b hb
  · intro z b hb; rw [h b a (by have := List.mem_range.mp hb; omega) ha]; exact z b hb
theorem grpE_congr {E E' : Nat → Nat → Bool} {m f : Nat} (h : ∀ a, a < m → E a f = E' a f) : grpE E m f = grpE E' m f := by
  unfold grpE
  exact List.filter_congr fun a ha => h a (List.mem_range.mp ha)
/-- alike keys: one tree -/
theorem alike_tree {ns : List Int} {c a b : Nat} (ha : a + c ≤ ns.length) (hb : b + c ≤ ns.length) {S T : List Int} (h1 : TreeIs (cutN ns a c) S) (h2 : TreeIs (cutN ns b c) T) : alikeK ns c a b = decide (S = T) := by
  have la := cutN_len ha
  have lb := cutN_len hb
  have key : keyI ns c a = keyI ns c b ↔ KinD (nth (cutN ns a c)) (nth (cutN ns b c)) c := by
    constructor
    · intro h i hi
      rw [dist_cut hi, dist_cut hi]
      have := congrArg (fun (l : List Int) => l[i]?) h
      simpa [keyI, hi] using this
    · intro h
      unfold keyI
      refine List.map_congr_left fun i hi => ?_
      have hi := List.mem_range.mp hi
      have := h i hi
      rw [dist_cut hi, dist_cut hi] at this
      exact this
  unfold alikeK
  rw [decide_eq_decide, key]
  constructor
  · intro h
    have := h.lows
    exact ((kin_iff h1 h2).mp ⟨by rw [la, lb], by rw [la]; exact this⟩).2
  · rintro rfl
    have := kinD_trees h1 h2
    rw [la] at this; exact this
theorem groupsK_trees {ns : List Int} {c : Nat} (hc : 1 ≤ c) {T : Nat → List Int} (h : ∀ i, i < manyS ns.length c → TreeIs (cutN ns i c) (T i)) : groupsK ns c = (firstsE (fun a b => decide (T a = T b)) (manyS ns.length c)).map (grpE (fun a b => decide (T a = T b)) (manyS ns.length c)) := by
  have hE : ∀ a b, a < manyS ns.length c → b < manyS ns.length c → alikeK ns c a b = (fun a b => decide (T a = T b)) a b := fun a b ha hb => alike_tree (by unfold manyS at ha; omega) (by unfold manyS at hb; omega) (h a ha) (h b hb)
  unfold groupsK
  rw [firstsE_congr hE]
  refine List.map_congr_left fun f hf => grpE_congr fun a ha => hE a f ha (firstsE_mem.mp hf).1

theorem NewRows.back {H0 H1 H2 : Hp} {l : Addr} {rs : List (List Nat)} (h : NewRows H1 H2 l rs) (s : Same H0 H1) : NewRows H0 H2 l rs := by
  obtain ⟨as, h1, h2, h3, h4, h5, h6, h7⟩ := h
  exact ⟨as, h1, h2, h3, h4, h5, s.free h6, fun a ha => s.free (h7 a ha)⟩
theorem keyI_cut (ns : List Int) {c a : Nat} (e : a + c ≤ ns.length) : (cutN (distI ns) a c).map V.int = (List.range c).map (fun i => V.int (distN (nth ns) (a + i))) := by
  refine (List.ext_getElem (by rw [List.length_map, cutN_len (by rw [distI_len]; omega), List.length_map, List.length_range]) fun j h1 h2 => ?_)
  have hj : j < c := by simpa using h2
  rw [List.getElem_map, List.getElem_map, List.getElem_range]
  congr 1
  have e1 := cutN_nth (ns := distI ns) (a := a) hj
  rw [distI_nth (by omega)] at e1
  rw [← e1]
  unfold nth
  rw [List.getD_eq_getElem?_getD, List.getElem?_eq_getElem (by simpa using h1)]; rfl
theorem ok_stretch_keys {f : Addr} {fd : FuncData} (F : Fun K "stretch_keys" "stretch_keys" s_stretch_keys f fd) (G_seen_within : Callee P w K mg base "seen_within" 1 ["distance", "size"] (sp_seen_within K mg)) (T : Txt K mg) : FnOk P w K mg base (CXE P w) 2 f fd ["told", "size"] (sp_stretch_keys K mg) := by
  refine F.okX sc_stretch_keys (fun vs H Q E h => ?_) (fun cdv A outer s H vs Q E hr h => ?_)
  · obtain ⟨l, ns, c, rfl, _⟩ := h; rfl
  obtain ⟨l, ns, c, rfl, hl, hn, hc1, hc2, k1⟩ := h
  refine ⟨_, (pss_cons (ps_set (i := 2) sc_stretch_keys.nd rfl (Or.inl rfl) (pe_lst pa_nil))
      (pss_cons (ps_nox (ps_for PassesOwn.never rfl (pi_range1 rfl T.b_range (pa_cons (pe_op op_add (pe_op op_sub (pe_callB (call_lenK (K := K) rfl) rfl T.b_len PySem.boot_len (pa_cons (pv 0) pa_nil)) (pv 1)) pe_int) pa_nil)) (pg_name (i := 3) sc_stretch_keys.nd rfl (Or.inl rfl)) (pss_one (ps_expr (pe_bm PySem.F.plainAttrs_list PySem.F.slot_list_append PySem.F.type_list_append mt_append (pv 2) (pa_cons (pe_callTy (call_tupK (K := K) rfl) rfl T.b_tuple bt_tuple (pa_cons (pe_compN ["at", "distance"] [none, none] rfl rfl rfl (pi_enum (K := K) rfl rfl T.b_enumerate (pa_cons (pe_slice sl_list (pv 0) (po_some (pv 3)) (po_some (pe_op op_add (pv 3) (pv 1)))) pa_nil)) (fun _ _ _ _ _ => (pg_tupK (K := K) (n := 2) rfl rfl (pgs_cons (pg_name (i := 0) (show (["at", "distance"] : List Str).Nodup from by decide +kernel) rfl (Or.inl rfl)) (pgs_cons (pg_name (i := 1) (show (["at", "distance"] : List Str).Nodup from by decide +kernel) rfl (Or.inl rfl)) pgs_nil)))) (fun _ _ _ _ _ => pifs_nil) (fun _ _ _ _ _ => (pe_callF G_seen_within (hr.mono (by decide)) rfl passE (pa_cons (pv 1) (pa_cons (pv 0) pa_nil)))) (only_tup (only_cons only_name (only_cons only_name only_nil)))) pa_nil)) pa_nil))))))
      (pss_one (ps_ret (pv 2))))), ?_⟩
  walk_at "rd"
  refine ⟨Nat.zero_le _, fun p hp => ?_⟩
  have s0 := (Same.refl H).upd (o := .lst []) hp
  have eD : ((distI ns).map V.int).length = ns.length := by rw [List.length_map, distI_len]
  refine ⟨_, .inl (SqL.of (s0 _ _ hl)), by omega, by omega, ?_⟩
  rw [eD, show ((ns.length : Int) - (c : Int) + 1).toNat = manyS ns.length c by unfold manyS; omega]
  have hm : manyS ns.length c ≤ 1000 := by unfold manyS; omega
  refine for_it (n := manyS ns.length c) (fun a σ Hz => ∃ (v3 : Option V) (as : List Addr), σ = [some (.ref l), some (.int (c : Int)), some (.ref p), v3] ∧ Hz p = some (.lst (as.map V.ref)) ∧ as.length = a ∧ (∀ i (h : i < as.length), Hz as[i] = some (.tup ((keyI ns c i).map V.int))) ∧ Same H Hz) ⟨none, [], rfl, upd_same, rfl, (fun i h => absurd h (by simp)), s0⟩ (fun a σ Hz ha _ => by show _ < _; omega) (fun σ Hz _ => by show _ ≤ _; omega) ?_ ?_
  · rintro a x σ Hz Hw ha ⟨v3, as, rfl, hz, hal, hk, sz⟩ ⟨rfl, rfl⟩
    walk_at "rd"
    have hac : a + c ≤ ns.length := by unfold manyS at ha; omega
    refine ⟨tyV_list hz, _, SqL.of (sz _ _ hl), fun l2 hl2 => ?_⟩
    rw [show (0 : Int) + (a : Int) = ((a : Nat) : Int) by omega, show ((a : Nat) : Int) + (c : Int) = ((a + c : Nat) : Int) by omega, cut_ints (distI ns) (by omega) (by rw [distI_len]; omega), show a + c - a = c by omega, keyI_cut ns hac]
    have g1 := (Same.refl Hw).upd (o := .lst ((List.range c).map (fun i => V.int (distN (nth ns) (a + i))))) hl2
    refine ⟨_, SqL.of upd_same, ?_⟩
    have hL := upd_same (H := Hw) (a := l2) (o := .lst ((List.range c).map (fun i => V.int (distN (nth ns) (a + i)))))
    generalize upd Hw l2 (.lst ((List.range c).map (fun i => V.int (distN (nth ns) (a + i))))) = H1 at g1 hL ⊢
    refine comp_map (n := c) (fun i => V.int (sw (distN (nth ns) (a + i)) i)) (Nat.lt_of_le_of_lt (show _ ≤ 1000 by omega) (by decide)) (fun j Hx s hj => ⟨_, _, SqL.of (s _ _ hL), List.getElem?_eq_getElem (by simpa using hj)⟩) (fun Hx s => ⟨_, SqL.of (s _ _ hL), by simp⟩) ?_ ?_
    · rintro j v Hx Hy hj s ⟨q, x, hq, rfl, rfl, hx⟩
      have ex := hx _ (SqL.of (s _ _ hL))
      rw [List.getElem?_map, List.getElem?_range hj] at ex
      cases ex
      walk_at "rd"
      exact ⟨_, SqT.of upd_same, rfl, _, _, rfl, _, _, rfl, rfl, _, j, rfl, CW.next hj rfl (s.upd' hq)⟩
    intro q Hx s hq
    have hz1 := (g1.trans s) _ _ hz
    have npq : q ≠ p := fun e => by rw [e, hz1] at hq; cases hq
    refine ⟨q, rfl, _, .inl ⟨SqL.of upd_same, fun t ht => ?_⟩⟩
    have eK : (List.range c).map (fun i => V.int (sw (distN (nth ns) (a + i)) i)) = (keyI ns c a).map V.int := by unfold keyI; rw [List.map_map]; rfl
    rw [eK] at ht ⊢
    have g2 := ((g1.trans s).upd' (o := .lst ((keyI ns c a).map V.int)) hq).upd' (o := .tup ((keyI ns c a).map V.int)) ht
    have hT := upd_same (H := upd Hx q (.lst ((keyI ns c a).map V.int))) (a := t) (o := .tup ((keyI ns c a).map V.int))
    generalize upd (upd Hx q (.lst ((keyI ns c a).map V.int))) t (.tup ((keyI ns c a).map V.int)) = H2 at g2 hT ⊢
    have hp2 := g2 _ _ hz
    have nt : t ≠ p := fun e => by rw [e, hp2] at hT; cases hT
    refine ⟨_, hp2, Nat.lt_of_le_of_lt (show _ ≤ 1000 by rw [List.length_map]; omega) (by decide), as ++ [t], by rw [upd_same]; simp, by simp [hal], fun i h => ?_, fun x o hx => ?_⟩
    · by_cases e : i < as.length
      · rw [List.getElem_append_left e]
        have h3 := g2 _ _ (hk i e)
        rw [upd_ne (fun e2 => by rw [e2, hp2] at h3; cases h3)]; exact h3
      · have ei : i = as.length := by simp at h; omega
        subst ei
        rw [List.getElem_append_right (Nat.le_refl _)]
        simp only [Nat.sub_self, List.getElem_cons_zero]
        rw [upd_ne nt, hal]; exact hT
    · rw [upd_ne (fun e => by rw [e, hp] at hx; cases hx)]
      exact (sz.trans g2) _ _ hx
  · rintro σ Hz ⟨v3, as, rfl, hz, hal, hk, sz⟩
    walk_at "rd"
    exact k1 p Hz hp sz ⟨as, hz, hal, hk⟩
theorem ok_groups_by {f : Addr} {fd : FuncData} (F : Fun K "groups_by" "groups_by" s_groups_by f fd) (G_stretch_keys : Callee P w K mg base "stretch_keys" 2 ["told", "size"] (sp_stretch_keys K mg)) (T : Txt K mg) : FnOk P w K mg base (CXE P w) 3 f fd ["told", "size"] (sp_groups_by K mg) := by
  refine F.okX sc_groups_by (fun vs H Q E h => ?_) (fun cdv A outer s H vs Q E hr h => ?_)
  · obtain ⟨l, ns, c, rfl, _⟩ := h; rfl
  obtain ⟨l, ns, c, rfl, hl, hn, hc1, hc2, k1⟩ := h
  refine ⟨_, (pss_cons (ps_set (i := 2) sc_groups_by.nd rfl (Or.inl rfl) pe_dnewT)
      (pss_cons (ps_nox (ps_for PassesOwn.never rfl (pi_enum (K := K) rfl rfl T.b_enumerate (pa_cons (pe_callF G_stretch_keys (hr.mono (by decide)) rfl passE (pa_cons (pv 0) (pa_cons (pv 1) pa_nil))) pa_nil)) (pg_tup (n := 2) rfl (pgs_cons (pg_name (i := 3) sc_groups_by.nd rfl (Or.inl rfl)) (pgs_cons (pg_name (i := 4) sc_groups_by.nd rfl (Or.inl rfl)) pgs_nil))) (pss_cons (ps_expr (pe_dsetd (hu_of hr) (pv 2) (pv 4) (pe_lst pa_nil) ⟨rfl, rfl, rfl, rfl⟩))
      (pss_one (ps_expr (pe_bm PySem.F.plainAttrs_list PySem.F.slot_list_append PySem.F.type_list_append mt_append (pe_dget (hu_of hr) (pv 2) (pv 4) (fun _ _ => rfl)) (pa_cons (pv 3) pa_nil)))))))
      (pss_one (ps_ret (pe_callTy (call_list_vals rfl) rfl T.b_list bt_list (pa_cons (pe_dvals (pv 2)) pa_nil)))))), ?_⟩
  walk_at "rd"
  intro p hp
  have s0 := (Same.refl H).upd (o := .dT []) hp
  have hp0 := upd_same (H := H) (a := p) (o := .dT [])
  generalize upd H p (.dT []) = H0 at s0 hp0 ⊢
  have hm : manyS ns.length c ≤ 1000 := by unfold manyS; omega
  refine ⟨l, ns, c, rfl, s0 _ _ hl, hn, hc1, hc2, fun q H1 zq s1 hK => ⟨q, rfl, ?_⟩⟩
  obtain ⟨ks, hq, hkl, hks⟩ := hK
  refine ⟨_, SqL.of hq, ?_⟩
  have nqp : q ≠ p := fun e => by rw [e, hp0] at zq; cases zq
  have hp1 := s1 _ _ hp0
  have nkp : ∀ i (h : i < ks.length), ks[i] ≠ p := fun i h e => by have := hks i h; rw [e, hp1] at this; cases this
  have sH := s0.trans s1
  refine for_it (n := manyS ns.length c) (fun j σ Hz => ∃ (v3 v4 : Option V), σ = [some (.ref l), some (.int (c : Int)), some (.ref p), v3, v4] ∧ GrpsAt H1 Hz p ns c j ∧ Exc p H1 Hz) ⟨none, none, rfl, ⟨[], [], hp1, rfl, rfl, List.nodup_nil, (fun i h1 _ => absurd h1 (by simp)), (fun a ha => by cases ha)⟩, (Same.refl H1).toExc⟩ (fun j σ Hz hj ⟨_, _, _, _, hE⟩ => ⟨_, _, SqL.of (hE _ _ nqp hq), List.getElem?_eq_getElem (by rw [List.length_map, hkl]; exact hj)⟩) (fun σ Hz ⟨_, _, _, _, hE⟩ => ⟨_, SqL.of (hE _ _ nqp hq), by rw [List.length_map, hkl]⟩) ?_ ?_
  · rintro j v σ Hz Hw hj ⟨v3, v4, rfl, hG, hE⟩ ⟨t, x, ht, rfl, rfl, hx⟩
    have hjk : j < ks.length := by omega
    have ex := hx _ (SqL.of (hE _ _ nqp hq))
    rw [List.getElem?_map, List.getElem?_eq_getElem hjk] at ex
    cases ex
    walk_at "rd"
    refine ⟨_, SqT.of upd_same, rfl, _, _, rfl, _, _, rfl, rfl, ?_⟩
    have g1 := (Same.refl Hz).upd (o := .tup [V.int (j : Int), V.ref ks[j]]) ht
    generalize upd Hz t (.tup [V.int (j : Int), V.ref ks[j]]) = Hb at g1 ⊢
    have hGb := hG.same g1
    obtain ⟨kvs, as, hd, hd2, hd3, hd4⟩ := id hGb
    have hkl : kvs.length ≤ 1000 := by
      have l1 : kvs.length = (firstsE (alikeK ns c) j).length := by simpa using congrArg List.length hd2
      have : (firstsE (alikeK ns c) j).length ≤ j := by
        unfold firstsE
        refine Nat.le_trans (List.length_filter_le _ _) ?_
        rw [List.length_range]; exact Nat.le_refl _
      omega
    refine ⟨.inr ⟨_, .inl hd⟩, Nat.zero_le _, fun y hy => ?_⟩
    have g2 := (Same.refl Hb).upd (o := .lst []) hy
    have hy2 := upd_same (H := Hb) (a := y) (o := .lst [])
    generalize upd Hb y (.lst []) = Hc at g2 hy2 ⊢
    have gg := g1.trans g2
    have hE2 : Exc p H1 Hc := hE.same gg
    have hkj : Hc ks[j] = some (.tup (((keyI ns c j).map (Sum.inl : Int → Key)).map kV)) := by rw [kk_map]; exact hE2 _ _ (nkp j hjk) (hks j hjk)
    have hdc := g2 _ _ hd
    have nyp : y ≠ p := fun e => by rw [e, hd] at hy; cases hy
    have hy0 : H1 y = none := by
      cases e : H1 y with
      | none => rfl
      | some o => have := (hE.same g1) _ _ nyp e; rw [hy] at this; cases this
    refine ⟨kvs, hdc, _, _, rfl, hkj, Nat.lt_of_le_of_lt hkl (by decide), fun v hv => ?_, fun hv => ?_⟩
    · obtain ⟨a, xs, rfl, nap, ha0, ha, hxl, hG2⟩ := (hGb.same g2).old hdc hv
      refine ⟨_, (DGet.t hdc hkj) |> (fun z => by rw [hv] at z; exact z), tyV_list ha, a, rfl, xs, ha, Nat.lt_of_le_of_lt (show _ ≤ 1000 by omega) (by decide), hG2, fun x o nx hx => ?_⟩
      rw [upd_ne (fun e => by rw [e, ha0] at hx; cases hx)]; exact hE2 _ _ nx hx
    · have nky : ks[j] ≠ p := nkp j hjk
      refine ⟨V.ref y, ?_, tyV_list (by rw [upd_ne nyp]; exact hy2), y, rfl, [], by rw [upd_ne nyp]; exact hy2, by decide, hGb.new g2 hy hy2 hy0 hdc hv, fun x o nx hx => ?_⟩
      · have := DGet.t (H := upd Hc p (.dT (kvs ++ [((keyI ns c j).map Sum.inl, V.ref y)]))) upd_same (b := ks[j]) (k := (keyI ns c j).map Sum.inl) (by rw [upd_ne nky]; exact hkj)
        rw [valV_snoc _ _ _ _ hv, if_pos rfl] at this
        exact this
      · rw [upd_ne (fun e => by rw [e, hy0] at hx; cases hx), upd_ne nx]; exact hE2 _ _ nx hx
  · rintro σ Hz ⟨v3, v4, rfl, hG, hE⟩
    walk_at "rd"
    obtain ⟨kvs, as, hd, hd2, hd3, hd4, hd5, hd6⟩ := hG
    refine ⟨kvs, hd, fun v hv => ⟨p, upd_same, kvs, ?_, fun q2 hq2 => ?_⟩⟩
    · rw [upd_ne (fun e => by rw [← e, hd] at hv; cases hv)]; exact hd
    have sz : Same H Hz := fun x o hx => hE _ _ (fun e => by rw [e, hp] at hx; cases hx) (sH _ _ hx)
    have g1 := (Same.refl Hz).upd (o := .ext (ViewOf v p)) hv
    have g2 := g1.upd' (o := .lst (kvs.map (·.2))) hq2
    have l1 : kvs.length = (firstsE (alikeK ns c) (manyS ns.length c)).length := by simpa using congrArg List.length hd2
    have l2 : kvs.length = as.length := by simpa using congrArg List.length hd3
    refine k1 q2 _ (sz.trans g2) ⟨as, by rw [upd_same]; exact congrArg (fun z => some (HO.lst z)) hd3, hd4, fun z => ?_, ?_, fun i a b => ?_, (sz.trans g1).free hq2, fun a ha => sH.free (hd6 a ha)⟩
    · obtain ⟨i, hi, e⟩ := List.getElem_of_mem z
      have := g1 _ _ (hd5 i hi (by omega))
      rw [e, hq2] at this; cases this
    · unfold groupsK
      rw [List.length_map]; omega
    · have b' : i < (firstsE (alikeK ns c) (manyS ns.length c)).length := by unfold groupsK at b; simpa using b
      rw [groupsK_at b b']
      exact g2 _ _ (hd5 i a b')
theorem ok_groups_of {f : Addr} {fd : FuncData} (F : Fun K "groups_of" "groups_of" s_groups_of f fd) (G_row_distances : Callee P w K mg base "row_distances" 4 ["row"] (sp_row_distances K mg)) (G_groups_by : Callee P w K mg base "groups_by" 3 ["told", "size"] (sp_groups_by K mg)) (T : Txt K mg) : FnOk P w K mg base (CXE P w) 5 f fd ["row", "size"] (sp_groups_of K mg) := by
  refine F.okX sc_groups_of (fun vs H Q E h => ?_) (fun cdv A outer s H vs Q E hr h => ?_)
  · obtain ⟨r, ns, c, rfl, _⟩ := h; rfl
  obtain ⟨r, ns, c, rfl, hS, hn, hc1, hc2, k1⟩ := h
  refine ⟨_, (pss_one (ps_ret (pe_callF G_groups_by (hr.mono (by decide)) rfl passE (pa_cons (pe_callF G_row_distances (hr.mono (by decide)) rfl passE (pa_cons (pv 0) pa_nil)) (pa_cons (pv 1) pa_nil))))), ?_⟩
  walk_at "rd"
  exact ⟨r, ns, rfl, hS, hn, fun l H1 zl s1 hl => ⟨l, ns, c, rfl, hl, hn, hc1, hc2, fun q H2 s2 hR => k1 q H2 (s1.trans s2) (hR.back s1)⟩⟩
theorem ok__law_wide_row {f : Addr} {fd : FuncData} (F : Fun K "_law_wide_row" "_law_wide_row" s__law_wide_row f fd) (G__law_take : Callee P w K mg base "_law_take" 1 ["pot", "many"] (sp__law_take K mg)) (G__law_row : Callee P w K mg base "_law_row" 2 ["pot", "most"] (sp__law_row K mg)) (T : Txt K mg) : FnOk P w K mg base (CXE P w) 3 f fd ["pot"] (sp__law_wide_row K mg) := by
  refine F.okX sc__law_wide_row (fun vs H Q E h => ?_) (fun cdv A outer s H vs Q E hr h => ?_)
  · obtain ⟨p, rfl, _⟩ := h; rfl
  obtain ⟨p, rfl, hP, k1⟩ := h
  refine ⟨_, (pss_cons (ps_set (i := 1) sc__law_wide_row.nd rfl (Or.inl rfl) (pe_callF G__law_row (hr.mono (by decide)) rfl passE (pa_cons (pv 0) (pa_cons pe_int pa_nil))))
      (pss_cons (ps_set (i := 2) sc__law_wide_row.nd rfl (Or.inr rfl) (pe_callF G__law_take (hr.mono (by decide)) rfl passE (pa_cons (pv 0) (pa_cons pe_int pa_nil))))
      (pss_cons (ps_if (pt_cmpR op_gt (pv 2) pe_int (nomark _)) (pss_one (ps_set (i := 1) sc__law_wide_row.nd rfl (Or.inl rfl) (pe_slice sl_list (pe_op (op_catK (K := K) rfl) (pe_op (op_catK (K := K) rfl) (pv 1) (pe_callF G__law_row (hr.mono (by decide)) rfl passE (pa_cons (pv 0) (pa_cons pe_int pa_nil)))) (pv 1)) po_none (po_some pe_int)))) pss_nil)
      (pss_cons (ps_if (pt_cmpR op_eq (pv 2) pe_int (nomark _)) (pss_cons (ps_set (i := 2) sc__law_wide_row.nd rfl (Or.inr rfl) (pe_op op_sub (pe_op op_mulX pe_int (pe_callF G__law_take (hr.mono (by decide)) rfl passE (pa_cons (pv 0) (pa_cons pe_int pa_nil)))) pe_int))
      (pss_one (ps_setCN (i := 1) ["k", "way"] [none, some 2] sc__law_wide_row.nd rfl (Or.inl rfl) rfl rfl rfl (pi_range1 rfl T.b_range (pa_cons pe_int pa_nil)) (fun _ _ _ _ _ => (pg_name (i := 0) (show (["k", "way"] : List Str).Nodup from by decide +kernel) rfl (Or.inl rfl))) (fun _ _ _ _ _ => pifs_nil) (fun _ _ _ _ _ => (pe_op op_mulX (pv 1) (pv 0))) only_name))) pss_nil)
      (pss_one (ps_ret (pv 1))))))), ?_⟩
  walk_at "rd"
  refine ⟨p, _, rfl, by decide, by decide, hP, fun r ns H1 zr hl hr1 P1 e1 => ⟨p, _, rfl, by decide, by decide, P1, fun d H2 d0 d1 P2 e2 => ⟨d, rfl, ite2 (fun hd => ?_) (fun hd => ?_)⟩⟩⟩
  · have nrp : r ≠ p := fun e => by rw [e] at zr; exact absurd zr hP.some
    have hr2 := e2 _ _ nrp hr1
    refine ⟨p, _, rfl, by decide, by decide, P2, fun r2 ns2 H3 zr2 hl2 hr3 P3 e3 => ⟨r, rfl, r2, rfl, _, SqL.of (e3 _ _ nrp hr2), _, SqL.of hr3, Nat.le_trans (show _ ≤ 1000 by simp only [List.length_map]; omega) (by decide), fun a ha => ?_⟩⟩
    have g1 := (Same.refl H3).upd (o := .lst (ns.map V.int ++ ns2.map V.int)) ha
    refine ⟨r, rfl, _, SqL.of upd_same, _, SqL.of (g1 _ _ (e3 _ _ nrp hr2)), Nat.le_trans (show _ ≤ 1000 by simp only [List.length_map, List.length_append]; omega) (by decide), fun b hb => ⟨_, SqL.of upd_same, fun t ht => ⟨rfl, ite2 (fun z => by cases z; omega) fun _ => ?_⟩⟩⟩
    have g2 := g1.upd' (o := .lst (ns.map V.int ++ ns2.map V.int ++ ns.map V.int)) hb
    have e40 : cutV (ns.map V.int ++ ns2.map V.int ++ ns.map V.int) none (some 40) = ((ns ++ ns2 ++ ns).take 40).map V.int := by
      rw [show (40 : Int) = ((40 : Nat) : Int) by rfl, cut_to, ← List.map_append, ← List.map_append, ← List.map_take]
    rw [e40]
    have g3 := g2.upd' (o := .lst (((ns ++ ns2 ++ ns).take 40).map V.int)) ht
    exact k1 t _ _ (((e1.trans e2).trans e3).free (P3.ne (g2.free ht)) (g2.free ht)) (by rw [List.length_take]; omega) upd_same (P3.same g3) (((e1.trans e2).trans e3).same g3)
  · have nrp : r ≠ p := fun e => by rw [e] at zr; exact absurd zr hP.some
    have hr2 := e2 _ _ nrp hr1
    refine ⟨rfl, ite2 (fun z => ?_) fun _ => k1 r ns H2 zr (by omega) hr2 P2 (e1.trans e2)⟩
    refine ⟨p, _, rfl, by decide, by decide, P2, fun x H3 x0 x1 P3 e3 => ⟨x, rfl, mul_l (by decide) (by decide), by decide, by decide, ?_⟩⟩
    refine comp_map (n := 40) (fun i => V.int ((2 * x - 1) * (i : Int))) (by decide) (fun i Hx s hi => by show _ < _; exact hi) (fun Hx s => Nat.le_refl _) ?_ ?_
    · rintro i v Hx Hy hi s ⟨rfl, rfl⟩
      walk_at "rd"
      refine ⟨mul_l (by omega) (by omega), CW.next hi ?_ s⟩
      rw [show (0 : Int) + (i : Int) = (i : Int) by omega]
    intro t Hx sx ht
    have e123 := ((e1.trans e2).trans e3).same (sx.upd' (o := .lst ((List.range 40).map fun (i : Nat) => V.int ((2 * x - 1) * (i : Int)))) ht)
    refine k1 t ((List.range 40).map fun (i : Nat) => (2 * x - 1) * (i : Int)) _ (((e1.trans e2).trans e3).free (P3.ne (sx.free ht)) (sx.free ht)) (by simp) (by rw [upd_same, List.map_map]; rfl) (P3.same (sx.upd' ht)) e123
theorem ok__law_trees {f : Addr} {fd : FuncData} (F : Fun K "_law_trees" "_law_trees" s__law_trees f fd) (G__law_tree : Callee P w K mg base "_law_tree" 2 ["row"] (sp__law_tree K mg)) (T : Txt K mg) : FnOk P w K mg base (CXE P w) 3 f fd ["row", "size"] (sp__law_trees K mg) := by
  refine F.okX sc__law_trees (fun vs H Q E h => ?_) (fun cdv A outer s H vs Q E hr h => ?_)
  · obtain ⟨r, ns, c, rfl, _⟩ := h; rfl
  obtain ⟨r, ns, c, rfl, hr1, hn, hc1, hc2, k1⟩ := h
  refine ⟨_, (pss_one (ps_ret (pe_compN ["start", "row", "size"] [none, some 0, some 1] rfl rfl rfl (pi_range1 rfl T.b_range (pa_cons (pe_op op_add (pe_op op_sub (pe_callB (call_lenK (K := K) rfl) rfl T.b_len PySem.boot_len (pa_cons (pv 0) pa_nil)) (pv 1)) pe_int) pa_nil)) (fun _ _ _ _ _ => (pg_name (i := 0) (show (["start", "row", "size"] : List Str).Nodup from by decide +kernel) rfl (Or.inl rfl))) (fun _ _ _ _ _ => pifs_nil) (fun _ _ _ _ _ => (pe_callF G__law_tree (hr.mono (by decide)) rfl passE (pa_cons (pe_slice (r := rSlL K) sl_list (pv 1) (po_some (pv 0)) (po_some (pe_op op_add (pv 0) (pv 2)))) pa_nil))) only_name))), ?_⟩
  walk_at "rd"
  refine ⟨_, .inl (SqL.of hr1), by rw [List.length_map]; omega, by rw [List.length_map]; omega, ?_⟩
  rw [List.length_map, show ((ns.length : Int) - (c : Int) + 1).toNat = manyS ns.length c by unfold manyS; omega]
  have hm : manyS ns.length c ≤ 1000 := by unfold manyS; omega
  refine comp_inv (n := manyS ns.length c) (fun k acc Hz => ∃ (ds : List Addr) (U : Nat → List Int), acc = ds.map V.ref ∧ ds.length = k ∧ (∀ j (h : j < ds.length), TreeIs (cutN ns j c) (U j) ∧ Hz ds[j] = some (.tup ((U j).map V.int))) ∧ Same H Hz) (Nat.lt_of_le_of_lt hm (by decide)) ⟨[], fun _ => [], rfl, rfl, (fun j h => absurd h (by simp)), Same.refl _⟩ (fun k acc Hz _ hk => by show _ < _; omega) (fun acc Hz _ => by show _ ≤ _; omega) ?_ ?_
  · rintro k x acc Hz Hw hk hlk ⟨ds, U, rfl, hdl, hU, sz⟩ ⟨rfl, rfl⟩
    have hac : k + c ≤ ns.length := by unfold manyS at hk; omega
    walk_at "rd"
    refine ⟨_, SqL.of (sz _ _ hr1), fun l hl => ?_⟩
    rw [show (0 : Int) + (k : Int) = ((k : Nat) : Int) by omega, show ((k : Nat) : Int) + (c : Int) = ((k + c : Nat) : Int) by omega, cut_ints ns (by omega) hac, show k + c - k = c by omega]
    refine ⟨l, _, rfl, upd_same, by rw [cutN_len hac]; omega, fun t es H3 hT3 s3 ht => CA.take hk hlk ⟨ds ++ [t], by simp, by simp [hdl], fun j => if j = k then es else U j, fun j h => ?_, (sz.upd' hl).trans s3⟩⟩
    by_cases e : j < ds.length
    · have nj : ¬ j = k := by rw [← hdl]; omega
      rw [List.getElem_append_left e]
      simp only [if_neg nj]
      exact ⟨(hU j e).1, s3 _ _ (((Same.refl _).upd hl) _ _ (hU j e).2)⟩
    · have ej : j = ds.length := by simp at h; omega
      subst ej
      rw [List.getElem_append_right (Nat.le_refl _)]
      simp only [Nat.sub_self, List.getElem_cons_zero, hdl, if_pos]
      exact ⟨hT3, ht⟩
  · rintro l acc Hx ⟨ds, U, rfl, hdl, hU, sz⟩ _ hl
    exact k1 l U _ (sz.free hl) (sz.upd' hl) (fun i hi => (hU i (by omega)).1) ⟨ds, upd_same, hdl, fun i h => ((Same.refl _).upd hl) _ _ (hU i h).2⟩
theorem ints_eq : ∀ {xs ys : List Int}, xs.map V.int = ys.map V.int → xs = ys
  | [], [], _ => rfl
  | [], _ :: _, h => by cases h
  | _ :: _, [], h => by cases h
  | x :: xs, y :: ys, h => by
    rw [List.map_cons, List.map_cons] at h
    injection h with h1 h2
    injection h1 with h1
    rw [h1, ints_eq h2]
noncomputable def tupIs (H : Hp) (xs : List Int) (a : Addr) : Bool := @decide (H a = some (.tup (xs.map V.int))) (Classical.propDecidable _)
theorem tupIs_iff {H : Hp} {xs : List Int} {a : Addr} : tupIs H xs a = true ↔ H a = some (.tup (xs.map V.int)) := @decide_eq_true_iff _ (Classical.propDecidable _)
theorem refs_at {as : List Addr} {i : Nat} (h : i < as.length) : atI (as.map V.ref) (i : Int) = some (V.ref as[i]) := by
  exact atI_nat (by rw [List.getElem?_map, List.getElem?_eq_getElem h]; rfl)
theorem ok__law_due {f : Addr} {fd : FuncData} (F : Fun K "_law_due" "_law_due" s__law_due f fd) (G__law_trees : Callee P w K mg base "_law_trees" 3 ["row", "size"] (sp__law_trees K mg)) (T : Txt K mg) : FnOk P w K mg base (CXE P w) 4 f fd ["row", "size"] (sp__law_due K mg) := by
  refine F.okX sc__law_due (fun vs H Q E h => ?_) (fun cdv A outer s H vs Q E hr h => ?_)
  · obtain ⟨r, ns, c, rfl, _⟩ := h; rfl
  obtain ⟨r, ns, c, rfl, hr1, hn, hc1, hc2, k1⟩ := h
  refine ⟨_, (pss_cons (ps_set (i := 2) sc__law_due.nd rfl (Or.inr rfl) (pe_callF G__law_trees (hr.mono (by decide)) rfl passE (pa_cons (pv 0) (pa_cons (pv 1) pa_nil))))
      (pss_cons (ps_setCN (i := 3) ["start", "trees"] [none, some 2] sc__law_due.nd rfl (Or.inl rfl) rfl rfl rfl (pi_range1 rfl T.b_range (pa_cons (pe_callB (call_lenK (K := K) rfl) rfl T.b_len PySem.boot_len (pa_cons (pv 2) pa_nil)) pa_nil)) (fun _ _ _ _ _ => (pg_name (i := 0) (show (["start", "trees"] : List Str).Nodup from by decide +kernel) rfl (Or.inl rfl))) (fun _ _ _ _ _ => pifs_one (pt_cmpR (op_notInD (K := K) rfl hr) (pe_ix (r := rIxL K) ix_list (pv 1) (pv 0) (fun _ _ => rfl)) (pe_slice (r := rSlL K) sl_list (pv 1) po_none (po_some (pv 0))) (by with_unfolding_all rfl))) (fun _ _ _ _ _ => (pv 0)) only_name)
      (pss_one (ps_ret (pe_compN ["one", "trees"] [none, some 2] rfl rfl rfl (pi_list (pv 3)) (fun _ _ _ _ _ => (pg_name (i := 0) (show (["one", "trees"] : List Str).Nodup from by decide +kernel) rfl (Or.inr rfl))) (fun _ _ _ _ _ => pifs_nil) (fun _ _ _ _ _ => (pe_compN ["start", "trees", "one"] [none, some 1, some 0] rfl rfl rfl (pi_range1 rfl T.b_range (pa_cons (pe_callB (call_lenK (K := K) rfl) rfl T.b_len PySem.boot_len (pa_cons (pv 1) pa_nil)) pa_nil)) (fun _ _ _ _ _ => (pg_name (i := 0) (show (["start", "trees", "one"] : List Str).Nodup from by decide +kernel) rfl (Or.inl rfl))) (fun _ _ _ _ _ => pifs_one (pt_cmpR (op_eqD (K := K) rfl hr) (pe_ix (r := rIxL K) ix_list (pv 1) (pv 0) (fun _ _ => rfl)) (pe_ix (r := rIxL K) ix_list (pv 1) (pv 2) (fun _ _ => rfl)) (nomark _))) (fun _ _ _ _ _ => (pv 0)) only_name)) only_name))))), ?_⟩
  walk_at "rd"
  have hm : manyS ns.length c ≤ 1000 := by unfold manyS; omega
  refine ⟨r, ns, c, rfl, hr1, hn, hc1, hc2, fun q T H1 zq s1 hT hK => ⟨q, rfl, ?_⟩⟩
  obtain ⟨as, hq, hal, has⟩ := hK
  have hal' : (as.map V.ref).length = manyS ns.length c := by rw [List.length_map, hal]
  have hG := groupsK_trees hc1 hT
  generalize manyS ns.length c = m at hm hT hal hG hal'
  have eqT : ∀ (Hx : Hp) (i j : Nat) (hi : i < as.length) (hj : j < as.length), Same H1 Hx → EqD K Hx 3 (V.ref as[i]) (V.ref as[j]) (decide (T i = T j)) := fun Hx i j hi hj sx => eqp_tup (n := 2) eqp_int _ _ (T i) (T j) (isT_ints (SqT.of (sx _ _ (has i hi)))) (isT_ints (SqT.of (sx _ _ (has j hj))))
  refine ⟨_, .inl (SqL.of hq), by rw [hal']; omega, by rw [hal']; omega, ?_⟩
  rw [hal', show ((m : Int)).toNat = m by omega]
  refine comp_filt (n := m) (fun a => (List.range a).all fun b => !decide (T b = T a)) (fun i => V.int (i : Int)) (Nat.lt_of_le_of_lt hm (by decide)) (fun i Hx s hi => by show _ < _; exact hi) (fun Hx s => Nat.le_refl _) ?_ ?_
  · rintro i v Hx Hy hi sx ⟨rfl, rfl⟩
    walk_at "rd"
    have hia : i < as.length := by omega
    rw [show (0 : Int) + (i : Int) = (i : Int) by omega]
    refine ⟨_, SqL.of (sx _ _ hq), V.ref as[i], refs_at hia, _, SqL.of (sx _ _ hq), fun p hp => ?_⟩
    rw [cut_to, ← List.map_take]
    have g1 := sx.upd' (o := .lst ((as.take i).map V.ref)) hp
    generalize eHp : upd Hy p (.lst ((as.take i).map V.ref)) = Hp at g1
    have hpp : Hp p = some (.lst ((as.take i).map V.ref)) := by rw [← eHp, upd_same]
    have hE : ∀ b (hb : b < as.length), tupIs Hp (T i) as[b] = decide (T b = T i) := fun b hb => by
      have := g1 _ _ (has b hb)
      rw [Bool.eq_iff_iff, decide_eq_true_iff, tupIs_iff, this]
      constructor
      · intro z; injection z with z; injection z with z; exact ints_eq z
      · intro z; rw [z]
    have hTk : ∀ a, a ∈ as.take i → ∃ b, ∃ hb : b < as.length, b < i ∧ a = as[b] := fun a ha => by
      obtain ⟨b, hb, e⟩ := List.getElem_of_mem ha
      have hb' : b < i ∧ b < as.length := by rw [List.length_take] at hb; omega
      exact ⟨b, hb'.2, hb'.1, by rw [← e, List.getElem_take]⟩
    have hP : (as.take i).any (tupIs Hp (T i)) = !((List.range i).all fun b => !decide (T b = T i)) := by
      rw [Bool.eq_iff_iff, List.any_eq_true, Bool.not_eq_true', Bool.eq_false_iff]
      constructor
      · rintro ⟨a, ha, e⟩ z
        obtain ⟨b, hb, hbi, rfl⟩ := hTk a ha
        rw [hE b hb] at e
        have := List.all_eq_true.mp z b (List.mem_range.mpr hbi)
        rw [e] at this; cases this
      · intro z
        refine Classical.byContradiction fun no => z (List.all_eq_true.mpr fun b hb => ?_)
        have hbi := List.mem_range.mp hb
        have hb : b < as.length := by omega
        cases e : decide (T b = T i) with
        | false => rfl
        | true => exact absurd ⟨as[b], by rw [List.mem_take_iff_getElem]; exact ⟨b, by omega, rfl⟩, by rw [hE b hb]; exact e⟩ no
    refine ⟨as[i], rfl, as.take i, SqL.of hpp, tupIs Hp (T i), fun a ha => ?_, ?_⟩
    · obtain ⟨b, hb, hbi, rfl⟩ := hTk a ha
      rw [hE b hb]
      exact eqT Hp b i hb hia g1
    · rw [hP]
      refine ite2 (fun z => CF.take hi (by simpa using z) rfl g1) fun z => CF.skip hi (by simpa using z) g1
  intro l2 H2 s2 hl2
  walk_at "rd"
  have eF : (List.range m).filter (fun a => (List.range a).all fun b => !decide (T b = T a)) = firstsE (fun a b => decide (T a = T b)) m := rfl
  rw [eF]
  have g2 := s2.upd' (o := .lst ((firstsE (fun a b => decide (T a = T b)) m).map fun (i : Nat) => V.int (i : Int))) hl2
  have hl3 := upd_same (H := H2) (a := l2) (o := .lst ((firstsE (fun a b => decide (T a = T b)) m).map fun (i : Nat) => V.int (i : Int)))
  generalize upd H2 l2 (.lst ((firstsE (fun a b => decide (T a = T b)) m).map fun (i : Nat) => V.int (i : Int))) = H3 at g2 hl3 ⊢
  have hFm : ∀ f, f ∈ firstsE (fun a b => decide (T a = T b)) m → f < m := fun f hf => (firstsE_mem.mp hf).1
  have hFl : (firstsE (fun a b => decide (T a = T b)) m).length ≤ m := by
    unfold firstsE
    refine Nat.le_trans (List.length_filter_le _ _) ?_
    rw [List.length_range]; exact Nat.le_refl _
  generalize firstsE (fun a b => decide (T a = T b)) m = F at hl3 hFm hFl hG ⊢
  refine ⟨⟨_, SqL.of hl3⟩, ?_⟩
  refine comp_inv (n := F.length) (fun k acc Hz => ∃ ds : List Addr, acc = ds.map V.ref ∧ ds.length = k ∧ ds.Nodup ∧ (∀ j (h1 : j < ds.length) (h2 : j < F.length), Hz ds[j] = some (.lst (natsV (grpE (fun a b => decide (T a = T b)) m F[j])))) ∧ (∀ a ∈ ds, H a = none) ∧ Same H3 Hz) (Nat.lt_of_le_of_lt (show _ ≤ 1000 by omega) (by decide)) ⟨[], rfl, rfl, List.nodup_nil, (fun j h _ => absurd h (by simp)), (fun a ha => by cases ha), Same.refl _⟩ (fun k acc Hz ⟨_, _, _, _, _, _, sz⟩ hk => ⟨_, _, SqL.of (sz _ _ hl3), List.getElem?_eq_getElem (by rw [List.length_map]; exact hk)⟩) (fun acc Hz ⟨_, _, _, _, _, _, sz⟩ => ⟨_, SqL.of (sz _ _ hl3), by rw [List.length_map]; exact Nat.le_refl _⟩) ?_ ?_
  · rintro k x acc Hz Hw hk hlk ⟨ds, rfl, hdl, hnd, hds, hdn, sz⟩ ⟨rfl, hx⟩
    have ex := hx _ (SqL.of (sz _ _ hl3))
    rw [List.getElem?_map, List.getElem?_eq_getElem hk] at ex
    cases ex
    have hfk : F[k] < m := hFm _ (List.getElem_mem hk)
    have gz := g2.trans sz
    walk_at "rd"
    refine ⟨_, .inl (SqL.of (gz _ _ hq)), by rw [hal']; omega, by rw [hal']; omega, ?_⟩
    rw [hal', show ((m : Int)).toNat = m by omega]
    refine comp_filt (n := m) (fun b => decide (T b = T F[k])) (fun i => V.int (i : Int)) (Nat.lt_of_le_of_lt hm (by decide)) (fun i Hx s hi => by show _ < _; exact hi) (fun Hx s => Nat.le_refl _) ?_ ?_
    · rintro i v Hx Hy hi sx ⟨rfl, rfl⟩
      walk_at "rd"
      rw [show (0 : Int) + (i : Int) = (i : Int) by omega]
      have hia : i < as.length := by omega
      have hka : F[k] < as.length := by omega
      have gx := gz.trans sx
      exact ⟨_, SqL.of (gx _ _ hq), _, refs_at hia, _, SqL.of (gx _ _ hq), _, refs_at hka, _, rfl, _, rfl, _, eqT Hy i F[k] hia hka gx, ite2 (fun z => CF.take hi z rfl sx) fun z => CF.skip hi (by simpa using z) sx⟩
    intro l Hx sx hl
    have gy := sx.upd' (o := .lst (((List.range m).filter fun b => decide (T b = T F[k])).map fun (i : Nat) => V.int (i : Int))) hl
    have nin : l ∉ ds := fun z => by
      obtain ⟨i, hi, e⟩ := List.getElem_of_mem z
      have := sx _ _ (hds i hi (by omega))
      rw [e, hl] at this; cases this
    refine CA.take hk hlk ⟨ds ++ [l], by simp, by simp [hdl], nd_snoc hnd nin, fun j h1 h2 => ?_, fun a ha => ?_, sz.trans gy⟩
    · by_cases e : j < ds.length
      · rw [List.getElem_append_left e]
        exact gy _ _ (hds j e h2)
      · have ej : j = ds.length := by simp at h1; omega
        subst ej
        rw [List.getElem_append_right (Nat.le_refl _)]
        simp only [Nat.sub_self, List.getElem_cons_zero]
        rw [upd_same]
        have : F[ds.length] = F[k] := by simp only [hdl]
        rw [this]; rfl
    · rcases List.mem_append.mp ha with ha | ha
      · exact hdn a ha
      · rw [List.mem_singleton.mp ha]; exact (s1.trans (gz.trans sx)).free hl
  · rintro l acc Hx ⟨ds, rfl, hdl, hnd, hds, hdn, sz⟩ _ hl
    have sx := (g2.trans sz).upd' (o := .lst (ds.map V.ref)) hl
    have sf := s1.trans (g2.trans sz)
    refine k1 l _ (s1.trans sx) ⟨ds, upd_same, hnd, fun z => ?_, by rw [hG, List.length_map]; exact hdl, fun i a b => ?_, sf.free hl, hdn⟩
    · obtain ⟨i, hi, e⟩ := List.getElem_of_mem z
      have := hds i hi (by omega)
      rw [e, hl] at this; cases this
    · have b' : i < F.length := by omega
      have e : (groupsK ns c)[i] = grpE (fun a b => decide (T a = T b)) m F[i] := by simp only [hG, List.getElem_map]
      rw [e]
      exact ((Same.refl _).upd hl) _ _ (hds i a b')

theorem NewRows.same {H0 H H' : Hp} {l : Addr} {rs : List (List Nat)} (h : NewRows H0 H l rs) (s : Same H H') : NewRows H0 H' l rs := by
  obtain ⟨as, h1, h2, h3, h4, h5, h6, h7⟩ := h
  exact ⟨as, s _ _ h1, h2, h3, h4, fun i a b => s _ _ (h5 i a b), h6, h7⟩
theorem NewRows.keep {H0 H H' : Hp} {l : Addr} {rs : List (List Nat)} (h : NewRows H0 H l rs) (s : ∀ x o, H0 x = none → H x = some o → H' x = some o) : NewRows H0 H' l rs := by
  obtain ⟨as, h1, h2, h3, h4, h5, h6, h7⟩ := h
  exact ⟨as, s _ _ h6 h1, h2, h3, h4, fun i a b => s _ _ (h7 _ (List.getElem_mem a)) (h5 i a b), h6, h7⟩
theorem NewRows.rows {H0 H : Hp} {l : Addr} {rs : List (List Nat)} (h : NewRows H0 H l rs) : Rows H l (rs.map fun g => g.map fun q => ((q : Nat) : Int)) := by
  obtain ⟨as, h1, h2, h3, h4, h5, h6, h7⟩ := h
  refine ⟨as, h1, h3, by rw [List.length_map]; exact h4, fun i a b => ?_⟩
  rw [List.getElem_map, ← natsV_ints]
  exact h5 i a (by rw [List.length_map] at b; exact b)
theorem NewRows.eq {K : PySem.W.Frag} {Ha Hb H : Hp} {l m : Addr} {rs : List (List Nat)} (h1 : NewRows Ha H l rs) (h2 : NewRows Hb H m rs) : EqD K H 3 (.ref l) (.ref m) true := by
  have := eqp_lst (n := 2) (eqp_lst (n := 1) (K := K) (H := H) eqp_int) (V.ref l) (V.ref m) _ _ h1.rows.isL h2.rows.isL
  rw [decide_eq_true rfl] at this
  exact this
def Spoil (S : List Addr) (H H' : Hp) : Prop := ∀ x o, x ∉ S → H x = some o → H' x = some o
theorem groupsK_few (ns : List Int) (c : Nat) (hc : 1 ≤ c) (hn : ns.length ≤ 1000) : (groupsK ns c).length ≤ 1000 ∧ ∀ g ∈ groupsK ns c, g.length ≤ 1000 := by
  have hm : manyS ns.length c ≤ 1000 := by unfold manyS; omega
  constructor
  · unfold groupsK firstsE
    rw [List.length_map]
    refine Nat.le_trans (List.length_filter_le _ _) ?_
    rw [List.length_range]; exact hm
  · intro g hg
    obtain ⟨f, _, rfl⟩ := List.mem_map.mp hg
    exact Nat.le_trans (grpE_len _ _ _) hm
theorem ok_law {f : Addr} {fd : FuncData} (F : Fun K "law" "law" s_law f fd) (G_groups_of : Callee P w K mg base "groups_of" 5 ["row", "size"] (sp_groups_of K mg)) (G__law_deal : Callee P w K mg base "_law_deal" 1 ["script", "k"] (sp__law_deal K mg)) (G__law_take : Callee P w K mg base "_law_take" 1 ["pot", "many"] (sp__law_take K mg)) (G__law_whole : Callee P w K mg base "_law_whole" 1 ["thing"] (sp__law_whole K mg)) (G__law_either : Callee P w K mg base "_law_either" 2 ["pot", "some"] (sp__law_either K mg)) (G__law_wide_row : Callee P w K mg base "_law_wide_row" 3 ["pot"] (sp__law_wide_row K mg)) (G__law_due : Callee P w K mg base "_law_due" 4 ["row", "size"] (sp__law_due K mg)) (T : Txt K mg) : FnOk P w K mg base (CXE P w) 6 f fd ["script"] (spLaw K) := by
  refine F.okX sc_law (fun vs H Q E h => ?_) (fun cdv A outer s H vs Q E hr h => ?_)
  · obtain ⟨a, ns, rfl, _⟩ := h; rfl
  obtain ⟨sc, ss, rfl, hsc, hss, k1⟩ := h
  refine ⟨_, (pss_cons (ps_nox (ps_for PassesOwn.never rfl (pi_range1 rfl T.b_range (pa_cons (pe_callB (call_max2 rfl) rfl T.b_max bt_max (pa_cons pe_int (pa_cons (pe_callB (call_min2 rfl) rfl T.b_min bt_min (pa_cons (pe_callB (call_lenK (K := K) rfl) rfl T.b_len PySem.boot_len (pa_cons (pv 0) pa_nil)) (pa_cons pe_int pa_nil))) pa_nil))) pa_nil)) (pg_name (i := 1) sc_law.nd rfl (Or.inl rfl)) (pss_cons (ps_set (i := 2) sc_law.nd rfl (Or.inl rfl) (pe_callF G__law_deal (hr.mono (by decide)) rfl passE (pa_cons (pv 0) (pa_cons (pv 1) pa_nil))))
      (pss_cons (ps_set (i := 3) sc_law.nd rfl (Or.inl rfl) (pe_callF G__law_wide_row (hr.mono (by decide)) rfl passE (pa_cons (pv 2) pa_nil)))
      (pss_cons (ps_set (i := 4) sc_law.nd rfl (Or.inl rfl) (pe_callF G__law_either (hr.mono (by decide)) rfl passE (pa_cons (pv 2) (pa_cons (pv 3) pa_nil))))
      (pss_one (ps_nox (ps_for PassesOwn.never rfl (pi_list (pe_lst (pa_cons pe_int (pa_cons pe_int (pa_cons pe_int (pa_cons (pe_op op_add pe_int (pe_callF G__law_take (hr.mono (by decide)) rfl passE (pa_cons (pv 2) (pa_cons (pe_op op_add pe_int (pe_callB (call_lenK (K := K) rfl) rfl T.b_len PySem.boot_len (pa_cons (pv 3) pa_nil))) pa_nil)))) (pa_cons (pe_op op_add (pe_callB (call_lenK (K := K) rfl) rfl T.b_len PySem.boot_len (pa_cons (pv 3) pa_nil)) pe_int) (pa_cons pe_int pa_nil)))))))) (pg_name (i := 5) sc_law.nd rfl (Or.inl rfl)) (pss_cons (ps_set (i := 6) sc_law.nd rfl (Or.inl rfl) (pe_callF G_groups_of (hr.mono (by decide)) rfl passE (pa_cons (pv 4) (pa_cons (pv 5) pa_nil))))
      (pss_cons (ps_set (i := 7) sc_law.nd rfl (Or.inl rfl) (pe_callF G__law_due (hr.mono (by decide)) rfl passE (pa_cons (pv 3) (pa_cons (pv 5) pa_nil))))
      (pss_cons (ps_if (PW.pt (pw_or (pt_not (pt_val (pe_callB (call_isiK (K := K) rfl) rfl T.b_isinstance bt_isinstance (pa_cons (pv 6) (pa_cons (pe_bltn (v := .ty "list") rfl T.b_list bt_list rfl) pa_nil))))) (pw_or (pt_cmpR (op_neD (K := K) rfl hr) (pv 6) (pv 7) (nomark _)) (pw_or1 (pt_not (pt_val (pe_callB (call_all (K := K) rfl rfl) rfl T.b_all bt_all (pa_cons (pe_compN ["one"] [none] rfl rfl rfl (pi_list (pv 6)) (fun _ _ _ _ _ => (pg_name (i := 0) (show (["one"] : List Str).Nodup from by decide +kernel) rfl (Or.inl rfl))) (fun _ _ _ _ _ => pifs_nil) (fun _ _ _ _ _ => (pe_callB (call_isiK (K := K) rfl) rfl T.b_isinstance bt_isinstance (pa_cons (pv 0) (pa_cons (pe_bltn (v := .ty "list") rfl T.b_list bt_list rfl) pa_nil)))) only_name) pa_nil)))))))) (pss_one (ps_ret pe_bl)) pss_nil)
      (pss_cons (ps_nox (ps_for PassesOwn.never rfl (pi_list (pv 6)) (pg_name (i := 8) sc_law.nd rfl (Or.inl rfl)) (pss_cons (ps_if (pt_not (pt_val (pe_callB (call_all (K := K) rfl rfl) rfl T.b_all bt_all (pa_cons (pe_compN ["start"] [none] rfl rfl rfl (pi_list (pv 8)) (fun _ _ _ _ _ => (pg_name (i := 0) (show (["start"] : List Str).Nodup from by decide +kernel) rfl (Or.inl rfl))) (fun _ _ _ _ _ => pifs_nil) (fun _ _ _ _ _ => (pe_callF G__law_whole (hr.mono (by decide)) rfl passE (pa_cons (pv 0) pa_nil))) only_name) pa_nil)))) (pss_one (ps_ret pe_bl)) pss_nil)
      (pss_one (ps_expr (pe_bm PySem.F.plainAttrs_list PySem.F.slot_list_append PySem.F.type_list_append mt_append (pv 8) (pa_cons (pe_un un_neg pe_int) pa_nil)))))))
      (pss_cons (ps_expr (pe_bm PySem.F.plainAttrs_list PySem.F.slot_list_append PySem.F.type_list_append mt_append (pv 6) (pa_cons (pe_lst (pa_cons pe_int pa_nil)) pa_nil)))
      (pss_one (ps_if (PW.pt (pw_or (pt_cmpR (op_neD (K := K) rfl hr) (pe_callF G_groups_of (hr.mono (by decide)) rfl passE (pa_cons (pv 4) (pa_cons (pv 5) pa_nil))) (pv 7) (nomark _)) (pw_or1 (pt_cmpR (op_neD (K := K) rfl hr) (pe_callTy (call_listK (K := K) rfl) rfl T.b_list bt_list (pa_cons (pv 4) pa_nil)) (pv 3) (nomark _))))) (pss_one (ps_ret pe_bl)) pss_nil)))))))))))))))
      (pss_one (ps_ret pe_bl))), ?_⟩
  walk_at "rd"
  have el : (ss.map V.int).length = ss.length := List.length_map ..
  refine ⟨_, .inl hsc, by split <;> (try split) <;> omega, by split <;> (try split) <;> omega, ?_⟩
  rw [el]
  obtain ⟨nn, hnn, nn1⟩ : ∃ nn : Nat, (if (if (4 : Int) < (ss.length : Int) then (4 : Int) else (ss.length : Int)) > 2 then (if (4 : Int) < (ss.length : Int) then (4 : Int) else (ss.length : Int)) else 2).toNat = nn ∧ nn ≤ 4 := ⟨_, rfl, by split <;> (try split) <;> omega⟩
  rw [hnn]
  refine for_range (fun i σ Hx => ∃ v1 v2 v3 v4 v5 v6 v7 v8, σ = [some (.ref sc), v1, v2, v3, v4, v5, v6, v7, v8] ∧ Same H Hx) ⟨_, _, _, _, _, _, _, _, rfl, Same.refl H⟩ ?_ ?_
  · rintro i σ H' hi ⟨v1, v2, v3, v4, v5, v6, v7, v8, rfl, hs⟩
    generalize hk : (0 : Int) + (i : Int) = kk
    have hk0 : 0 ≤ kk ∧ kk ≤ 100 := by omega
    refine seqR (fun σ Hx => ∃ p, σ = [some (.ref sc), some (.int kk), some (.ref p), v3, v4, v5, v6, v7, v8] ∧ H' p = none ∧ PotAt Hx p ∧ Same H' Hx) (fun R hR => ?_) ?_
    · walk_at "rd"
      exact ⟨sc, ss, kk, rfl, hs.seq hsc, hk0.1, hk0.2, fun p H1 hp s1 P1 => hR _ _ ⟨p, rfl, hp, P1, s1⟩⟩
    rintro σ H1 ⟨p, rfl, zp, P1, s1⟩
    refine seqR (fun σ Hx => ∃ (r : Addr) (ns : List Int), σ = [some (.ref sc), some (.int kk), some (.ref p), some (.ref r), v4, v5, v6, v7, v8] ∧ r ≠ p ∧ ns.length ≤ 40 ∧ Hx r = some (.lst (ns.map V.int)) ∧ PotAt Hx p ∧ Same H' Hx) (fun R hR => ?_) ?_
    · walk_at "rd"
      exact ⟨p, rfl, P1, fun r ns H2 zr hn hr2 P2 e2 => hR _ _ ⟨r, ns, rfl, P1.ne zr, hn, hr2, P2, s1.exc zp e2⟩⟩
    clear P1 s1 H1
    rintro σ H2 ⟨r, ns, rfl, nrp, hn, hr2, P2, s2⟩
    refine seqR (fun σ Hx => ∃ u : Addr, σ = [some (.ref sc), some (.int kk), some (.ref p), some (.ref r), some (.ref u), v5, v6, v7, v8] ∧ u ≠ p ∧ (Hx u = some (.lst (ns.map V.int)) ∨ Hx u = some (.tup (ns.map V.int))) ∧ Hx r = some (.lst (ns.map V.int)) ∧ PotAt Hx p ∧ Same H' Hx) (fun R hR => ?_) ?_
    · walk_at "rd"
      exact ⟨p, r, ns, rfl, P2, nrp, hr2, by omega, fun u H3 zu hu P3 e3 => hR _ _ ⟨u, rfl, P2.ne zu, hu, e3 _ _ nrp hr2, P3, s2.exc zp e3⟩⟩
    clear P2 s2 hr2 H2
    rintro σ H3 ⟨u, rfl, nup, hu, hr3, P3, s3⟩
    walk_at "rd"
    have eln : (ns.map V.int).length = ns.length := List.length_map ..
    refine ⟨_, .inl (SqL.of hr3), p, _, rfl, by rw [eln]; omega, by rw [eln]; omega, P3, fun d H4 d0 d1 P4 e4 => ⟨_, rfl, ?_⟩⟩
    rw [eln] at d1
    have hr4 := e4 _ _ nrp hr3
    have hu4 : H4 u = some (.lst (ns.map V.int)) ∨ H4 u = some (.tup (ns.map V.int)) := hu.elim (fun z => .inl (e4 _ _ nup z)) fun z => .inr (e4 _ _ nup z)
    have s4 := s3.exc zp e4
    refine ⟨_, .inl (SqL.of hr4), by decide, fun lq hlq => ?_⟩
    rw [eln]
    have hSz : ∀ (j : Nat) (v : V), ([V.int 1, V.int 2, V.int 3, V.int (1 + d), V.int ((ns.length : Int) + 1), V.int 41] : List V)[j]? = some v → ∃ c : Nat, v = V.int (c : Int) ∧ 1 ≤ c ∧ c ≤ 1000 := by
      intro j v hv
      have hj : j < 6 := (List.getElem?_eq_some_iff.mp hv).1
      rcases (by omega : j = 0 ∨ j = 1 ∨ j = 2 ∨ j = 3 ∨ j = 4 ∨ j = 5) with rfl | rfl | rfl | rfl | rfl | rfl
      · exact ⟨1, (Option.some.inj hv).symm, by omega, by omega⟩
      · exact ⟨2, (Option.some.inj hv).symm, by omega, by omega⟩
      · exact ⟨3, (Option.some.inj hv).symm, by omega, by omega⟩
      · exact ⟨(1 + d).toNat, by rw [show (((1 + d).toNat : Nat) : Int) = 1 + d by omega]; exact (Option.some.inj hv).symm, by omega, by omega⟩
      · exact ⟨ns.length + 1, by rw [show ((ns.length + 1 : Nat) : Int) = (ns.length : Int) + 1 by omega]; exact (Option.some.inj hv).symm, by omega, by omega⟩
      · exact ⟨41, (Option.some.inj hv).symm, by omega, by omega⟩
    have hSl : ([V.int 1, V.int 2, V.int 3, V.int (1 + d), V.int ((ns.length : Int) + 1), V.int 41] : List V).length = 6 := rfl
    generalize ([V.int 1, V.int 2, V.int 3, V.int (1 + d), V.int ((ns.length : Int) + 1), V.int 41] : List V) = Z at hSz hSl ⊢
    have g5 := (Same.refl H4).upd (o := .lst Z) hlq
    have hZ := upd_same (H := H4) (a := lq) (o := .lst Z)
    have hr5 := g5 _ _ hr4
    have hu5 : upd H4 lq (.lst Z) u = some (.lst (ns.map V.int)) ∨ upd H4 lq (.lst Z) u = some (.tup (ns.map V.int)) := hu4.elim (fun z => .inl (g5 _ _ z)) fun z => .inr (g5 _ _ z)
    have s5 := hs.trans (s4.trans g5)
    generalize upd H4 lq (.lst Z) = H5 at hZ hr5 hu5 s5 ⊢
    clear hr4 hu4 s4 g5 hlq P4 e4 d0 d1 hu hr3 P3 s3 H4 H3
    have hSu : ∀ Hx, Same H5 Hx → (SqL K Hx u (ns.map V.int) ∨ SqT K Hx u (ns.map V.int)) := fun Hx sx => hu5.elim (fun z => .inl (SqL.of (sx _ _ z))) fun z => .inr (SqT.of (sx _ _ z))
    refine ⟨⟨_, SqL.of hZ⟩, ?_⟩
    refine for_it (n := 6) (fun j σ Hx => ∃ v5 v6 v7 v8, σ = [some (.ref sc), some (.int kk), some (.ref p), some (.ref r), some (.ref u), v5, v6, v7, v8] ∧ Same H5 Hx) ⟨_, _, _, _, rfl, Same.refl _⟩ (fun j σ Hx hj ⟨_, _, _, _, _, sx⟩ => ⟨_, _, SqL.of (sx _ _ hZ), List.getElem?_eq_getElem (by rw [hSl]; exact hj)⟩) (fun σ Hx ⟨_, _, _, _, _, sx⟩ => ⟨_, SqL.of (sx _ _ hZ), by rw [hSl]; exact Nat.le_refl _⟩) ?_ ?_
    · rintro j x σ Hx Hy hj ⟨v5, v6, v7, v8, rfl, sx⟩ ⟨rfl, hx⟩
      obtain ⟨c, rfl, hc1, hc2⟩ := hSz j x (hx _ (SqL.of (sx _ _ hZ)))
      have hfew := groupsK_few ns c hc1 (by omega)
      refine seqR (fun σ Hz => ∃ l1, σ = [some (.ref sc), some (.int kk), some (.ref p), some (.ref r), some (.ref u), some (.int (c : Int)), some (.ref l1), v7, v8] ∧ NewRows Hy Hz l1 (groupsK ns c) ∧ Same Hy Hz) (fun R hR => ?_) ?_
      · walk_at "rd"
        exact ⟨u, ns, c, rfl, hSu _ sx, by omega, hc1, by omega, fun l1 H6 s6 hN => hR _ _ ⟨l1, rfl, hN, s6⟩⟩
      rintro σ H6 ⟨l1, rfl, hN1, s6⟩
      refine seqR (fun σ Hz => ∃ l2, σ = [some (.ref sc), some (.int kk), some (.ref p), some (.ref r), some (.ref u), some (.int (c : Int)), some (.ref l1), some (.ref l2), v8] ∧ NewRows H6 Hz l2 (groupsK ns c) ∧ Same H6 Hz) (fun R hR => ?_) ?_
      · walk_at "rd"
        exact ⟨r, ns, c, rfl, (sx.trans s6) _ _ hr5, by omega, hc1, by omega, fun l2 H7 s7 hN => hR _ _ ⟨l2, rfl, hN, s7⟩⟩
      rintro σ H7 ⟨l2, rfl, hN2, s7⟩
      generalize hGG : groupsK ns c = G at hfew hN1 hN2
      obtain ⟨as, a1, a2, a3, a4, a5, a6, a7⟩ := id hN1
      have a1' := s7 _ _ a1
      refine seqR (fun σ Hz => σ = [some (.ref sc), some (.int kk), some (.ref p), some (.ref r), some (.ref u), some (.int (c : Int)), some (.ref l1), some (.ref l2), v8] ∧ Same H7 Hz) (fun R hR => ?_) ?_
      · walk_at "rd"
        refine ⟨true, .inl ⟨_, .lst a1', kit_self⟩, ite2 (fun z => nomatch z) fun _ => ⟨true, (hN1.same s7).eq hN2, ite2 (fun z => nomatch z) fun _ => ⟨⟨_, SqL.of a1'⟩, ?_⟩⟩⟩
        refine comp_map (n := as.length) (fun _ => V.bl true) (Nat.lt_of_le_of_lt (show _ ≤ 1000 by omega) (by decide)) (fun k Hx s hk => ⟨_, _, SqL.of (s _ _ a1'), List.getElem?_eq_getElem (by rw [List.length_map]; exact hk)⟩) (fun Hx s => ⟨_, SqL.of (s _ _ a1'), by rw [List.length_map]; exact Nat.le_refl _⟩) ?_ ?_
        · rintro k v Hx Hy hk s ⟨rfl, hx⟩
          have ex := hx _ (SqL.of (s _ _ a1'))
          rw [List.getElem?_map, List.getElem?_eq_getElem hk] at ex
          cases ex
          walk_at "rd"
          exact ⟨true, .inl ⟨_, .lst (s _ _ (s7 _ _ (a5 k hk (by omega)))), kit_self⟩, CW.next hk rfl s⟩
        intro l' Hx sx hl'
        have ga := sx.upd' (o := .lst ((List.range as.length).map fun _ => V.bl true)) hl'
        refine ⟨l', rfl, List.replicate as.length true, SqL.of (by rw [upd_same, List.map_replicate, List.map_const', List.length_range]), ?_⟩
        have eall : (List.replicate as.length true).all id = true := by simp
        rw [eall]
        exact ite2 (fun z => nomatch z) fun _ => hR _ _ ⟨rfl, ga⟩
      rintro σ H8 ⟨rfl, s8⟩
      walk_at "rd"
      have s78 := s7.trans s8
      have b1 := s78 _ _ a1
      have nS : ∀ x o, H6 x = none → H8 x = some o → x ∉ l1 :: as := fun x o hx _ hm => by
        rcases List.mem_cons.mp hm with rfl | hm
        · rw [hx] at a1; cases a1
        · obtain ⟨k, hk, rfl⟩ := List.getElem_of_mem hm
          have := a5 k hk (by omega)
          rw [hx] at this; cases this
      have nY : ∀ x o, Hy x = some o → x ∉ l1 :: as := fun x o hx hm => by
        rcases List.mem_cons.mp hm with rfl | hm
        · rw [hx] at a6; cases a6
        · have := a7 x hm; rw [hx] at this; cases this
      refine ⟨⟨_, SqL.of b1⟩, ?_⟩
      refine for_it (n := as.length) (fun k σ Hz => ∃ v8, σ = [some (.ref sc), some (.int kk), some (.ref p), some (.ref r), some (.ref u), some (.int (c : Int)), some (.ref l1), some (.ref l2), v8] ∧ Spoil as H8 Hz ∧ ∀ m (h : m < as.length) (h2 : m < G.length), k ≤ m → Hz as[m] = some (.lst (natsV G[m]))) ⟨_, rfl, (fun x o _ h => h), fun m h h2 _ => s78 _ _ (a5 m h h2)⟩ (fun k σ Hz hk ⟨_, _, sz, _⟩ => ⟨_, _, SqL.of (sz _ _ a3 b1), List.getElem?_eq_getElem (by rw [List.length_map]; exact hk)⟩) (fun σ Hz ⟨_, _, sz, _⟩ => ⟨_, SqL.of (sz _ _ a3 b1), by rw [List.length_map]; exact Nat.le_refl _⟩) ?_ ?_
      · rintro k x σ Hz Hw hk ⟨w8, rfl, sz, hz⟩ ⟨rfl, hx⟩
        have ex := hx _ (SqL.of (sz _ _ a3 b1))
        rw [List.getElem?_map, List.getElem?_eq_getElem hk] at ex
        cases ex
        have hkG : k < G.length := by omega
        have hone := hz k hk hkG (Nat.le_refl _)
        have hgl := hfew.2 _ (List.getElem_mem hkG)
        walk_at "rd"
        refine ⟨⟨_, SqL.of hone⟩, ?_⟩
        refine comp_map (n := G[k].length) (fun _ => V.bl true) (Nat.lt_of_le_of_lt hgl (by decide)) (fun m Hx s hm => ⟨_, _, SqL.of (s _ _ hone), List.getElem?_eq_getElem (by rw [natsV_len]; exact hm)⟩) (fun Hx s => ⟨_, SqL.of (s _ _ hone), by rw [natsV_len]; exact Nat.le_refl _⟩) ?_ ?_
        · rintro m v Hx Hy hm s ⟨rfl, hx⟩
          have ex := hx _ (SqL.of (s _ _ hone))
          unfold natsV at ex
          rw [List.getElem?_map, List.getElem?_eq_getElem hm] at ex
          cases ex
          walk_at "rd"
          exact ⟨_, rfl, CW.next hm rfl s⟩
        intro l' Hx sx hl'
        have ga := sx.upd' (o := .lst ((List.range G[k].length).map fun _ => V.bl true)) hl'
        have hone2 := ga _ _ hone
        refine ⟨l', rfl, List.replicate G[k].length true, SqL.of (by rw [upd_same, List.map_replicate, List.map_const', List.length_range]), ?_⟩
        have eall : (List.replicate G[k].length true).all id = true := by simp
        rw [eall]
        refine ite2 (fun z => nomatch z) fun _ => ⟨tyV_list hone2, _, hone2, Nat.lt_of_le_of_lt (show _ ≤ 1000 by rw [natsV_len]; exact hgl) (by decide), fun x o nx hx => ?_, fun m h h2 hm => ?_⟩
        · have nk : x ≠ as[k] := fun e => nx (by rw [e]; exact List.getElem_mem hk)
          rw [upd_ne nk]
          exact ga _ _ (sz _ _ nx hx)
        · rw [upd_ne (fun e => by have := (List.getElem_inj a2).mp e; omega)]
          exact ga _ _ (hz m h h2 (by omega))
      · rintro σ Hz ⟨w8, rfl, sz, _⟩
        walk_at "rd"
        have b2 := sz _ _ a3 b1
        refine ⟨tyV_list b2, by decide, fun z0 hz0 => ?_⟩
        have gz := (Same.refl Hz).upd (o := .lst [V.int 0]) hz0
        refine ⟨_, gz _ _ b2, Nat.lt_of_le_of_lt (show _ ≤ 1000 by rw [List.length_map]; omega) (by decide), ?_⟩
        have sE : Spoil (l1 :: as) H8 (upd (upd Hz z0 (.lst [V.int 0])) l1 (.lst (as.map V.ref ++ [V.ref z0]))) := fun x o nx hx => by
          have n1 : x ≠ l1 := fun e => nx (by rw [e]; exact List.mem_cons_self)
          rw [upd_ne n1]
          exact gz _ _ (sz _ _ (fun h => nx (List.mem_cons_of_mem _ h)) hx)
        generalize upd (upd Hz z0 (.lst [V.int 0])) l1 (.lst (as.map V.ref ++ [V.ref z0])) = H9 at sE ⊢
        have sY : Same Hy H9 := fun x o hx => sE _ _ (nY x o hx) ((s6.trans s78) _ _ hx)
        have sX := sx.trans sY
        have hN9 : NewRows H6 H9 l2 G := (hN2.same s8).keep fun x o hx ho => sE _ _ (nS x o hx ho) ho
        refine ⟨u, ns, c, rfl, hSu _ sX, by omega, hc1, by omega, fun l3 H10 s10 hN3 => ?_⟩
        rw [hGG] at hN3
        have sT := sX.trans s10
        refine ⟨l3, rfl, true, hN3.eq (hN9.same s10), ite2 (fun z => nomatch z) fun _ => ⟨_, hSu _ sT, fun l hl => ?_⟩⟩
        have sU := sT.upd' (o := .lst (ns.map V.int)) hl
        have hh := eqp_lst (n := 2) (K := K) (H := upd H10 l (.lst (ns.map V.int))) eqp_int (V.ref l) (V.ref r) ns ns (isL_ints (SqL.of upd_same)) (isL_ints (SqL.of (sU _ _ hr5)))
        rw [decide_eq_true rfl] at hh
        exact ⟨true, hh, ite2 (fun z => nomatch z) fun _ => sU⟩
    · rintro σ Hx ⟨v5, v6, v7, v8, rfl, sx⟩
      exact ⟨_, _, _, _, _, _, _, _, rfl, s5.trans sx⟩
  · rintro σ Hx ⟨v1, v2, v3, v4, v5, v6, v7, v8, rfl, hs⟩
    walk_at "rd"
    exact k1 _

end
theorem all_mk {l : PySem.W.OpenLaw} {w : World} {K : PySem.W.Frag} {h : Heap} {mg : Str → Option Value} {fa : Addr} (X : K.In h) (G : h.Ns mainGlobals mg) (hfa : mg "law" = some (.ref fa))
    {f_settle : Addr} {od_settle an_settle : Option Addr} {sl_settle : Array (Option Value)} {oc_settle kV_settle dc_settle pm_settle cd_settle ct_settle : Value}
    (a_settle : PySem.W.nsIn K mainGlobals "settle" = some (some (.ref f_settle))) (l_settle : K.lookup f_settle = some ⟨oc_settle, od_settle, .func (PySem.W.fnOf "settle" "settle" (defArgs s_settle) (defBody s_settle) (defScope s_settle) .none kV_settle dc_settle pm_settle an_settle cd_settle ct_settle), sl_settle⟩) (c_settle : PySem.W.codeIn K cd_settle "settle" = true) (k_settle : PySem.W.keepIn K (.ref f_settle) = true)
    {f_tree_of : Addr} {od_tree_of an_tree_of : Option Addr} {sl_tree_of : Array (Option Value)} {oc_tree_of kV_tree_of dc_tree_of pm_tree_of cd_tree_of ct_tree_of : Value}
    (a_tree_of : PySem.W.nsIn K mainGlobals "tree_of" = some (some (.ref f_tree_of))) (l_tree_of : K.lookup f_tree_of = some ⟨oc_tree_of, od_tree_of, .func (PySem.W.fnOf "tree_of" "tree_of" (defArgs s_tree_of) (defBody s_tree_of) (defScope s_tree_of) .none kV_tree_of dc_tree_of pm_tree_of an_tree_of cd_tree_of ct_tree_of), sl_tree_of⟩) (c_tree_of : PySem.W.codeIn K cd_tree_of "tree_of" = true) (k_tree_of : PySem.W.keepIn K (.ref f_tree_of) = true)
    {f_way_up : Addr} {od_way_up an_way_up : Option Addr} {sl_way_up : Array (Option Value)} {oc_way_up kV_way_up dc_way_up pm_way_up cd_way_up ct_way_up : Value}
    (a_way_up : PySem.W.nsIn K mainGlobals "way_up" = some (some (.ref f_way_up))) (l_way_up : K.lookup f_way_up = some ⟨oc_way_up, od_way_up, .func (PySem.W.fnOf "way_up" "way_up" (defArgs s_way_up) (defBody s_way_up) (defScope s_way_up) .none kV_way_up dc_way_up pm_way_up an_way_up cd_way_up ct_way_up), sl_way_up⟩) (c_way_up : PySem.W.codeIn K cd_way_up "way_up" = true) (k_way_up : PySem.W.keepIn K (.ref f_way_up) = true)
    {f_fences_of : Addr} {od_fences_of an_fences_of : Option Addr} {sl_fences_of : Array (Option Value)} {oc_fences_of kV_fences_of dc_fences_of pm_fences_of cd_fences_of ct_fences_of : Value}
    (a_fences_of : PySem.W.nsIn K mainGlobals "fences_of" = some (some (.ref f_fences_of))) (l_fences_of : K.lookup f_fences_of = some ⟨oc_fences_of, od_fences_of, .func (PySem.W.fnOf "fences_of" "fences_of" (defArgs s_fences_of) (defBody s_fences_of) (defScope s_fences_of) .none kV_fences_of dc_fences_of pm_fences_of an_fences_of cd_fences_of ct_fences_of), sl_fences_of⟩) (c_fences_of : PySem.W.codeIn K cd_fences_of "fences_of" = true) (k_fences_of : PySem.W.keepIn K (.ref f_fences_of) = true)
    {f_distance_list : Addr} {od_distance_list an_distance_list : Option Addr} {sl_distance_list : Array (Option Value)} {oc_distance_list kV_distance_list dc_distance_list pm_distance_list cd_distance_list ct_distance_list : Value}
    (a_distance_list : PySem.W.nsIn K mainGlobals "distance_list" = some (some (.ref f_distance_list))) (l_distance_list : K.lookup f_distance_list = some ⟨oc_distance_list, od_distance_list, .func (PySem.W.fnOf "distance_list" "distance_list" (defArgs s_distance_list) (defBody s_distance_list) (defScope s_distance_list) .none kV_distance_list dc_distance_list pm_distance_list an_distance_list cd_distance_list ct_distance_list), sl_distance_list⟩) (c_distance_list : PySem.W.codeIn K cd_distance_list "distance_list" = true) (k_distance_list : PySem.W.keepIn K (.ref f_distance_list) = true)
    {f_row_distances : Addr} {od_row_distances an_row_distances : Option Addr} {sl_row_distances : Array (Option Value)} {oc_row_distances kV_row_distances dc_row_distances pm_row_distances cd_row_distances ct_row_distances : Value}
    (a_row_distances : PySem.W.nsIn K mainGlobals "row_distances" = some (some (.ref f_row_distances))) (l_row_distances : K.lookup f_row_distances = some ⟨oc_row_distances, od_row_distances, .func (PySem.W.fnOf "row_distances" "row_distances" (defArgs s_row_distances) (defBody s_row_distances) (defScope s_row_distances) .none kV_row_distances dc_row_distances pm_row_distances an_row_distances cd_row_distances ct_row_distances), sl_row_distances⟩) (c_row_distances : PySem.W.codeIn K cd_row_distances "row_distances" = true) (k_row_distances : PySem.W.keepIn K (.ref f_row_distances) = true)
    {f_seen_within : Addr} {od_seen_within an_seen_within : Option Addr} {sl_seen_within : Array (Option Value)} {oc_seen_within kV_seen_within dc_seen_within pm_seen_within cd_seen_within ct_seen_within : Value}
    (a_seen_within : PySem.W.nsIn K mainGlobals "seen_within" = some (some (.ref f_seen_within))) (l_seen_within : K.lookup f_seen_within = some ⟨oc_seen_within, od_seen_within, .func (PySem.W.fnOf "seen_within" "seen_within" (defArgs s_seen_within) (defBody s_seen_within) (defScope s_seen_within) .none kV_seen_within dc_seen_within pm_seen_within an_seen_within cd_seen_within ct_seen_within), sl_seen_within⟩) (c_seen_within : PySem.W.codeIn K cd_seen_within "seen_within" = true) (k_seen_within : PySem.W.keepIn K (.ref f_seen_within) = true)
    {f_stretch_keys : Addr} {od_stretch_keys an_stretch_keys : Option Addr} {sl_stretch_keys : Array (Option Value)} {oc_stretch_keys kV_stretch_keys dc_stretch_keys pm_stretch_keys cd_stretch_keys ct_stretch_keys : Value}
    (a_stretch_keys : PySem.W.nsIn K mainGlobals "stretch_keys" = some (some (.ref f_stretch_keys))) (l_stretch_keys : K.lookup f_stretch_keys = some ⟨oc_stretch_keys, od_stretch_keys, .func (PySem.W.fnOf "stretch_keys" "stretch_keys" (defArgs s_stretch_keys) (defBody s_stretch_keys) (defScope s_stretch_keys) .none kV_stretch_keys dc_stretch_keys pm_stretch_keys an_stretch_keys cd_stretch_keys ct_stretch_keys), sl_stretch_keys⟩) (c_stretch_keys : PySem.W.codeIn K cd_stretch_keys "stretch_keys" = true) (k_stretch_keys : PySem.W.keepIn K (.ref f_stretch_keys) = true)
    {f_groups_by : Addr} {od_groups_by an_groups_by : Option Addr} {sl_groups_by : Array (Option Value)} {oc_groups_by kV_groups_by dc_groups_by pm_groups_by cd_groups_by ct_groups_by : Value}
    (a_groups_by : PySem.W.nsIn K mainGlobals "groups_by" = some (some (.ref f_groups_by))) (l_groups_by : K.lookup f_groups_by = some ⟨oc_groups_by, od_groups_by, .func (PySem.W.fnOf "groups_by" "groups_by" (defArgs s_groups_by) (defBody s_groups_by) (defScope s_groups_by) .none kV_groups_by dc_groups_by pm_groups_by an_groups_by cd_groups_by ct_groups_by), sl_groups_by⟩) (c_groups_by : PySem.W.codeIn K cd_groups_by "groups_by" = true) (k_groups_by : PySem.W.keepIn K (.ref f_groups_by) = true)
    {f_groups_of : Addr} {od_groups_of an_groups_of : Option Addr} {sl_groups_of : Array (Option Value)} {oc_groups_of kV_groups_of dc_groups_of pm_groups_of cd_groups_of ct_groups_of : Value}
    (a_groups_of : PySem.W.nsIn K mainGlobals "groups_of" = some (some (.ref f_groups_of))) (l_groups_of : K.lookup f_groups_of = some ⟨oc_groups_of, od_groups_of, .func (PySem.W.fnOf "groups_of" "groups_of" (defArgs s_groups_of) (defBody s_groups_of) (defScope s_groups_of) .none kV_groups_of dc_groups_of pm_groups_of an_groups_of cd_groups_of ct_groups_of), sl_groups_of⟩) (c_groups_of : PySem.W.codeIn K cd_groups_of "groups_of" = true) (k_groups_of : PySem.W.keepIn K (.ref f_groups_of) = true)
    {f__law_deal : Addr} {od__law_deal an__law_deal : Option Addr} {sl__law_deal : Array (Option Value)} {oc__law_deal kV__law_deal dc__law_deal pm__law_deal cd__law_deal ct__law_deal : Value}
    (a__law_deal : PySem.W.nsIn K mainGlobals "_law_deal" = some (some (.ref f__law_deal))) (l__law_deal : K.lookup f__law_deal = some ⟨oc__law_deal, od__law_deal, .func (PySem.W.fnOf "_law_deal" "_law_deal" (defArgs s__law_deal) (defBody s__law_deal) (defScope s__law_deal) .none kV__law_deal dc__law_deal pm__law_deal an__law_deal cd__law_deal ct__law_deal), sl__law_deal⟩) (c__law_deal : PySem.W.codeIn K cd__law_deal "_law_deal" = true) (k__law_deal : PySem.W.keepIn K (.ref f__law_deal) = true)
    {f__law_take : Addr} {od__law_take an__law_take : Option Addr} {sl__law_take : Array (Option Value)} {oc__law_take kV__law_take dc__law_take pm__law_take cd__law_take ct__law_take : Value}
    (a__law_take : PySem.W.nsIn K mainGlobals "_law_take" = some (some (.ref f__law_take))) (l__law_take : K.lookup f__law_take = some ⟨oc__law_take, od__law_take, .func (PySem.W.fnOf "_law_take" "_law_take" (defArgs s__law_take) (defBody s__law_take) (defScope s__law_take) .none kV__law_take dc__law_take pm__law_take an__law_take cd__law_take ct__law_take), sl__law_take⟩) (c__law_take : PySem.W.codeIn K cd__law_take "_law_take" = true) (k__law_take : PySem.W.keepIn K (.ref f__law_take) = true)
    {f__law_whole : Addr} {od__law_whole an__law_whole : Option Addr} {sl__law_whole : Array (Option Value)} {oc__law_whole kV__law_whole dc__law_whole pm__law_whole cd__law_whole ct__law_whole : Value}
    (a__law_whole : PySem.W.nsIn K mainGlobals "_law_whole" = some (some (.ref f__law_whole))) (l__law_whole : K.lookup f__law_whole = some ⟨oc__law_whole, od__law_whole, .func (PySem.W.fnOf "_law_whole" "_law_whole" (defArgs s__law_whole) (defBody s__law_whole) (defScope s__law_whole) .none kV__law_whole dc__law_whole pm__law_whole an__law_whole cd__law_whole ct__law_whole), sl__law_whole⟩) (c__law_whole : PySem.W.codeIn K cd__law_whole "_law_whole" = true) (k__law_whole : PySem.W.keepIn K (.ref f__law_whole) = true)
    {f__law_row : Addr} {od__law_row an__law_row : Option Addr} {sl__law_row : Array (Option Value)} {oc__law_row kV__law_row dc__law_row pm__law_row cd__law_row ct__law_row : Value}
    (a__law_row : PySem.W.nsIn K mainGlobals "_law_row" = some (some (.ref f__law_row))) (l__law_row : K.lookup f__law_row = some ⟨oc__law_row, od__law_row, .func (PySem.W.fnOf "_law_row" "_law_row" (defArgs s__law_row) (defBody s__law_row) (defScope s__law_row) .none kV__law_row dc__law_row pm__law_row an__law_row cd__law_row ct__law_row), sl__law_row⟩) (c__law_row : PySem.W.codeIn K cd__law_row "_law_row" = true) (k__law_row : PySem.W.keepIn K (.ref f__law_row) = true)
    {f__law_elder : Addr} {od__law_elder an__law_elder : Option Addr} {sl__law_elder : Array (Option Value)} {oc__law_elder kV__law_elder dc__law_elder pm__law_elder cd__law_elder ct__law_elder : Value}
    (a__law_elder : PySem.W.nsIn K mainGlobals "_law_elder" = some (some (.ref f__law_elder))) (l__law_elder : K.lookup f__law_elder = some ⟨oc__law_elder, od__law_elder, .func (PySem.W.fnOf "_law_elder" "_law_elder" (defArgs s__law_elder) (defBody s__law_elder) (defScope s__law_elder) .none kV__law_elder dc__law_elder pm__law_elder an__law_elder cd__law_elder ct__law_elder), sl__law_elder⟩) (c__law_elder : PySem.W.codeIn K cd__law_elder "_law_elder" = true) (k__law_elder : PySem.W.keepIn K (.ref f__law_elder) = true)
    {f__law_tree : Addr} {od__law_tree an__law_tree : Option Addr} {sl__law_tree : Array (Option Value)} {oc__law_tree kV__law_tree dc__law_tree pm__law_tree cd__law_tree ct__law_tree : Value}
    (a__law_tree : PySem.W.nsIn K mainGlobals "_law_tree" = some (some (.ref f__law_tree))) (l__law_tree : K.lookup f__law_tree = some ⟨oc__law_tree, od__law_tree, .func (PySem.W.fnOf "_law_tree" "_law_tree" (defArgs s__law_tree) (defBody s__law_tree) (defScope s__law_tree) .none kV__law_tree dc__law_tree pm__law_tree an__law_tree cd__law_tree ct__law_tree), sl__law_tree⟩) (c__law_tree : PySem.W.codeIn K cd__law_tree "_law_tree" = true) (k__law_tree : PySem.W.keepIn K (.ref f__law_tree) = true)
    {f__law_either : Addr} {od__law_either an__law_either : Option Addr} {sl__law_either : Array (Option Value)} {oc__law_either kV__law_either dc__law_either pm__law_either cd__law_either ct__law_either : Value}
    (a__law_either : PySem.W.nsIn K mainGlobals "_law_either" = some (some (.ref f__law_either))) (l__law_either : K.lookup f__law_either = some ⟨oc__law_either, od__law_either, .func (PySem.W.fnOf "_law_either" "_law_either" (defArgs s__law_either) (defBody s__law_either) (defScope s__law_either) .none kV__law_either dc__law_either pm__law_either an__law_either cd__law_either ct__law_either), sl__law_either⟩) (c__law_either : PySem.W.codeIn K cd__law_either "_law_either" = true) (k__law_either : PySem.W.keepIn K (.ref f__law_either) = true)
    {f__law_wide_row : Addr} {od__law_wide_row an__law_wide_row : Option Addr} {sl__law_wide_row : Array (Option Value)} {oc__law_wide_row kV__law_wide_row dc__law_wide_row pm__law_wide_row cd__law_wide_row ct__law_wide_row : Value}
    (a__law_wide_row : PySem.W.nsIn K mainGlobals "_law_wide_row" = some (some (.ref f__law_wide_row))) (l__law_wide_row : K.lookup f__law_wide_row = some ⟨oc__law_wide_row, od__law_wide_row, .func (PySem.W.fnOf "_law_wide_row" "_law_wide_row" (defArgs s__law_wide_row) (defBody s__law_wide_row) (defScope s__law_wide_row) .none kV__law_wide_row dc__law_wide_row pm__law_wide_row an__law_wide_row cd__law_wide_row ct__law_wide_row), sl__law_wide_row⟩) (c__law_wide_row : PySem.W.codeIn K cd__law_wide_row "_law_wide_row" = true) (k__law_wide_row : PySem.W.keepIn K (.ref f__law_wide_row) = true)
    {f__law_trees : Addr} {od__law_trees an__law_trees : Option Addr} {sl__law_trees : Array (Option Value)} {oc__law_trees kV__law_trees dc__law_trees pm__law_trees cd__law_trees ct__law_trees : Value}
    (a__law_trees : PySem.W.nsIn K mainGlobals "_law_trees" = some (some (.ref f__law_trees))) (l__law_trees : K.lookup f__law_trees = some ⟨oc__law_trees, od__law_trees, .func (PySem.W.fnOf "_law_trees" "_law_trees" (defArgs s__law_trees) (defBody s__law_trees) (defScope s__law_trees) .none kV__law_trees dc__law_trees pm__law_trees an__law_trees cd__law_trees ct__law_trees), sl__law_trees⟩) (c__law_trees : PySem.W.codeIn K cd__law_trees "_law_trees" = true) (k__law_trees : PySem.W.keepIn K (.ref f__law_trees) = true)
    {f__law_due : Addr} {od__law_due an__law_due : Option Addr} {sl__law_due : Array (Option Value)} {oc__law_due kV__law_due dc__law_due pm__law_due cd__law_due ct__law_due : Value}
    (a__law_due : PySem.W.nsIn K mainGlobals "_law_due" = some (some (.ref f__law_due))) (l__law_due : K.lookup f__law_due = some ⟨oc__law_due, od__law_due, .func (PySem.W.fnOf "_law_due" "_law_due" (defArgs s__law_due) (defBody s__law_due) (defScope s__law_due) .none kV__law_due dc__law_due pm__law_due an__law_due cd__law_due ct__law_due), sl__law_due⟩) (c__law_due : PySem.W.codeIn K cd__law_due "_law_due" = true) (k__law_due : PySem.W.keepIn K (.ref f__law_due) = true)
    {f_law : Addr} {od_law an_law : Option Addr} {sl_law : Array (Option Value)} {oc_law kV_law dc_law pm_law cd_law ct_law : Value}
    (a_law : PySem.W.nsIn K mainGlobals "law" = some (some (.ref f_law))) (l_law : K.lookup f_law = some ⟨oc_law, od_law, .func (PySem.W.fnOf "law" "law" (defArgs s_law) (defBody s_law) (defScope s_law) .none kV_law dc_law pm_law an_law cd_law ct_law), sl_law⟩) (c_law : PySem.W.codeIn K cd_law "law" = true) (k_law : PySem.W.keepIn K (.ref f_law) = true)
    (b_all : PySem.W.nsIn K mainGlobals "all" = some none)
    (b_bool : PySem.W.nsIn K mainGlobals "bool" = some none)
    (b_enumerate : PySem.W.nsIn K mainGlobals "enumerate" = some none)
    (b_int : PySem.W.nsIn K mainGlobals "int" = some none)
    (b_isinstance : PySem.W.nsIn K mainGlobals "isinstance" = some none)
    (b_len : PySem.W.nsIn K mainGlobals "len" = some none)
    (b_list : PySem.W.nsIn K mainGlobals "list" = some none)
    (b_max : PySem.W.nsIn K mainGlobals "max" = some none)
    (b_min : PySem.W.nsIn K mainGlobals "min" = some none)
    (b_range : PySem.W.nsIn K mainGlobals "range" = some none)
    (b_tuple : PySem.W.nsIn K mainGlobals "tuple" = some none)
    : ∃ fd : FuncData, (∀ (s : Shared) (v : Value), BindsTo s fd ⟨[v], []⟩ [("script", v)]) ∧ ∀ base : Heap, K.In base → base.Ns mainGlobals mg → FnOk l.prog w K mg base (CXE l.prog w) 6 fa fd ["script"] (spLaw K) := by
  have e := hfa.symm.trans (PySem.W.mg_of X G a_law)
  cases e
  have T : Txt K mg := {
    b_all := PySem.W.mg_none_of X G b_all
    b_bool := PySem.W.mg_none_of X G b_bool
    b_enumerate := PySem.W.mg_none_of X G b_enumerate
    b_int := PySem.W.mg_none_of X G b_int
    b_isinstance := PySem.W.mg_none_of X G b_isinstance
    b_len := PySem.W.mg_none_of X G b_len
    b_list := PySem.W.mg_none_of X G b_list
    b_max := PySem.W.mg_none_of X G b_max
    b_min := PySem.W.mg_none_of X G b_min
    b_range := PySem.W.mg_none_of X G b_range
    b_tuple := PySem.W.mg_none_of X G b_tuple
  }
  have F_settle := fun_mk (st := s_settle) l_settle c_settle k_settle
  have B_settle := F_settle.binds (ps := ["elders", "spine", "place", "keep"]) fun _ _ _ _ _ _ us hl => match us, hl with | [_, _, _, _], _ => rfl
  have F_tree_of := fun_mk (st := s_tree_of) l_tree_of c_tree_of k_tree_of
  have B_tree_of := F_tree_of.binds (ps := ["row"]) fun _ _ _ _ _ _ us hl => match us, hl with | [_], _ => rfl
  have F_way_up := fun_mk (st := s_way_up) l_way_up c_way_up k_way_up
  have B_way_up := F_way_up.binds (ps := ["tree", "place"]) fun _ _ _ _ _ _ us hl => match us, hl with | [_, _], _ => rfl
  have F_fences_of := fun_mk (st := s_fences_of) l_fences_of c_fences_of k_fences_of
  have B_fences_of := F_fences_of.binds (ps := ["tree"]) fun _ _ _ _ _ _ us hl => match us, hl with | [_], _ => rfl
  have F_distance_list := fun_mk (st := s_distance_list) l_distance_list c_distance_list k_distance_list
  have B_distance_list := F_distance_list.binds (ps := ["tree"]) fun _ _ _ _ _ _ us hl => match us, hl with | [_], _ => rfl
  have F_row_distances := fun_mk (st := s_row_distances) l_row_distances c_row_distances k_row_distances
  have B_row_distances := F_row_distances.binds (ps := ["row"]) fun _ _ _ _ _ _ us hl => match us, hl with | [_], _ => rfl
  have F_seen_within := fun_mk (st := s_seen_within) l_seen_within c_seen_within k_seen_within
  have B_seen_within := F_seen_within.binds (ps := ["distance", "size"]) fun _ _ _ _ _ _ us hl => match us, hl with | [_, _], _ => rfl
  have F_stretch_keys := fun_mk (st := s_stretch_keys) l_stretch_keys c_stretch_keys k_stretch_keys
  have B_stretch_keys := F_stretch_keys.binds (ps := ["told", "size"]) fun _ _ _ _ _ _ us hl => match us, hl with | [_, _], _ => rfl
  have F_groups_by := fun_mk (st := s_groups_by) l_groups_by c_groups_by k_groups_by
  have B_groups_by := F_groups_by.binds (ps := ["told", "size"]) fun _ _ _ _ _ _ us hl => match us, hl with | [_, _], _ => rfl
  have F_groups_of := fun_mk (st := s_groups_of) l_groups_of c_groups_of k_groups_of
  have B_groups_of := F_groups_of.binds (ps := ["row", "size"]) fun _ _ _ _ _ _ us hl => match us, hl with | [_, _], _ => rfl
  have F__law_deal := fun_mk (st := s__law_deal) l__law_deal c__law_deal k__law_deal
  have B__law_deal := F__law_deal.binds (ps := ["script", "k"]) fun _ _ _ _ _ _ us hl => match us, hl with | [_, _], _ => rfl
  have F__law_take := fun_mk (st := s__law_take) l__law_take c__law_take k__law_take
  have B__law_take := F__law_take.binds (ps := ["pot", "many"]) fun _ _ _ _ _ _ us hl => match us, hl with | [_, _], _ => rfl
  have F__law_whole := fun_mk (st := s__law_whole) l__law_whole c__law_whole k__law_whole
  have B__law_whole := F__law_whole.binds (ps := ["thing"]) fun _ _ _ _ _ _ us hl => match us, hl with | [_], _ => rfl
  have F__law_row := fun_mk (st := s__law_row) l__law_row c__law_row k__law_row
  have B__law_row := F__law_row.binds (ps := ["pot", "most"]) fun _ _ _ _ _ _ us hl => match us, hl with | [_, _], _ => rfl
  have F__law_elder := fun_mk (st := s__law_elder) l__law_elder c__law_elder k__law_elder
  have B__law_elder := F__law_elder.binds (ps := ["row", "place"]) fun _ _ _ _ _ _ us hl => match us, hl with | [_, _], _ => rfl
  have F__law_tree := fun_mk (st := s__law_tree) l__law_tree c__law_tree k__law_tree
  have B__law_tree := F__law_tree.binds (ps := ["row"]) fun _ _ _ _ _ _ us hl => match us, hl with | [_], _ => rfl
  have F__law_either := fun_mk (st := s__law_either) l__law_either c__law_either k__law_either
  have B__law_either := F__law_either.binds (ps := ["pot", "some"]) fun _ _ _ _ _ _ us hl => match us, hl with | [_, _], _ => rfl
  have F__law_wide_row := fun_mk (st := s__law_wide_row) l__law_wide_row c__law_wide_row k__law_wide_row
  have B__law_wide_row := F__law_wide_row.binds (ps := ["pot"]) fun _ _ _ _ _ _ us hl => match us, hl with | [_], _ => rfl
  have F__law_trees := fun_mk (st := s__law_trees) l__law_trees c__law_trees k__law_trees
  have B__law_trees := F__law_trees.binds (ps := ["row", "size"]) fun _ _ _ _ _ _ us hl => match us, hl with | [_, _], _ => rfl
  have F__law_due := fun_mk (st := s__law_due) l__law_due c__law_due k__law_due
  have B__law_due := F__law_due.binds (ps := ["row", "size"]) fun _ _ _ _ _ _ us hl => match us, hl with | [_, _], _ => rfl
  have F_law := fun_mk (st := s_law) l_law c_law k_law
  refine ⟨PySem.W.fnOf "law" "law" (defArgs s_law) (defBody s_law) (defScope s_law) .none kV_law dc_law pm_law an_law cd_law ct_law, fun s v => .of_eq rfl, fun base _ _ => ?_⟩
  have G_settle : Callee l.prog w K mg base "settle" 1 ["elders", "spine", "place", "keep"] (sp_settle K mg) := ⟨_, _, PySem.W.mg_of X G a_settle, k_settle, B_settle, ok_settle F_settle  T⟩
  have G_tree_of : Callee l.prog w K mg base "tree_of" 2 ["row"] (sp_tree_of K mg) := ⟨_, _, PySem.W.mg_of X G a_tree_of, k_tree_of, B_tree_of, ok_tree_of F_tree_of G_settle T⟩
  have G_way_up : Callee l.prog w K mg base "way_up" 1 ["tree", "place"] (sp_way_up K mg) := ⟨_, _, PySem.W.mg_of X G a_way_up, k_way_up, B_way_up, ok_way_up F_way_up  T⟩
  have G_fences_of : Callee l.prog w K mg base "fences_of" 2 ["tree"] (sp_fences_of K mg) := ⟨_, _, PySem.W.mg_of X G a_fences_of, k_fences_of, B_fences_of, ok_fences_of F_fences_of G_way_up T⟩
  have G_distance_list : Callee l.prog w K mg base "distance_list" 3 ["tree"] (sp_distance_list K mg) := ⟨_, _, PySem.W.mg_of X G a_distance_list, k_distance_list, B_distance_list, ok_distance_list F_distance_list G_fences_of T⟩
  have G_row_distances : Callee l.prog w K mg base "row_distances" 4 ["row"] (sp_row_distances K mg) := ⟨_, _, PySem.W.mg_of X G a_row_distances, k_row_distances, B_row_distances, ok_row_distances F_row_distances G_tree_of G_distance_list T⟩
  have G_seen_within : Callee l.prog w K mg base "seen_within" 1 ["distance", "size"] (sp_seen_within K mg) := ⟨_, _, PySem.W.mg_of X G a_seen_within, k_seen_within, B_seen_within, ok_seen_within F_seen_within  T⟩
  have G_stretch_keys : Callee l.prog w K mg base "stretch_keys" 2 ["told", "size"] (sp_stretch_keys K mg) := ⟨_, _, PySem.W.mg_of X G a_stretch_keys, k_stretch_keys, B_stretch_keys, ok_stretch_keys F_stretch_keys G_seen_within T⟩
  have G_groups_by : Callee l.prog w K mg base "groups_by" 3 ["told", "size"] (sp_groups_by K mg) := ⟨_, _, PySem.W.mg_of X G a_groups_by, k_groups_by, B_groups_by, ok_groups_by F_groups_by G_stretch_keys T⟩
  have G_groups_of : Callee l.prog w K mg base "groups_of" 5 ["row", "size"] (sp_groups_of K mg) := ⟨_, _, PySem.W.mg_of X G a_groups_of, k_groups_of, B_groups_of, ok_groups_of F_groups_of G_row_distances G_groups_by T⟩
  have G__law_deal : Callee l.prog w K mg base "_law_deal" 1 ["script", "k"] (sp__law_deal K mg) := ⟨_, _, PySem.W.mg_of X G a__law_deal, k__law_deal, B__law_deal, ok__law_deal F__law_deal  T⟩
  have G__law_take : Callee l.prog w K mg base "_law_take" 1 ["pot", "many"] (sp__law_take K mg) := ⟨_, _, PySem.W.mg_of X G a__law_take, k__law_take, B__law_take, ok__law_take F__law_take  T⟩
  have G__law_whole : Callee l.prog w K mg base "_law_whole" 1 ["thing"] (sp__law_whole K mg) := ⟨_, _, PySem.W.mg_of X G a__law_whole, k__law_whole, B__law_whole, ok__law_whole F__law_whole  T⟩
  have G__law_either : Callee l.prog w K mg base "_law_either" 2 ["pot", "some"] (sp__law_either K mg) := ⟨_, _, PySem.W.mg_of X G a__law_either, k__law_either, B__law_either, ok__law_either F__law_either G__law_take T⟩
  have G__law_row : Callee l.prog w K mg base "_law_row" 2 ["pot", "most"] (sp__law_row K mg) := ⟨_, _, PySem.W.mg_of X G a__law_row, k__law_row, B__law_row, ok__law_row F__law_row G__law_take T⟩
  have G__law_wide_row : Callee l.prog w K mg base "_law_wide_row" 3 ["pot"] (sp__law_wide_row K mg) := ⟨_, _, PySem.W.mg_of X G a__law_wide_row, k__law_wide_row, B__law_wide_row, ok__law_wide_row F__law_wide_row G__law_take G__law_row T⟩
  have G__law_elder : Callee l.prog w K mg base "_law_elder" 1 ["row", "place"] (sp__law_elder K mg) := ⟨_, _, PySem.W.mg_of X G a__law_elder, k__law_elder, B__law_elder, ok__law_elder F__law_elder  T⟩
  have G__law_tree : Callee l.prog w K mg base "_law_tree" 2 ["row"] (sp__law_tree K mg) := ⟨_, _, PySem.W.mg_of X G a__law_tree, k__law_tree, B__law_tree, ok__law_tree F__law_tree G__law_elder T⟩
  have G__law_trees : Callee l.prog w K mg base "_law_trees" 3 ["row", "size"] (sp__law_trees K mg) := ⟨_, _, PySem.W.mg_of X G a__law_trees, k__law_trees, B__law_trees, ok__law_trees F__law_trees G__law_tree T⟩
  have G__law_due : Callee l.prog w K mg base "_law_due" 4 ["row", "size"] (sp__law_due K mg) := ⟨_, _, PySem.W.mg_of X G a__law_due, k__law_due, B__law_due, ok__law_due F__law_due G__law_trees T⟩
  exact ok_law F_law G_groups_of G__law_deal G__law_take G__law_whole G__law_either G__law_wide_row G__law_due T
theorem walk {l : PySem.W.OpenLaw} {q : Program} {loose : List Str} {XP : (Str → Option Value) → Heap → Prop} {YP : World → Heap → Prop} {d : DefRec} {K : Params → PySem.W.Frag} (hn : l.most = some 63) (hdf : d.params.defaults = [])
    (hY : ∀ (w : World) (h : Heap), YP w h → (K w.params).In h)
    (F : ∀ (w : World) (mg : Str → Option Value) (fa : Addr) (h : Heap), (K w.params).In h → h.Ns mainGlobals mg → mg d.name = some (.ref fa) →
      ∃ fd : FuncData, (∀ (s : Shared) (u : Value), BindsTo s fd ⟨[u], []⟩ [("script", u)]) ∧ ∀ base : Heap, (K w.params).In base → base.Ns mainGlobals mg → FnOk l.prog w (K w.params) mg base (CXE l.prog w) 6 fa fd ["script"] (spLaw (K w.params))) :
    PySem.W.WalkO q loose XP YP l.row.toRowW d [] (fun f vs => PySem.call f vs) :=
  L2.walk_of (n := 63) (k := 6) (x := "script") (CX := fun w => CXE l.prog w) (sp := fun w => spLaw (K w.params)) hn (by decide) hdf ⟨rfl, by decide, by decide⟩ hY F (fun _ _ a ns hl _ hS => ⟨a, ns, rfl, hS, hl, fun _ => rfl⟩) fun _ _ _ _ _ ⟨_, _, _, _, _, _, _, z⟩ => z
end K46
def PySem.W.Fast.tw2445396451319709859 : Unit := ()
def PySem.W.Fast.tw8380090103658234198 : Unit := ()
def PySem.W.Fast.tw13661054703770597456 : Unit := ()
def PySem.W.Fast.tw1794169468051304710 : Unit := ()
def PySem.W.Fast.tw2491371927187105640 : Unit := ()
def PySem.W.Fast.tw10596023868168675350 : Unit := ()
def PySem.W.Fast.tw280621687130913061 : Unit := ()
def PySem.W.Fast.tw6261100306178383098 : Unit := ()
def PySem.W.Fast.tw16585686673546057630 : Unit := ()
def PySem.W.Fast.tw16427083338909015038 : Unit := ()
def PySem.W.Fast.tw688398908172208848 : Unit := ()
def PySem.W.Fast.tw2652852770633662323 : Unit := ()
def PySem.W.Fast.tw6271932670752837474 : Unit := ()
def PySem.W.Fast.tw14216922048611005979 : Unit := ()
def PySem.W.Fast.tw13584561886103819284 : Unit := ()
def PySem.W.Fast.tw6025310534582900513 : Unit := ()
def PySem.W.Fast.tw10172839221651104405 : Unit := ()
def PySem.W.Fast.tw11912163818481562114 : Unit := ()
def PySem.W.Fast.tw360423455739271255 : Unit := ()
def PySem.W.Fast.tw6991681494767147690 : Unit := ()
def PySem.W.Fast.tw9053216313542114222 : Unit := ()
def PySem.W.Fast.tw12037126051232476315 : Unit := ()
def PySem.W.Fast.tw2150160810796696603 : Unit := ()
def PySem.W.Fast.tw2679670563226648250 : Unit := ()
def PySem.W.Fast.tw6231154118908011899 : Unit := ()
def PySem.W.Fast.tw6672428703578669550 : Unit := ()
def PySem.W.Fast.tw6843381518185533003 : Unit := ()
def PySem.W.Fast.tw17616406015915022486 : Unit := ()
def PySem.W.Fast.tw4722785591428256295 : Unit := ()
def PySem.W.Fast.tw9994418378801671928 : Unit := ()
def PySem.W.Fast.tw2289037003094410280 : Unit := ()
def PySem.W.Fast.tw3208549672724011224 : Unit := ()
def PySem.W.Fast.tw14201102557954320670 : Unit := ()
def PySem.W.Fast.tw11820873254763573802 : Unit := ()
def PySem.W.Fast.tw4108000970922990477 : Unit := ()
def PySem.W.Fast.tw66617252795382745 : Unit := ()
def PySem.W.Fast.tw12726572256681802015 : Unit := ()
def PySem.W.Fast.tw3138492413772811702 : Unit := ()
def PySem.W.Fast.tw5547446999629387678 : Unit := ()
def PySem.W.Fast.tw12528751163536334995 : Unit := ()
def PySem.W.Fast.tw13954023587751183022 : Unit := ()
def PySem.W.Fast.tw556917648066789032 : Unit := ()
def PySem.W.Fast.tw11032722009140115271 : Unit := ()
def PySem.W.Fast.tw15336975247422793746 : Unit := ()
def PySem.W.Fast.tw24846448903925372 : Unit := ()
def PySem.W.Fast.tw3363356960167557475 : Unit := ()
def PySem.W.Fast.tw1695110063930685762 : Unit := ()
def PySem.W.Fast.tw9193250016244502134 : Unit := ()

open PySem PySem.W PyProof.Rows
set_option maxRecDepth 100000 in
set_option maxHeartbeats 0 in
theorem PySem.Challenge.cw_dipkin_k46_groups_told_holds : PySem.Challenge.rw_dipkin_k46_groups_told.Holds := by
  w_on; o_law; k_head; (case hw => w_witness2)
  k_fill
  refine K46.walk (l := PySem.Challenge.rw_dipkin_k46_groups_told) rfl rfl (fun w h Y => PySem.W.kIn_of Y) ?F
  case F =>
    intro w mg fa h KX G hmg
    refine' K46.all_mk KX G hmg ?a_settle ?l_settle ?c_settle ?k_settle ?a_tree_of ?l_tree_of ?c_tree_of ?k_tree_of ?a_way_up ?l_way_up ?c_way_up ?k_way_up ?a_fences_of ?l_fences_of ?c_fences_of ?k_fences_of ?a_distance_list ?l_distance_list ?c_distance_list ?k_distance_list ?a_row_distances ?l_row_distances ?c_row_distances ?k_row_distances ?a_seen_within ?l_seen_within ?c_seen_within ?k_seen_within ?a_stretch_keys ?l_stretch_keys ?c_stretch_keys ?k_stretch_keys ?a_groups_by ?l_groups_by ?c_groups_by ?k_groups_by ?a_groups_of ?l_groups_of ?c_groups_of ?k_groups_of ?a__law_deal ?l__law_deal ?c__law_deal ?k__law_deal ?a__law_take ?l__law_take ?c__law_take ?k__law_take ?a__law_whole ?l__law_whole ?c__law_whole ?k__law_whole ?a__law_row ?l__law_row ?c__law_row ?k__law_row ?a__law_elder ?l__law_elder ?c__law_elder ?k__law_elder ?a__law_tree ?l__law_tree ?c__law_tree ?k__law_tree ?a__law_either ?l__law_either ?c__law_either ?k__law_either ?a__law_wide_row ?l__law_wide_row ?c__law_wide_row ?k__law_wide_row ?a__law_trees ?l__law_trees ?c__law_trees ?k__law_trees ?a__law_due ?l__law_due ?c__law_due ?k__law_due ?a_law ?l_law ?c_law ?k_law ?b_all ?b_bool ?b_enumerate ?b_int ?b_isinstance ?b_len ?b_list ?b_max ?b_min ?b_range ?b_tuple
    (case a_settle => k_is)
    (case l_settle => k_is)
    (case c_settle => k_is)
    (case k_settle => k_is)
    (case a_tree_of => k_is)
    (case l_tree_of => k_is)
    (case c_tree_of => k_is)
    (case k_tree_of => k_is)
    (case a_way_up => k_is)
    (case l_way_up => k_is)
    (case c_way_up => k_is)
    (case k_way_up => k_is)
    (case a_fences_of => k_is)
    (case l_fences_of => k_is)
    (case c_fences_of => k_is)
    (case k_fences_of => k_is)
    (case a_distance_list => k_is)
    (case l_distance_list => k_is)
    (case c_distance_list => k_is)
    (case k_distance_list => k_is)
    (case a_row_distances => k_is)
    (case l_row_distances => k_is)
    (case c_row_distances => k_is)
    (case k_row_distances => k_is)
    (case a_seen_within => k_is)
    (case l_seen_within => k_is)
    (case c_seen_within => k_is)
    (case k_seen_within => k_is)
    (case a_stretch_keys => k_is)
    (case l_stretch_keys => k_is)
    (case c_stretch_keys => k_is)
    (case k_stretch_keys => k_is)
    (case a_groups_by => k_is)
    (case l_groups_by => k_is)
    (case c_groups_by => k_is)
    (case k_groups_by => k_is)
    (case a_groups_of => k_is)
    (case l_groups_of => k_is)
    (case c_groups_of => k_is)
    (case k_groups_of => k_is)
    (case a__law_deal => k_is)
    (case l__law_deal => k_is)
    (case c__law_deal => k_is)
    (case k__law_deal => k_is)
    (case a__law_take => k_is)
    (case l__law_take => k_is)
    (case c__law_take => k_is)
    (case k__law_take => k_is)
    (case a__law_whole => k_is)
    (case l__law_whole => k_is)
    (case c__law_whole => k_is)
    (case k__law_whole => k_is)
    (case a__law_row => k_is)
    (case l__law_row => k_is)
    (case c__law_row => k_is)
    (case k__law_row => k_is)
    (case a__law_elder => k_is)
    (case l__law_elder => k_is)
    (case c__law_elder => k_is)
    (case k__law_elder => k_is)
    (case a__law_tree => k_is)
    (case l__law_tree => k_is)
    (case c__law_tree => k_is)
    (case k__law_tree => k_is)
    (case a__law_either => k_is)
    (case l__law_either => k_is)
    (case c__law_either => k_is)
    (case k__law_either => k_is)
    (case a__law_wide_row => k_is)
    (case l__law_wide_row => k_is)
    (case c__law_wide_row => k_is)
    (case k__law_wide_row => k_is)
    (case a__law_trees => k_is)
    (case l__law_trees => k_is)
    (case c__law_trees => k_is)
    (case k__law_trees => k_is)
    (case a__law_due => k_is)
    (case l__law_due => k_is)
    (case c__law_due => k_is)
    (case k__law_due => k_is)
    (case a_law => k_is)
    (case l_law => k_is)
    (case c_law => k_is)
    (case k_law => k_is)
    (case b_all => k_is)
    (case b_bool => k_is)
    (case b_enumerate => k_is)
    (case b_int => k_is)
    (case b_isinstance => k_is)
    (case b_len => k_is)
    (case b_list => k_is)
    (case b_max => k_is)
    (case b_min => k_is)
    (case b_range => k_is)
    (case b_tuple => k_is)

