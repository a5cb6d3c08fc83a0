import PyProof.Rows.All
import Wide.All
import OpenK.AllK
import Wide.FinOn
import Lean
import PyProof.EqAt
import PyProof.EqKinds
import PyProof.TupleCall
import PyProof.MeetsSeq
import PyProof.NeKinds
import PyProof.TupleOfSeq
import PyProof.ListRange
import PyProof.TupleOfGen
import PyProof.ZipIter
import KE.KRevIter
import PyProof.StrWalks
import PyProof.StrBlock2
import PyProof.MeetsStr
import PyProof.StrCalls2
import PyProof.StrLawsIn
import PySem.Challenge.RW_dipkin_k27_whole_all_trees_of_few_places
set_option Elab.async false
set_option linter.all false
set_option maxRecDepth 100000

namespace L2
open PySem PySem.Spec PyProof.Rows


abbrev Key := Sum Int Str
def keyIs : Key → Value → Bool
  | .inl k, v => Value.isInt k v
  | .inr x, v => Value.isStrOf x v
def keyH (w : World) : Key → Int
  | .inl k => hashInt k
  | .inr x => hashStr w x
theorem keyIs_shape : ∀ {k : Key} {v : Value}, keyIs k v = true → (∃ i t, k = Sum.inl i ∧ v = Value.int i t) ∨ (∃ x t, k = Sum.inr x ∧ v = Value.str x t)
  | .inl i, v, h => by
    obtain ⟨t, e⟩ := Value.isInt_shape (k := i) (v := v) h
    exact .inl ⟨i, t, rfl, e⟩
  | .inr x, v, h => by
    obtain ⟨t, e⟩ := Value.isStrOf_shape (x := x) (v := v) h
    exact .inr ⟨x, t, rfl, e⟩
theorem key_ll (a b : Int) : decide ((Sum.inl a : Key) = Sum.inl b) = (a == b) := by
  by_cases e : a = b
  · subst e; simp
  · have h : ¬ (Sum.inl a : Key) = Sum.inl b := fun q => e (Sum.inl.inj q)
    rw [decide_eq_false h]
    exact (beq_eq_false_iff_ne.mpr e).symm
theorem key_rr (a b : Str) : decide ((Sum.inr a : Key) = Sum.inr b) = decide (a = b) := by
  by_cases e : a = b
  · subst e; simp
  · have h : ¬ (Sum.inr a : Key) = Sum.inr b := fun q => e (Sum.inr.inj q)
    rw [decide_eq_false h, decide_eq_false e]
theorem key_lr (a : Int) (b : Str) : decide ((Sum.inl a : Key) = Sum.inr b) = false := decide_eq_false (fun q => nomatch q)
theorem key_rl (a : Str) (b : Int) : decide ((Sum.inr a : Key) = Sum.inl b) = false := decide_eq_false (fun q => nomatch q)

def mixKind (prog : Program) (w : World) : PySem.KeyKind prog w Key where
  is := keyIs
  hash := keyH w
  inj := fun v a b ha hb => by
    rcases keyIs_shape ha with ⟨i, t, rfl, rfl⟩ | ⟨x, t, rfl, rfl⟩
    · rcases keyIs_shape hb with ⟨j, u, rfl, e⟩ | ⟨y, u, rfl, e⟩
      · injection e with e1 _; rw [e1]
      · exact nomatch e
    · rcases keyIs_shape hb with ⟨j, u, rfl, e⟩ | ⟨y, u, rfl, e⟩
      · exact nomatch e
      · injection e with e1 _; rw [e1]
  byValue := fun k v h => by
    rcases keyIs_shape h with ⟨i, t, rfl, rfl⟩ | ⟨x, t, rfl, rfl⟩ <;> rfl
  pyHash := fun hv h => by
    rcases keyIs_shape hv with ⟨i, t, rfl, rfl⟩ | ⟨x, t, rfl, rfl⟩
    · exact wpAny_pyHash_int h
    · exact wpAny_pyHash_str h
  eqBool := fun hu hv h => by
    rcases keyIs_shape hu with ⟨i, t, rfl, rfl⟩ | ⟨x, t, rfl, rfl⟩
    · rcases keyIs_shape hv with ⟨j, u, rfl, rfl⟩ | ⟨y, u, rfl, rfl⟩
      · rw [key_ll] at h; exact wpAny_eqBool_int h
      · rw [key_lr] at h; exact SeqAt.EqAt.int_str i t y u _ _ _ _ h
    · rcases keyIs_shape hv with ⟨j, u, rfl, rfl⟩ | ⟨y, u, rfl, rfl⟩
      · rw [key_rl] at h; exact SeqAt.EqAt.str_int x t j u _ _ _ _ h
      · rw [key_rr] at h; exact wpAny_eqBool_str h
  «strs» := fun k x t v h => by
    rcases keyIs_shape h with ⟨i, u, rfl, e⟩ | ⟨y, u, rfl, e⟩
    · exact nomatch e
    · injection e with e1 _
      subst e1
      cases v <;> rfl

end L2

namespace L2
open PySem PySem.Spec PyProof.Rows


inductive V where
  | non | bl (b : Bool) | int (i : Int) | str (x : Str) | byt (b : Array UInt8) | flt (b : UInt64) | ref (a : Addr) | ty (n : String)
  deriving DecidableEq

def RelV : V → Value → Prop
  | .non, u => u = Value.none
  | .bl b, u => u = Value.bool b
  | .int i, u => ∃ t, u = Value.int i t
  | .str x, u => ∃ t, u = Value.str x t
  | .byt b, u => ∃ t, u = Value.bytes b t
  | .flt b, u => ∃ t, u = Value.float b t
  | .ref a, u => u = Value.ref a
  | .ty n, u => u = Value.type n

abbrev Vals : List V → List Value → Prop := Paired RelV
theorem Vals.length {xs : List V} {us : List Value} (r : Vals xs us) : xs.length = us.length := Paired.length r
theorem Vals.get : ∀ {xs : List V} {us : List Value} {i : Nat} {x : V}, Vals xs us → xs[i]? = some x → ∃ u, us[i]? = some u ∧ RelV x u
  | _, _, _, _, .nil, e => by simp at e
  | _, _, 0, _, .cons r _, e => by simp at e; subst e; exact ⟨_, rfl, r⟩
  | _, _, i + 1, x, .cons _ t, e => by
    obtain ⟨u, h1, h2⟩ := Vals.get (i := i) (x := x) t (by simpa using e)
    exact ⟨u, by simpa using h1, h2⟩
theorem Vals.set {x : V} {u : Value} (r : RelV x u) : ∀ {xs : List V} {us : List Value} (i : Nat), Vals xs us → Vals (xs.set i x) (us.set i u)
  | _, _, _, .nil => .nil
  | _, _, 0, .cons _ t => .cons r t
  | _, _, i + 1, .cons q t => .cons q (Vals.set r i t)
theorem Vals.append : ∀ {xs ys : List V} {us ws : List Value}, Vals xs us → Vals ys ws → Vals (xs ++ ys) (us ++ ws)
  | _, _, _, _, .nil, s => s
  | _, _, _, _, .cons r t, s => .cons r (Vals.append t s)
theorem Vals.take : ∀ {xs : List V} {us : List Value} (n : Nat), Vals xs us → Vals (xs.take n) (us.take n)
  | _, _, 0, _ => .nil
  | _, _, _ + 1, .nil => .nil
  | _, _, n + 1, .cons r t => .cons r (Vals.take n t)
theorem Vals.drop : ∀ {xs : List V} {us : List Value} (n : Nat), Vals xs us → Vals (xs.drop n) (us.drop n)
  | _, _, 0, r => r
  | _, _, _ + 1, .nil => .nil
  | _, _, n + 1, .cons _ t => Vals.drop n t
def RelO : Option V → Option Value → Prop
  | some v, some u => RelV v u
  | none, none => True
  | _, _ => False
def KV {κ : Type} : List (κ × V) → List (κ × Value) → Prop := Paired fun (p : κ × V) (q : κ × Value) => p.1 = q.1 ∧ RelV p.2 q.2


def kV : Key → V
  | .inl i => .int i
  | .inr x => .str x


inductive HO where
  
  | lst (xs : List V)
  
  | tup (xs : List V)
  
  | dK (kvs : List (Key × V)) | dT (kvs : List (List Key × V))
  
  | set (S : Int → Bool) (n : Nat)
  
  | ins (C dx : Addr) (fs : List (Str × V))
  
  | own (x : Addr)
  
  | xd (fs : List (Str × V))
  
  | met (f x : Addr)
  
  | rng (lo hi : Int)
  
  | frz (o : Obj) (u : HO)
  
  | tbl (ps : Array Value)
  
  | ext (φ : Heap → Prop)

abbrev Hp := Addr → Option HO
def upd (H : Hp) (a : Addr) (o : HO) : Hp := fun b => if b = a then some o else H b
theorem upd_same {H : Hp} {a : Addr} {o : HO} : upd H a o a = some o := by unfold upd; rw [if_pos rfl]
theorem upd_ne {H : Hp} {a b : Addr} {o : HO} (h : b ≠ a) : upd H a o b = H b := by unfold upd; rw [if_neg h]
theorem ne_of_none {H : Hp} {a b : Addr} {o : HO} (h : H a = some o) (h' : H b = none) : a ≠ b := by
  intro e; subst e; rw [h] at h'; cases h'

section
variable (P : Program) (w : World)
def ObjOk (H : Hp) (h : Heap) (a : Addr) : HO → Prop
  | .lst xs => xs.length ≤ sizeLine ∧ ∃ (its : List Value) (n : Nat), Vals xs its ∧ h.get? a = some { cls := .type "list", data := .seq its.toArray n }
  | .tup xs => xs.length ≤ sizeLine ∧ ∃ its : List Value, Vals xs its ∧ IsTup h a its.toArray
  | .dK kvs => kvs.length ≤ sizeLine ∧ (a == sysModules) = false ∧ ∃ vs, KV kvs vs ∧ h.DictOf (mixKind P w) a vs
  | .dT kvs => kvs.length ≤ sizeLine ∧ (a == sysModules) = false ∧ ∃ xs : List (List Key × Addr × Value),
      Paired (fun (p : List Key × V) (q : List Key × Addr × Value) => p.1 = q.1 ∧ H q.2.1 = some (.tup (p.1.map kV)) ∧ RelV p.2 q.2.2) kvs xs ∧
      ∃ o es ep, h.get? a = some o ∧ o.ExactDict ∧ o.data = .dict es ep ∧ es.toList = xs.map (entryOfKey (tupleKind (mixKind P w))) ∧ (xs.map (·.1)).Nodup
  | .set S n => h.SetOf (intKind P w) a S n
  | .ins C dx fs => H dx = some (.own a) ∧ fs.length ≤ 1000 ∧ dx ≠ a ∧ h.get? a = some (PySem.W.instObj C dx) ∧
      ∃ mA, h.Ns1 dx mA ∧ (∀ f, RelO (fs.lookup f) (mA f)) ∧ PySem.Within mA (fs.map (·.1))
  | .own _ => ∃ o, h.get? a = some o
  | .xd fs => ∃ mA, h.Ns1 a mA ∧ ∀ f, RelO (fs.lookup f) (mA f)
  | .rng lo hi => ∃ t u v, h.get? a = some { cls := .type "range", data := .fields #[.int lo t, .int hi u, .int 1 v] }
  | .frz o u => h.get? a = some o ∧ ObjOk H h a u
  | .tbl ps => h.get? a = some { cls := .none, data := .fields ps }
  | .met f x => h.get? a = some (PySem.W.methodObj (.ref f) (.ref x))
  | .ext φ => φ h ∧ (∃ o, h.get? a = some o) ∧ ∀ h1 h2 : Heap, φ h1 → (∀ o, h1.get? a = some o → h2.get? a = some o) → φ h2

def HOk (H : Hp) (h : Heap) : Prop := ∀ a o, H a = some o → ObjOk P w H h a o
end

section
variable {P : Program} {w : World} {H H' : Hp} {h h' : Heap} {a : Addr} {o : HO}
theorem ObjOk.lt (x : ObjOk P w H h a o) : a < h.objs.size := by
  cases o with
  | lst xs => obtain ⟨_, _, _, _, e⟩ := x; exact Heap.lt_size e
  | tup xs => obtain ⟨_, _, _, p⟩ := x; exact p.lt
  | dK kvs => obtain ⟨_, _, _, _, o, _, _, e, _⟩ := x; exact Heap.lt_size e
  | dT kvs => obtain ⟨_, _, _, _, o, _, _, e, _⟩ := x; exact Heap.lt_size e
  | set S n => obtain ⟨o, _, _, _, e, _⟩ := x; exact Heap.lt_size e
  | ins C dx fs => obtain ⟨_, _, _, e, _⟩ := x; exact Heap.lt_size e
  | own y => obtain ⟨_, e⟩ := x; exact Heap.lt_size e
  | xd fs => obtain ⟨_, ⟨_, _, _, e, _⟩, _⟩ := x; exact Heap.lt_size e
  | rng lo hi => obtain ⟨_, _, _, e⟩ := x; exact Heap.lt_size e
  | frz ob u => obtain ⟨e, _⟩ := x; exact Heap.lt_size e
  | tbl ps => exact Heap.lt_size (show h.get? a = some _ from x)
  | met f y => exact Heap.lt_size (show h.get? a = some _ from x)
  | ext φ => obtain ⟨_, ⟨_, e⟩, _⟩ := x; exact Heap.lt_size e
theorem Paired.mapP {α β : Type} {F G : α → β → Prop} : ∀ {l₁ : List α} {l₂ : List β}, Paired F l₁ l₂ → (∀ a b, F a b → G a b) → Paired G l₁ l₂
  | _, _, .nil, _ => .nil
  | _, _, .cons r t, f => .cons (f _ _ r) (Paired.mapP t f)
theorem ObjOk.stay (x : ObjOk P w H h a o) (k : ∀ b u, (b = a ∨ H b = some (.own a)) → h.get? b = some u → h'.get? b = some u)
    (ho : ∀ b, H b = some (.own a) → H' b = some (.own a)) (ht : ∀ b xs, H b = some (.tup xs) → H' b = some (.tup xs)) : ObjOk P w H' h' a o := by
  induction o with
  | lst xs => obtain ⟨z, its, n, r, e⟩ := x; exact ⟨z, its, n, r, k _ _ (.inl rfl) e⟩
  | tup xs => obtain ⟨z, its, r, ob, e, c⟩ := x; exact ⟨z, its, r, ob, k _ _ (.inl rfl) e, c⟩
  | dK kvs => obtain ⟨z, y, vs, r, ob, es, ep, e, c⟩ := x; exact ⟨z, y, vs, r, ob, es, ep, k _ _ (.inl rfl) e, c⟩
  | dT kvs =>
    obtain ⟨z, y, xs, r, ob, es, ep, e, c⟩ := x
    exact ⟨z, y, xs, Paired.mapP r fun p q z => ⟨z.1, ht _ _ z.2.1, z.2.2⟩, ob, es, ep, k _ _ (.inl rfl) e, c⟩
  | set S n => obtain ⟨ob, es, ep, t, e, c⟩ := x; exact ⟨ob, es, ep, t, k _ _ (.inl rfl) e, c⟩
  | ins C dx fs =>
    obtain ⟨d, z, ne, e, mA, ⟨od, es, ep, e2, c⟩, r⟩ := x
    exact ⟨ho _ d, z, ne, k _ _ (.inl rfl) e, mA, ⟨od, es, ep, k _ _ (.inr d) e2, c⟩, r⟩
  | own y => obtain ⟨ob, e⟩ := x; exact ⟨ob, k _ _ (.inl rfl) e⟩
  | xd fs => obtain ⟨mA, ⟨od, es, ep, e, c⟩, r⟩ := x; exact ⟨mA, ⟨od, es, ep, k _ _ (.inl rfl) e, c⟩, r⟩
  | rng lo hi => obtain ⟨t, u, v, e⟩ := x; exact ⟨t, u, v, k _ _ (.inl rfl) e⟩
  | frz ob u ih => obtain ⟨e, q⟩ := x; exact ⟨k _ _ (.inl rfl) e, ih q⟩
  | tbl ps =>
    have e : h.get? a = some { cls := .none, data := .fields ps } := x
    show h'.get? a = some { cls := .none, data := .fields ps }
    exact k a _ (.inl rfl) e
  | met f y =>
    have e : h.get? a = some (PySem.W.methodObj (.ref f) (.ref y)) := x
    show h'.get? a = some (PySem.W.methodObj (.ref f) (.ref y))
    exact k a _ (.inl rfl) e
  | ext φ => obtain ⟨p, ⟨o, e⟩, st⟩ := x; exact ⟨st _ _ p fun o q => k _ _ (.inl rfl) q, ⟨o, k _ _ (.inl rfl) e⟩, st⟩
theorem HOk.lt (x : HOk P w H h) (e : H a = some o) : a < h.objs.size := (x a o e).lt
theorem HOk.fresh (x : HOk P w H h) (e : h.objs.size ≤ a) : H a = none := by
  cases q : H a with
  | none => rfl
  | some u => exact absurd (Nat.lt_of_lt_of_le (x.lt q) e) (Nat.lt_irrefl _)

theorem HOk.kept (x : HOk P w H h) (k : ∀ b u, h.get? b = some u → h'.get? b = some u) : HOk P w H h' := fun a o e =>
  (x a o e).stay (fun b u _ q => k b u q) (fun _ q => q) fun _ _ q => q

theorem HOk.laid (x : HOk P w H h) (k : ∀ b u, h.get? b = some u → h'.get? b = some u) (hp : h.objs.size ≤ a) (new : ObjOk P w (upd H a o) h' a o) : HOk P w (upd H a o) h' := fun b u e => by
  have hn := x.fresh hp
  by_cases hb : b = a
  · subst hb; rw [upd_same] at e; cases e; exact new
  · rw [upd_ne hb] at e
    exact (x b u e).stay (fun c v _ q => k c v q) (fun c q => by rw [upd_ne (ne_of_none q hn)]; exact q) fun c xs q => by rw [upd_ne (ne_of_none q hn)]; exact q
end


def Rd (H : Hp) (a : Addr) (u : HO) : Prop := H a = some u ∨ ∃ o, H a = some (.frz o u)
theorem Rd.of {H : Hp} {a : Addr} {u : HO} (h : H a = some u) : Rd H a u := .inl h
theorem Rd.ok {P : Program} {w : World} {H : Hp} {h : Heap} {a : Addr} {u : HO} (r : Rd H a u) (x : HOk P w H h) : ObjOk P w H h a u := by
  rcases r with r | ⟨o, r⟩
  · exact x a u r
  · obtain ⟨_, q⟩ := x a _ r
    exact q

def Mut : Option HO → Prop
  | some (.lst _) => True
  | some (.dK _) => True
  | some (.dT _) => True
  | some (.set _ _) => True
  | some (.ins _ _ _) => True
  | some (.ext _) => True
  | _ => False
section
variable {P : Program} {w : World} {H : Hp} {h h' : Heap} {x e : Addr} {o' : HO}

theorem HOk.write (ok : HOk P w H h) (mu : Mut (H x)) (he : e = x ∨ H e = some (.own x)) (k : ∀ b u, b ≠ e → h.get? b = some u → h'.get? b = some u) (heo : ∃ u, h'.get? e = some u)
    (new : ObjOk P w (upd H x o') h' x o') : HOk P w (upd H x o') h' := fun b u q => by
  have nown : ∀ c y, H c = some (.own y) → c ≠ x := fun c y r z => by subst z; rw [r] at mu; exact mu
  have ntup : ∀ c xs, H c = some (.tup xs) → c ≠ x := fun c xs r z => by subst z; rw [r] at mu; exact mu
  by_cases hb : b = x
  · subst hb; rw [upd_same] at q; cases q; exact new
  · rw [upd_ne hb] at q
    by_cases hbe : b = e
    · have q' : H b = some (.own x) := by
        rcases he with z | z
        · exact absurd (hbe.trans z) hb
        · rw [hbe]; exact z
      rw [q] at q'; cases q'
      obtain ⟨v, hv⟩ := heo
      exact ⟨v, by rw [hbe]; exact hv⟩
    · refine (ok b u q).stay (fun c v hc r => k c v ?_ r) (fun c r => by rw [upd_ne (nown c b r)]; exact r) fun c xs r => by rw [upd_ne (ntup c xs r)]; exact r
      rcases hc with rfl | hc
      · exact hbe
      · rintro rfl
        rcases he with z | z
        · exact nown c b hc z
        · rw [hc] at z; cases z; exact hb rfl
end


structure Un (fs ex : List Addr) (H H' : Hp) (h h' : Heap) : Prop where
  keep : ∀ b o, h.get? b = some o → H b = none → b ∉ fs → b ∉ ex → h'.get? b = some o
  slot : ∀ b o, h.get? b = some o → H b = none → b ∈ fs → b ∉ ex → ∃ sl, h'.get? b = some { o with slots := sl }
  free : ∀ b o, h.get? b = some o → H b = none → b ∉ ex → H' b = none
  there : ∀ b o, h.get? b = some o → b ∉ ex → ∃ o', h'.get? b = some o'
  tups : ∀ b xs, H b = some (.tup xs) → H' b = some (.tup xs)
  frzs : ∀ b o u, H b = some (.frz o u) → H' b = some (.frz o u)
  tbls : ∀ b ps, H b = some (.tbl ps) → ∃ more, H' b = some (.tbl (ps ++ more))
section
variable {fs fs' ex ex' : List Addr} {H H1 H2 : Hp} {h h1 h2 h' : Heap} {a x e : Addr} {o : HO}
theorem Un.any (u : Un fs ex H H1 h h1) {b : Addr} {ob : Obj} (q : h.get? b = some ob) (n : H b = none) (hx : b ∉ ex) : ∃ sl, h1.get? b = some { ob with slots := sl } := by
  by_cases hb : b ∈ fs
  · exact u.slot b ob q n hb hx
  · exact ⟨ob.slots, u.keep b ob q n hb hx⟩
theorem Un.trans (a : Un fs ex H H1 h h1) (b : Un fs ex H1 H2 h1 h2) : Un fs ex H H2 h h2 where
  keep := fun c ob q n hc hx => b.keep c ob (a.keep c ob q n hc hx) (a.free c ob q n hx) hc hx
  slot := fun c ob q n hc hx => by
    obtain ⟨sl, e1⟩ := a.slot c ob q n hc hx
    obtain ⟨sl', e2⟩ := b.slot c _ e1 (a.free c ob q n hx) hc hx
    exact ⟨sl', e2⟩
  free := fun c ob q n hx => by
    obtain ⟨o', e1⟩ := a.there c ob q hx
    exact b.free c o' e1 (a.free c ob q n hx) hx
  there := fun c ob q hx => by
    obtain ⟨o', e1⟩ := a.there c ob q hx
    exact b.there c o' e1 hx
  tups := fun c xs q => b.tups c xs (a.tups c xs q)
  frzs := fun c ob xs q => b.frzs c ob xs (a.frzs c ob xs q)
  tbls := fun c ps q => by
    obtain ⟨m1, e1⟩ := a.tbls c ps q
    obtain ⟨m2, e2⟩ := b.tbls c _ e1
    exact ⟨m1 ++ m2, by rw [e2, Array.append_assoc]⟩
theorem Un.kept (k : ∀ b u, h.get? b = some u → h'.get? b = some u) : Un fs ex H H h h' :=
  ⟨fun b ob q _ _ _ => k b ob q, fun b ob q _ _ _ => ⟨ob.slots, k b ob q⟩, fun _ _ _ n _ => n, fun b ob q _ => ⟨ob, k b ob q⟩, fun _ _ q => q, fun _ _ _ q => q, fun _ ps q => ⟨#[], by rw [q]; simp⟩⟩
theorem Un.refl : Un fs ex H H h h := Un.kept fun _ _ q => q
theorem Un.laid (k : ∀ b u, h.get? b = some u → h'.get? b = some u) (hp : h.objs.size ≤ a) (hn : H a = none) : Un fs ex H (upd H a o) h h' where
  keep := fun b u q _ _ _ => k b u q
  slot := fun b u q _ _ _ => ⟨u.slots, k b u q⟩
  free := fun b u q n _ => by rw [upd_ne (Nat.ne_of_lt (Nat.lt_of_lt_of_le (Heap.lt_size q) hp))]; exact n
  there := fun b u q _ => ⟨u, k b u q⟩
  tups := fun b xs q => by rw [upd_ne (ne_of_none q hn)]; exact q
  frzs := fun b u xs q => by rw [upd_ne (ne_of_none q hn)]; exact q
  tbls := fun b ps q => ⟨#[], by rw [upd_ne (ne_of_none q hn), q]; simp⟩
theorem Un.write (mu : Mut (H x)) (he : e = x ∨ H e = some (.own x)) (k : ∀ b u, b ≠ e → h.get? b = some u → h'.get? b = some u) (heo : ∃ u, h'.get? e = some u) : Un fs ex H (upd H x o) h h' := by
  have hx : ∀ b, H b = none → b ≠ x := fun b n z => by subst z; rw [n] at mu; exact mu
  have hb : ∀ b, H b = none → b ≠ e := fun b n z => by
    subst z
    rcases he with r | r
    · exact hx b n r
    · rw [n] at r; cases r
  have hm : ∀ b u, H b = some u → ¬ Mut (some u) → b ≠ x := fun b u q nm z => by subst z; rw [q] at mu; exact nm mu
  refine ⟨fun b u q n _ _ => k b u (hb b n) q, fun b u q n _ _ => ⟨u.slots, k b u (hb b n) q⟩, fun b u q n _ => by rw [upd_ne (hx b n)]; exact n, fun b u q _ => ?_,
    fun b xs q => by rw [upd_ne (hm b _ q fun z => z)]; exact q, fun b u xs q => by rw [upd_ne (hm b _ q fun z => z)]; exact q, fun b ps q => ⟨#[], by rw [upd_ne (hm b _ q fun z => z), q]; simp⟩⟩
  by_cases hbe : b = e
  · subst hbe; exact heo
  · exact ⟨u, k b u hbe q⟩
theorem Un.mono (u : Un fs ex H H1 h h1) (hs : ∀ b ∈ fs, b ∈ fs') (hx : ∀ b ∈ ex, b ∈ ex') : Un fs' ex' H H1 h h1 :=
  ⟨fun b ob q n hb he => u.keep b ob q n (fun z => hb (hs b z)) fun z => he (hx b z), fun _ _ q n _ he => u.any q n fun z => he (hx _ z), fun b ob q n he => u.free b ob q n fun z => he (hx b z), fun b ob q he => u.there b ob q fun z => he (hx b z), u.tups, u.frzs, u.tbls⟩
end


def trk (h : Heap) (H : Hp) : List Addr := (List.range h.objs.size).filter fun a => (H a).isSome
def hidT (h : Heap) (H : Hp) : Heap := PySem.W.hideAll h (trk h H)
theorem hidT_size (h : Heap) (H : Hp) : (hidT h H).objs.size = h.objs.size := PySem.W.hideAll_size _ _
theorem hidT_get {h : Heap} {H : Hp} {b : Addr} {o : Obj} (e : h.get? b = some o) (n : H b = none) : (hidT h H).get? b = some o :=
  PySem.W.hideAll_get _ e fun hm => by
    have q : (H b).isSome = true := (List.mem_filter.mp hm).2
    rw [n] at q; simp at q
theorem of_hidT {h : Heap} {H : Hp} {b : Addr} {o : Obj} (e : (hidT h H).get? b = some o) : h.get? b = some o ∧ H b = none := by
  have e' : h.get? b = some o := PySem.W.of_hideAll (trk h H) e
  refine ⟨e', ?_⟩
  cases q : H b with
  | none => rfl
  | some x =>
    have hm : b ∈ trk h H := List.mem_filter.mpr ⟨List.mem_range.mpr (Heap.lt_size e'), by simp [q]⟩
    have z : (hidT h H).get? b = none := PySem.W.hideAll_none (trk h H) hm
    rw [z] at e; cases e


def allNews (g h : Heap) (L : Addr) : List (Addr × Obj) := (List.range h.objs.size).filterMap fun a => if a = L ∨ (g.get? a).isSome = true then none else (h.get? a).map fun o => (a, o)
def rest (g h : Heap) (L d : Addr) : List (Addr × Obj) := (allNews g h L).filter fun p => decide (p.1 ≠ d)
end L2

namespace L2
open PySem PySem.Spec PyProof.Rows


structure Mod (K : PySem.W.Frag) (mg : Str → Option Value) (base : Heap) : Prop where
  kin : K.In base
  glob : base.Ns mainGlobals mg
  blt : ∃ mb, base.Ns builtinsNs mb ∧ ∀ x : Str, x ≠ "__name__" → mb x = bootBuiltins x
  nolimit : base.NoLimit


structure Cx where
  prog : Program
  w : World
  K : PySem.W.Frag
  mg : Str → Option Value
  base : Heap
  A : Around
  N : List Str
  s₀ : Shared
  H₀ : Hp
  env : Env
  outer : List Env
  stack : List Env
  ex : List Addr
  fn : Str → Bool
  calm : Bool
  pn : List (Addr × Obj)
  xe : Value → Shared → Prop

def frs (l : List Env) : List Addr := l.filterMap (·.frame)
abbrev Cx.fs (X : Cx) : List Addr := frs X.outer

def Vis (sc : Scope) (x : Str) : Prop := sc.names.lookup x = some .local ∨ sc.names.lookup x = some .cell ∨ sc.names.lookup x = some .free
def Loc (sc : Scope) (x : Str) : Prop := sc.names.lookup x = some .local ∨ sc.names.lookup x = some .cell
def Look (env : Env) (h : Heap) (m : Str → Option Value) (x : Str) (u : Value) : Prop :=
  (env.kindOf x = some .local ∧ m x = some u) ∨ ((env.kindOf x = some .cell ∨ env.kindOf x = some .free) ∧ ∃ c, env.cells.lookup x = some c ∧ h.IsCell c (some u))

structure Cx.Ok (X : Cx) : Prop where
  mod : Mod X.K X.mg X.base
  kind : X.env.scope.kind = .function
  glob : X.env.globals = mainGlobals
  blt : X.env.builtins = builtinsNs
  above : X.s₀.heap.objs.size ≤ X.env.locals
  inj : ∀ x y c, X.env.cells.lookup x = some c → X.env.cells.lookup y = some c → x = y
  has : ∀ x, (X.env.kindOf x = some .cell ∨ X.env.kindOf x = some .free) → ∃ c, X.env.cells.lookup x = some c
  cab : ∀ x c, X.fn x = true → X.env.cells.lookup x = some c → X.s₀.heap.objs.size ≤ c
  hd : X.calm = true → X.A.handled = none
  frames : X.A.frames = some X.stack
  stk : X.stack = X.outer ∨ (X.stack = X.env :: X.outer ∧ X.env.frame = some X.env.locals)
  exf : ∀ b ∈ X.ex, b ≠ X.env.locals ∧ ∀ x c, X.env.cells.lookup x = some c → c ≠ b
  bs : ∀ b o, X.base.get? b = some o → X.s₀.heap.get? b = some o ∧ X.H₀ b = none
  bsz : X.base.objs.size ≤ X.s₀.heap.objs.size
  noex : ∀ b o, X.base.get? b = some o → b ∉ X.ex
  exfs : ∀ b ∈ X.ex, b ∉ X.fs
  funs : X.s₀.heap.FunFrames X.base X.outer
  frf : ∀ b ∈ X.fs, X.H₀ b = none

structure Inv (X : Cx) (pins : List (Addr × Obj)) (σ : List (Option V)) (H : Hp) (s : Shared) : Prop where
  ok : X.Ok
  os : s.os = X.s₀.os
  bare : AllBare s.gens
  base : Un X.fs X.ex X.H₀ H X.s₀.heap s.heap
  loc : ∃ m, s.heap.Ns X.env.locals m ∧ ∀ (i : Nat) (x : Str) (v : V), X.N[i]? = some x → σ[i]? = some (some v) → Vis X.env.scope x → ∃ u, RelV v u ∧ Look X.env s.heap m x u
  cell : ∀ x c, X.env.cells.lookup x = some c → ∃ v, s.heap.IsCell c v
  free : H X.env.locals = none
  freeC : ∀ x c, X.env.cells.lookup x = some c → H c = none
  pin : ∀ p ∈ X.pn ++ pins, s.heap.get? p.1 = some p.2 ∧ H p.1 = none ∧ p.1 ≠ X.env.locals ∧ p.1 ∉ X.fs ∧ ∀ v, p.2.data ≠ .cell v
  hok : HOk X.prog X.w H s.heap
  len : σ.length = X.N.length

section
variable {X : Cx} {pins : List (Addr × Obj)} {σ : List (Option V)} {H H' : Hp} {s : Shared} {h' : Heap}

theorem Cx.Ok.nofr (ok : X.Ok) {b : Addr} {o : Obj} (e : X.base.get? b = some o) : b ∉ X.fs := fun hb => by
  have := (ok.funs.mem hb).1
  rw [e] at this; cases this
theorem Inv.bs (I : Inv X pins σ H s) : ∀ b o, X.base.get? b = some o → s.heap.get? b = some o ∧ H b = none := fun b o e =>
  ⟨I.base.keep b o (I.ok.bs b o e).1 (I.ok.bs b o e).2 (I.ok.nofr e) (I.ok.noex b o e), I.base.free b o (I.ok.bs b o e).1 (I.ok.bs b o e).2 (I.ok.noex b o e)⟩
theorem Inv.bk (I : Inv X pins σ H s) : ∀ b o, X.base.get? b = some o → s.heap.get? b = some o := fun b o e => (I.bs b o e).1
theorem Inv.mod (I : Inv X pins σ H s) : Mod X.K X.mg X.base := I.ok.mod
theorem Inv.kIn (I : Inv X pins σ H s) : X.K.In s.heap := I.ok.mod.kin.keeps I.bk
theorem Inv.nolimit (I : Inv X pins σ H s) : s.heap.NoLimit := I.ok.mod.nolimit.keeps I.bk

theorem Inv.lt (I : Inv X pins σ H s) : X.env.locals < s.heap.objs.size := let ⟨_, hn, _⟩ := I.loc; hn.lt
theorem Inv.sz (I : Inv X pins σ H s) : X.s₀.heap.objs.size ≤ s.heap.objs.size := Nat.le_trans I.ok.above (Nat.le_of_lt I.lt)
theorem Inv.nofs (I : Inv X pins σ H s) {a : Addr} (h : s.heap.objs.size ≤ a) : a ∉ X.fs := fun hb => by
  obtain ⟨_, o, ho, _⟩ := I.ok.funs.mem hb
  exact absurd (Nat.lt_of_lt_of_le (Heap.lt_size ho) (Nat.le_trans I.sz h)) (Nat.lt_irrefl _)
theorem Inv.cne (I : Inv X pins σ H s) : ∀ x c, X.env.cells.lookup x = some c → c ≠ X.env.locals := fun x c e z => by
  obtain ⟨v, o, ho, hd⟩ := I.cell x c e
  obtain ⟨m, ⟨o', es, ep, ho', hd', _⟩, _⟩ := I.loc
  rw [z, ho'] at ho; cases ho; rw [hd'] at hd; cases hd
theorem Inv.funs (I : Inv X pins σ H s) : s.heap.FunFrames X.base X.outer := by
  have all : ∀ (l : List Env), (∀ b ∈ frs l, b ∈ X.fs) → X.s₀.heap.FunFrames X.base l → s.heap.FunFrames X.base l := by
    intro l
    induction l with
    | nil => intro _ _; trivial
    | cons env r ih =>
      intro hs hl
      obtain ⟨hk, ⟨L, o, hf, hn, ho, hd⟩, hr⟩ := hl
      have hL : L ∈ X.fs := hs L (by unfold frs; rw [List.filterMap_cons, hf]; exact List.mem_cons_self)
      obtain ⟨sl, e⟩ := I.base.slot L o ho (I.ok.frf L hL) hL fun z => I.ok.exfs L z hL
      exact ⟨hk, ⟨L, _, hf, hn, e, hd⟩, ih (fun b hb => hs b (by unfold frs; rw [List.filterMap_cons, hf]; exact List.mem_cons_of_mem _ hb)) hr⟩
  exact all X.outer (fun _ hb => hb) I.ok.funs


theorem Inv.stack (I : Inv X pins σ H s) : s.heap.FunFrames X.base X.stack := by
  rcases I.ok.stk with e | ⟨e, hf⟩
  · rw [e]; exact I.funs
  · rw [e]
    obtain ⟨m, hn, _⟩ := I.loc
    refine .cons (by rw [I.ok.kind]; decide) hf hn ?_ I.funs
    exact Heap.get?_none_of_le (Nat.le_trans I.ok.bsz I.ok.above)
theorem Inv.stkSub (I : Inv X pins σ H s) : ∀ b ∈ frs X.stack, b ∈ X.env.locals :: X.fs := fun b hb => by
  rcases I.ok.stk with e | ⟨e, hf⟩
  · rw [e] at hb; exact List.mem_cons_of_mem _ hb
  · rw [e] at hb
    unfold frs at hb
    rw [List.filterMap_cons, hf] at hb
    exact hb
theorem Inv.stkFree (I : Inv X pins σ H s) : ∀ b ∈ frs X.stack, H b = none := fun b hb => by
  rcases List.mem_cons.mp (I.stkSub b hb) with e | hb
  · rw [e]; exact I.free
  · obtain ⟨_, o, ho, _⟩ := I.ok.funs.mem hb
    exact I.base.free b o ho (I.ok.frf b hb) fun z => I.ok.exfs b z hb


theorem Inv.step {g' : Array GenState} {t' : Nat} {d' : Drawn} {ch : List Addr} (I : Inv X pins σ H s)
    (hch : ∀ b ∈ ch, (b ∈ X.ex ∨ X.s₀.heap.objs.size ≤ b) ∧ b ≠ X.env.locals ∧ (∀ x c, X.env.cells.lookup x = some c → c ≠ b) ∧ ∀ p ∈ X.pn ++ pins, p.1 ≠ b)
    (keep : ∀ b o, b ≠ X.env.locals → b ∉ X.fs → b ∉ ch → s.heap.get? b = some o → H b = none → h'.get? b = some o)
    (slot : ∀ b o, b ≠ X.env.locals → b ∈ X.fs → b ∉ ch → s.heap.get? b = some o → H b = none → ∃ sl, h'.get? b = some { o with slots := sl }) (free : ∀ b o, b ∉ ch → s.heap.get? b = some o → H b = none → H' b = none)
    (there : ∀ b o, b ∉ ch → s.heap.get? b = some o → ∃ o', h'.get? b = some o')
    (tups : ∀ b xs, H b = some (.tup xs) → H' b = some (.tup xs)) (frzs : ∀ b o u, H b = some (.frz o u) → H' b = some (.frz o u)) (tbls : ∀ b ps, H b = some (.tbl ps) → ∃ more, H' b = some (.tbl (ps ++ more)))
    (ns : ∀ m, s.heap.Ns X.env.locals m → h'.Ns X.env.locals m) (hok : HOk X.prog X.w H' h') (hg : AllBare g') :
    Inv X pins σ H' { s with heap := h', gens := g', drawn := d', toks := t' } := by
  have neL : ∀ b o, X.s₀.heap.get? b = some o → b ≠ X.env.locals := fun b o e => Nat.ne_of_lt (Nat.lt_of_lt_of_le (Heap.lt_size e) I.ok.above)
  have neC : ∀ b o, X.s₀.heap.get? b = some o → b ∉ X.ex → b ∉ ch := fun b o e hx hb => by
    rcases (hch b hb).1 with z | z
    · exact hx z
    · exact absurd (Nat.lt_of_lt_of_le (Heap.lt_size e) z) (Nat.lt_irrefl _)
  have cellK : ∀ x c, X.env.cells.lookup x = some c → ∀ v, s.heap.IsCell c v → h'.IsCell c v := fun x c e v ⟨o, ho, hd⟩ => by
    have nch : c ∉ ch := fun z => (hch c z).2.2.1 x c e rfl
    by_cases hc : c ∈ X.fs
    · obtain ⟨sl, q⟩ := slot c o (I.cne x c e) hc nch ho (I.freeC x c e)
      exact ⟨_, q, hd⟩
    · exact ⟨o, keep c o (I.cne x c e) hc nch ho (I.freeC x c e), hd⟩
  refine ⟨I.ok, I.os, hg, ⟨fun b o e n hb hx => ?_, fun b o e n hb hx => ?_, fun b o e n hx => ?_, fun b o e hx => ?_, fun b xs e => tups b xs (I.base.tups b xs e), fun b o xs e => frzs b o xs (I.base.frzs b o xs e), fun b ps e => ?_⟩, ?_, fun x c e => ?_, ?_, fun x c e => ?_, fun p hp => ?_, hok, I.len⟩
  · exact keep b o (neL b o e) hb (neC b o e hx) (I.base.keep b o e n hb hx) (I.base.free b o e n hx)
  · obtain ⟨sl, e1⟩ := I.base.slot b o e n hb hx
    obtain ⟨sl', e2⟩ := slot b _ (neL b o e) hb (neC b o e hx) e1 (I.base.free b o e n hx)
    exact ⟨sl', e2⟩
  · obtain ⟨o', e1⟩ := I.base.there b o e hx
    exact free b o' (neC b o e hx) e1 (I.base.free b o e n hx)
  · obtain ⟨o', e1⟩ := I.base.there b o e hx
    exact there b o' (neC b o e hx) e1
  · obtain ⟨m1, e1⟩ := I.base.tbls b ps e
    obtain ⟨m2, e2⟩ := tbls b _ e1
    exact ⟨m1 ++ m2, by rw [e2, Array.append_assoc]⟩
  · obtain ⟨m, hn, hl⟩ := I.loc
    refine ⟨m, ns m hn, fun i x v e1 e2 e3 => ?_⟩
    obtain ⟨u, r, l⟩ := hl i x v e1 e2 e3
    refine ⟨u, r, ?_⟩
    rcases l with l | ⟨k, c, e, z⟩
    · exact .inl l
    · exact .inr ⟨k, c, e, cellK x c e _ z⟩
  · obtain ⟨v, z⟩ := I.cell x c e
    exact ⟨v, cellK x c e v z⟩
  · obtain ⟨m, ⟨o, _, _, ho, _⟩, _⟩ := I.loc
    exact free _ o (fun z => (hch _ z).2.1 rfl) ho I.free
  · obtain ⟨v, o, ho, hd⟩ := I.cell x c e
    exact free c o (fun z => (hch c z).2.2.1 x c e rfl) ho (I.freeC x c e)
  · obtain ⟨e, n, ne, nf, d⟩ := I.pin p hp
    have nch : p.1 ∉ ch := fun z => (hch p.1 z).2.2.2 p hp rfl
    exact ⟨keep p.1 p.2 ne nf nch e n, free p.1 p.2 nch e n, ne, nf, d⟩

theorem Inv.un {t' : Nat} (I : Inv X pins σ H s) (u : Un X.fs [] H H' s.heap h') (hok : HOk X.prog X.w H' h') : Inv X pins σ H' { s with heap := h', toks := t' } := by
  obtain ⟨m, ⟨o, es, ep, ho, r⟩, _⟩ := id I.loc
  obtain ⟨sl, hL⟩ := u.any ho I.free (by simp)
  exact I.step (g' := s.gens) (d' := s.drawn) (ch := []) (fun _ z => nomatch z) (fun b o _ hb _ e n => u.keep b o e n hb (by simp)) (fun b o _ hb _ e n => u.slot b o e n hb (by simp)) (fun b o _ e n => u.free b o e n (by simp)) (fun b o _ e => u.there b o e (by simp)) u.tups u.frzs u.tbls (fun m' hm => by
    obtain ⟨o', es', ep', ho', r'⟩ := hm
    rw [ho] at ho'; cases ho'
    exact ⟨_, es', ep', hL, r'⟩) hok I.bare

theorem Inv.call {g' : Array GenState} {t' : Nat} {d' : Drawn} {ch : List Addr} (I : Inv X pins σ H s) (u : Un (frs X.stack) ch H H' s.heap h') (hok : HOk X.prog X.w H' h') (hg : AllBare g')
    (hch : ∀ b ∈ ch, (b ∈ X.ex ∨ X.s₀.heap.objs.size ≤ b) ∧ b ≠ X.env.locals ∧ (∀ x c, X.env.cells.lookup x = some c → c ≠ b) ∧ ∀ p ∈ X.pn ++ pins, p.1 ≠ b) :
    Inv X pins σ H' { s with heap := h', gens := g', drawn := d', toks := t' } := by
  obtain ⟨m, ⟨o, es, ep, ho, r⟩, _⟩ := id I.loc
  obtain ⟨sl, hL⟩ := u.any ho I.free fun z => (hch _ z).2.1 rfl
  exact I.step (ch := ch) hch (fun b o hL hb hc e n => u.keep b o e n (fun z => (List.mem_cons.mp (I.stkSub b z)).elim hL hb) hc) (fun b o _ _ hc e n => u.any e n hc) (fun b o hc e n => u.free b o e n hc) (fun b o hc e => u.there b o e hc) u.tups u.frzs u.tbls (fun m' hm => by
    obtain ⟨o', es', ep', ho', r'⟩ := hm
    rw [ho] at ho'; cases ho'
    exact ⟨_, es', ep', hL, r'⟩) hok hg

theorem Inv.turned {t' : Nat} {it : Addr} (I : Inv X pins σ H s) (k : ∀ b o, b ≠ it → s.heap.get? b = some o → h'.get? b = some o) (hn : H it = none) (hL : it ≠ X.env.locals)
    (h1 : it ∈ X.ex ∨ X.s₀.heap.objs.size ≤ it) (h2 : ∀ x c, X.env.cells.lookup x = some c → c ≠ it) (h3 : ∀ p ∈ X.pn ++ pins, p.1 ≠ it) : Inv X pins σ H { s with heap := h', toks := t' } := by
  have nit : ∀ b u, H b = some u → b ≠ it := fun b u e z => by rw [z, hn] at e; cases e
  refine I.step (g' := s.gens) (d' := s.drawn) (ch := [it]) (fun b hb => ?_) (fun b o _ _ hc e _ => k b o (fun z => hc (by simp [z])) e) (fun b o _ _ hc e _ => ⟨o.slots, k b o (fun z => hc (by simp [z])) e⟩) (fun _ _ _ _ n => n)
    (fun b o hc e => ⟨o, k b o (fun z => hc (by simp [z])) e⟩) (fun _ _ e => e) (fun _ _ _ e => e) (fun b ps e => ⟨#[], by rw [e]; simp⟩) (fun m hm => ?_) (fun b u e => ?_) I.bare
  · have e : b = it := by simpa using hb
    subst e
    exact ⟨h1, hL, h2, h3⟩
  · obtain ⟨o, es, ep, ho, r⟩ := hm
    exact ⟨o, es, ep, k _ o (Ne.symm hL) ho, r⟩
  · refine (I.hok b u e).stay (fun c v hc q => k c v ?_ q) (fun _ q => q) fun _ _ q => q
    rcases hc with z | z
    · rw [z]; exact nit b u e
    · exact nit c _ z
theorem Inv.tok (I : Inv X pins σ H s) (t : Nat) : Inv X pins σ H { s with toks := t } := I.un (h' := s.heap) (t' := t) Un.refl I.hok

theorem Inv.kept {t' : Nat} (I : Inv X pins σ H s) (k : ∀ b u, s.heap.get? b = some u → h'.get? b = some u) : Inv X pins σ H { s with heap := h', toks := t' } := I.un (Un.kept k) (I.hok.kept k)

theorem Inv.laid {a : Addr} {o : HO} {t' : Nat} (I : Inv X pins σ H s) (k : ∀ b u, s.heap.get? b = some u → h'.get? b = some u) (hp : s.heap.objs.size ≤ a) (new : ObjOk X.prog X.w (upd H a o) h' a o) :
    Inv X pins σ (upd H a o) { s with heap := h', toks := t' } := I.un (Un.laid k hp (I.hok.fresh hp)) (I.hok.laid k hp new)

theorem Inv.write {x e : Addr} {o : HO} {t' : Nat} (I : Inv X pins σ H s) (mu : Mut (H x)) (he : e = x ∨ H e = some (.own x)) (k : ∀ b u, b ≠ e → s.heap.get? b = some u → h'.get? b = some u) (heo : ∃ u, h'.get? e = some u)
    (new : ObjOk X.prog X.w (upd H x o) h' x o) : Inv X pins σ (upd H x o) { s with heap := h', toks := t' } := I.un (Un.write mu he k heo) (I.hok.write mu he k heo new)

theorem Inv.weak {σ' : List (Option V)} (I : Inv X pins σ H s) (hl : σ'.length = σ.length) (w : ∀ (i : Nat) v, σ'[i]? = some (some v) → σ[i]? = some (some v)) : Inv X pins σ' H s :=
  ⟨I.ok, I.os, I.bare, I.base, let ⟨m, hn, hl'⟩ := I.loc; ⟨m, hn, fun i x v e1 e2 e3 => hl' i x v e1 (w i v e2) e3⟩, I.cell, I.free, I.freeC, I.pin, I.hok, hl.trans I.len⟩
theorem Inv.pins_of {pins' : List (Addr × Obj)} (I : Inv X pins σ H s) (h : ∀ p ∈ pins', s.heap.get? p.1 = some p.2 ∧ H p.1 = none ∧ p.1 ≠ X.env.locals ∧ p.1 ∉ X.fs ∧ ∀ v, p.2.data ≠ .cell v) : Inv X pins' σ H s :=
  ⟨I.ok, I.os, I.bare, I.base, I.loc, I.cell, I.free, I.freeC, fun p hp => (List.mem_append.mp hp).elim (fun z => I.pin p (List.mem_append_left _ z)) (h p), I.hok, I.len⟩

theorem nodup_ix {N : List Str} (hN : N.Nodup) {i j : Nat} {x : Str} (a : N[i]? = some x) (b : N[j]? = some x) : i = j := by
  obtain ⟨h1, e1⟩ := List.getElem?_eq_some_iff.mp a
  obtain ⟨h2, e2⟩ := List.getElem?_eq_some_iff.mp b
  exact (List.getElem_inj hN).mp (e1.trans e2.symm)


theorem store_ok2 {M : Model} {A : Around} {E : Value → Shared → Prop} {i : Nat} {x : Str} {v : V} {u : Value} {Q : Unit → Shared → Prop} (I : Inv X pins σ H s) (hN : X.N.Nodup) (hi : X.N[i]? = some x) (hx : Loc X.env.scope x) (r : RelV v u)
    (h : ∀ s', Inv X pins (σ.set i (some v)) H s' → (∃ a, Heap.SameBut a s.heap s'.heap ∧ (a = X.env.locals ∨ X.env.cells.lookup x = some a)) → Q () s') (hf : X.fn x = true ∨ X.env.scope.names.lookup x = some .local := by first | exact .inl rfl | exact .inr rfl | assumption) : wpAny M A (storeName X.env x u) Q E s := by
  obtain ⟨m, hn, hl⟩ := id I.loc
  have hcls : (X.env.scope.kind == .class || (X.env.scope.kind == .module && X.env.locals != X.env.globals)) = false := by rw [I.ok.kind]; rfl
  have hiσ : i < σ.length := by rw [I.len]; exact (List.getElem?_eq_some_iff.mp hi).1
  have cne := I.cne
  have tracked : ∀ {a : Addr} {h' : Heap}, (∃ o, s.heap.get? a = some o ∧ H a = none) → Heap.SameBut a s.heap h' → HOk X.prog X.w H h' := fun {a h'} ha hs b ob e => by
    obtain ⟨_, _, hfree⟩ := ha
    refine (I.hok b ob e).stay (fun c w' hc q => (hs.2 c ?_).trans q) (fun _ q => q) fun _ _ q => q
    rintro rfl
    rcases hc with rfl | hc
    · rw [hfree] at e; cases e
    · rw [hfree] at hc; cases hc
  rcases hx with hk | hk
  · refine wpAny_storeName_local hk hn (fun h' hn' hs => ?_) hcls
    obtain ⟨oL, _, _, hoL, _⟩ := id hn
    refine h _ ⟨I.ok, I.os, I.bare, ⟨fun b o e n hb hx => ?_, fun b o e n hb hx => ?_, I.base.free, fun b o e hx => ?_, I.base.tups, I.base.frzs, I.base.tbls⟩, ⟨_, hn', fun j y v' e1 e2 e3 => ?_⟩, fun y c e => ?_, I.free, I.freeC, fun p hp => ?_, tracked ⟨oL, hoL, I.free⟩ hs, by simpa using I.len⟩ ⟨_, hs, .inl rfl⟩
    · exact (hs.2 b (Nat.ne_of_lt (Nat.lt_of_lt_of_le (Heap.lt_size e) I.ok.above))).trans (I.base.keep b o e n hb hx)
    · obtain ⟨sl, e1⟩ := I.base.slot b o e n hb hx
      exact ⟨sl, (hs.2 b (Nat.ne_of_lt (Nat.lt_of_lt_of_le (Heap.lt_size e) I.ok.above))).trans e1⟩
    · obtain ⟨o', e1⟩ := I.base.there b o e hx
      exact ⟨o', (hs.2 b (Nat.ne_of_lt (Nat.lt_of_lt_of_le (Heap.lt_size e) I.ok.above))).trans e1⟩
    · by_cases hj : j = i
      · subst hj
        rw [hi] at e1; cases e1
        rw [List.getElem?_set_self hiσ] at e2
        cases e2
        exact ⟨u, r, .inl ⟨hk, by simp⟩⟩
      · rw [List.getElem?_set_ne (Ne.symm hj)] at e2
        obtain ⟨u', r', q⟩ := hl j y v' e1 e2 e3
        refine ⟨u', r', ?_⟩
        rcases q with ⟨k, e⟩ | ⟨k, c, e, z⟩
        · refine .inl ⟨k, ?_⟩
          have : y ≠ x := fun e => hj (nodup_ix hN e1 (e ▸ hi))
          simp [this, e]
        · exact .inr ⟨k, c, e, z.sameBut hs (cne y c e)⟩
    · obtain ⟨w', z⟩ := I.cell y c e
      exact ⟨w', z.sameBut hs (cne y c e)⟩
    · obtain ⟨e, n, ne, nf, d⟩ := I.pin p hp
      exact ⟨(hs.2 p.1 ne).trans e, n, ne, nf, d⟩
  · have hfn : X.fn x = true := by
      rcases hf with z | z
      · exact z
      · rw [z] at hk; cases hk
    obtain ⟨c, hc⟩ := I.ok.has x (.inl hk)
    obtain ⟨w', z⟩ := I.cell x c hc
    refine wpAny_storeName_cell I.ok.kind hk hc z (fun h' hc' hs => ?_)
    obtain ⟨oc, hoc, hocd⟩ := id z
    refine h { s with heap := h' } ⟨I.ok, I.os, I.bare, ⟨fun b o e n hb hx => ?_, fun b o e n hb hx => ?_, I.base.free, fun b o e hx => ?_, I.base.tups, I.base.frzs, I.base.tbls⟩, ⟨m, hn.sameBut hs (Ne.symm (cne x c hc)), fun j y v' e1 e2 e3 => ?_⟩, fun y c' e => ?_, I.free, I.freeC, fun p hp => ?_, tracked ⟨oc, hoc, I.freeC x c hc⟩ hs, by simpa using I.len⟩ ⟨c, hs, .inr hc⟩
    · exact (hs.2 b (Nat.ne_of_lt (Nat.lt_of_lt_of_le (Heap.lt_size e) (I.ok.cab x c hfn hc)))).trans (I.base.keep b o e n hb hx)
    · obtain ⟨sl, e1⟩ := I.base.slot b o e n hb hx
      exact ⟨sl, (hs.2 b (Nat.ne_of_lt (Nat.lt_of_lt_of_le (Heap.lt_size e) (I.ok.cab x c hfn hc)))).trans e1⟩
    · obtain ⟨o', e1⟩ := I.base.there b o e hx
      exact ⟨o', (hs.2 b (Nat.ne_of_lt (Nat.lt_of_lt_of_le (Heap.lt_size e) (I.ok.cab x c hfn hc)))).trans e1⟩
    · by_cases hj : j = i
      · subst hj
        rw [hi] at e1; cases e1
        rw [List.getElem?_set_self hiσ] at e2
        cases e2
        exact ⟨u, r, .inr ⟨.inl hk, c, hc, hc'⟩⟩
      · rw [List.getElem?_set_ne (Ne.symm hj)] at e2
        obtain ⟨u', r', q⟩ := hl j y v' e1 e2 e3
        refine ⟨u', r', ?_⟩
        rcases q with q | ⟨k, c', e, z'⟩
        · exact .inl q
        · refine .inr ⟨k, c', e, z'.sameBut hs ?_⟩
          rintro rfl
          exact hj (nodup_ix hN e1 (I.ok.inj _ _ _ e hc ▸ hi))
    · by_cases hcc : c' = c
      · subst hcc; exact ⟨_, hc'⟩
      · obtain ⟨w2, z2⟩ := I.cell y c' e
        exact ⟨w2, z2.sameBut hs hcc⟩
    · obtain ⟨e, n, ne, nf, d⟩ := I.pin p hp
      refine ⟨(hs.2 p.1 ?_).trans e, n, ne, nf, d⟩
      intro q
      rw [q, hoc] at e
      have q' : oc = p.2 := Option.some.inj e
      exact d w' (by rw [← q']; exact hocd)
theorem store_ok {M : Model} {A : Around} {E : Value → Shared → Prop} {i : Nat} {x : Str} {v : V} {u : Value} {Q : Unit → Shared → Prop} (I : Inv X pins σ H s) (hN : X.N.Nodup) (hi : X.N[i]? = some x) (hx : Loc X.env.scope x) (r : RelV v u)
    (h : ∀ s', Inv X pins (σ.set i (some v)) H s' → Q () s') (hf : X.fn x = true ∨ X.env.scope.names.lookup x = some .local := by first | exact .inl rfl | exact .inr rfl | assumption) : wpAny M A (storeName X.env x u) Q E s :=
  store_ok2 I hN hi hx r (fun s' I' _ => h s' I') hf

theorem Inv.call' {s' : Shared} {ch : List Addr} (I : Inv X pins σ H s) (ho : s'.os = s.os) (u : Un (frs X.stack) ch H H' s.heap s'.heap) (hok : HOk X.prog X.w H' s'.heap) (hg : AllBare s'.gens)
    (hch : ∀ b ∈ ch, (b ∈ X.ex ∨ X.s₀.heap.objs.size ≤ b) ∧ b ≠ X.env.locals ∧ (∀ x c, X.env.cells.lookup x = some c → c ≠ b) ∧ ∀ p ∈ X.pn ++ pins, p.1 ≠ b) : Inv X pins σ H' s' := by
  obtain ⟨h', g', d', t', o'⟩ := s'
  have e : o' = s.os := ho
  subst e
  exact I.call (g' := g') (t' := t') (d' := d') u hok hg hch
end



abbrev XK := Value → Option Addr → Hp → Prop
abbrev St := List (Option V)
abbrev VK := V → Hp → Prop

abbrev TE := St → Hp → VK → Prop
abbrev TT := St → Hp → (Bool → Hp → Prop) → Prop
abbrev TA := St → Hp → (List V → Hp → Prop) → Prop

structure Ends where
  nx : St → Hp → Prop
  rt : VK
  bk : St → Hp → Prop := fun _ _ => False
  ct : St → Hp → Prop := fun _ _ => False
abbrev TS := Ends → St → Hp → Prop

def EP (X : Cx) (pins : List (Addr × Obj)) (σ : St) (Q : VK) (u : Value) (s' : Shared) : Prop := ∃ v H', Inv X pins σ H' s' ∧ RelV v u ∧ Q v H'
def TP (X : Cx) (pins : List (Addr × Obj)) (σ : St) (Q : Bool → Hp → Prop) (b : Bool) (s' : Shared) : Prop := ∃ H', Inv X pins σ H' s' ∧ Q b H'
def AP (X : Cx) (pins : List (Addr × Obj)) (σ : St) (Q : List V → Hp → Prop) (us : List Value) (s' : Shared) : Prop := ∃ vs H', Inv X pins σ H' s' ∧ Vals vs us ∧ Q vs H'
def SP (X : Cx) (pins : List (Addr × Obj)) (D : Ends) (f : Flow) (s' : Shared) : Prop :=
  match f with
  | .next => ∃ σ' H', Inv X pins σ' H' s' ∧ D.nx σ' H'
  | .brk => ∃ σ' H', Inv X pins σ' H' s' ∧ D.bk σ' H'
  | .cont => ∃ σ' H', Inv X pins σ' H' s' ∧ D.ct σ' H'
  | .ret u => ∃ v σ' H', Inv X pins σ' H' s' ∧ RelV v u ∧ D.rt v H'

def PE (X : Cx) (e : Expr) (t : TE) : Prop :=
  ∀ (pins : List (Addr × Obj)) (s : Shared) (σ : St) (H : Hp) (Q : VK), Inv X pins σ H s → t σ H Q → wpAny (model X.prog X.w) X.A (eval e X.env) (EP X pins σ Q) X.xe s
def PT (X : Cx) (e : Expr) (t : TT) : Prop :=
  ∀ (pins : List (Addr × Obj)) (s : Shared) (σ : St) (H : Hp) (Q : Bool → Hp → Prop), Inv X pins σ H s → t σ H Q → wpAny (model X.prog X.w) X.A (isTrue e X.env (eval e X.env)) (TP X pins σ Q) X.xe s

def PW (X : Cx) (e : Expr) (t : TT) : Prop :=
  ∀ (whole : Sem Value) (pins : List (Addr × Obj)) (s : Shared) (σ : St) (H : Hp) (Q : Bool → Hp → Prop), Inv X pins σ H s → t σ H Q → wpAny (model X.prog X.w) X.A (isTrue e X.env whole) (TP X pins σ Q) X.xe s
theorem PW.pt {X : Cx} {e : Expr} {t : TT} (h : PW X e t) : PT X e t := h _

def PA (X : Cx) (es : List Expr) (t : TA) : Prop :=
  ∀ (pos : Pos) (pins : List (Addr × Obj)) (s : Shared) (σ : St) (H : Hp) (Q : List V → Hp → Prop), Inv X pins σ H s → t σ H Q → wpAny (model X.prog X.w) X.A (spliced (backTo pos (starEach es X.env))) (AP X pins σ Q) X.xe s
def PS (X : Cx) (st : Stmt) (t : TS) : Prop :=
  ∀ (pins : List (Addr × Obj)) (s : Shared) (σ : St) (H : Hp) (D : Ends), Inv X pins σ H s → t D σ H → wpAny (model X.prog X.w) X.A (exec st X.env) (SP X pins D) X.xe s
def PSs (X : Cx) (st : List Stmt) (t : TS) : Prop :=
  ∀ (pins : List (Addr × Obj)) (s : Shared) (σ : St) (H : Hp) (D : Ends), Inv X pins σ H s → t D σ H → wpAny (model X.prog X.w) X.A (execs st X.env) (SP X pins D) X.xe s

theorem thn {α : Type} {t : Sem α} {Q Q' : α → Shared → Prop} {M : Model} {A : Around} {E : Value → Shared → Prop} {s : Shared} (h : wpAny M A t Q E s) (hQ : ∀ a s, Q a s → Q' a s) : wpAny M A t Q' E s := wpAny_mono h hQ fun _ _ x => x
end L2

namespace L2
open PySem PySem.Spec PyProof.Rows
section
variable {X : Cx}


def tVar (i : Nat) : TE := fun σ H Q => ∃ v, σ[i]? = some (some v) ∧ Q v H
def tC (v : V) : TE := fun _ H Q => Q v H
theorem pe_var {i : Nat} {x : Str} {pos : Pos} (hN : X.N[i]? = some x) (hv : Vis X.env.scope x) (hd : (x == ("__debug__" : Str)) = false := by decide) (hcd : (x == ("__classdict__" : Str)) = false := by decide) : PE X (.Name x pos) (tVar i) := by
  intro pins s σ H Q I h
  obtain ⟨v, e, h⟩ := h
  obtain ⟨m, hn, hl⟩ := I.loc
  obtain ⟨u, r, l⟩ := hl i x v hN e hv
  have fin : EP X pins σ Q u s := ⟨v, H, I, r, h⟩
  rcases l with ⟨hk, hm⟩ | ⟨hk, c, hc, hcell⟩
  · exact wpAny_Name (wpAny_loadName_local I.ok.kind hk hn hm fin) hd
  · rcases hk with hk | hk
    · exact wpAny_Name (wpAny_loadName_cell I.ok.kind hk hc hcell fin) hd
    · exact wpAny_Name (wpAny_loadName_free I.ok.kind hk hc hcell fin hcd) hd
theorem pe_int {i j pos} : PE X (.Constant (.int i) j pos) (tC (.int i)) := fun _ _ _ H _ I h => wpAny_Constant_int ⟨.int i, H, I.tok _, ⟨_, rfl⟩, h⟩
theorem pe_bl {b j pos} : PE X (.Constant (.bool b) j pos) (tC (.bl b)) := fun _ _ _ H _ I h => Constant_bool ⟨.bl b, H, I, rfl, h⟩
theorem pe_non {j pos} : PE X (.Constant .none j pos) (tC .non) := fun _ _ _ H _ I h => Constant_none ⟨.non, H, I, rfl, h⟩
def Gl (X : Cx) (x : Str) : Prop := X.env.kindOf x = some .globalImplicit
theorem ld_glob {E : Value → Shared → Prop} {pins : List (Addr × Obj)} {s : Shared} {σ : St} {H : Hp} {x : Str} {u : Value} {pos : Pos} {Q : Value → Shared → Prop} (I : Inv X pins σ H s) (hg : Gl X x) (hm : X.mg x = some u) (h : Q u s)
    (hd : (x == ("__debug__" : Str)) = false := by decide) : wpAny (model X.prog X.w) X.A (eval (.Name x pos) X.env) Q E s :=
  Calls.Name_function_global I.ok.kind hg (Calls.loadGlobal_global (by rw [I.ok.glob]; exact I.mod.glob.keeps I.bk) hm h) hd
theorem ld_blt {E : Value → Shared → Prop} {pins : List (Addr × Obj)} {s : Shared} {σ : St} {H : Hp} {x : Str} {u : Value} {pos : Pos} {Q : Value → Shared → Prop} (I : Inv X pins σ H s) (hg : Gl X x) (hm : X.mg x = none) (hv : bootBuiltins x = some u) (h : Q u s)
    (hn : x ≠ "__name__" := by decide) (hd : (x == ("__debug__" : Str)) = false := by decide) : wpAny (model X.prog X.w) X.A (eval (.Name x pos) X.env) Q E s := by
  obtain ⟨mb, h1, h2⟩ := I.mod.blt
  exact Calls.Name_function_global I.ok.kind hg (Calls.loadGlobal_builtin (by rw [I.ok.glob]; exact I.mod.glob.keeps I.bk) hm (by rw [I.ok.blt]; exact h1.keeps I.bk) ((h2 x hn).trans hv) h) hd

theorem pe_glob {x : Str} {v : V} {u : Value} {pos : Pos} (hg : Gl X x) (hm : X.mg x = some u) (r : RelV v u) (hd : (x == ("__debug__" : Str)) = false := by decide) : PE X (.Name x pos) (tC v) :=
  fun _ _ _ H _ I h => ld_glob I hg hm ⟨v, H, I, r, h⟩ hd
theorem pe_bltn {x : Str} {v : V} {u : Value} {pos : Pos} (hg : Gl X x) (hm : X.mg x = none) (hv : bootBuiltins x = some u) (r : RelV v u) (hn : x ≠ "__name__" := by decide) (hd : (x == ("__debug__" : Str)) = false := by decide) : PE X (.Name x pos) (tC v) :=
  fun _ _ _ H _ I h => ld_blt I hg hm hv ⟨v, H, I, r, h⟩ hn hd



variable {a b : Expr} {ta tb : TE} {pos : Pos}
def tB (t : TE) : TT := fun σ H Q => t σ H fun x H1 => ∃ c, x = .bl c ∧ Q c H1
theorem pt_val {e : Expr} {t : TE} (h : PE X e t) (he : ∀ whole, isTrue e X.env whole = (do let v ← whole; standAt e.pos; holding [v] (truthy v)) := by intro _; rfl) : PT X e (tB t) := by
  intro pins s σ H Q I hw
  refine isTrue_plain (thn (h pins s σ H _ I hw) fun v s1 ⟨x, H1, I1, r1, q1⟩ => ?_) (he _)
  obtain ⟨d, rfl, q⟩ := q1
  cases r1
  exact wpAny_truthy_bool ⟨H1, I1, q⟩


variable {tA tB' : TT} {rest : List Expr}
def tAnd (t u : TT) : TT := fun σ H Q => t σ H fun c H1 => if c = true then u σ H1 Q else Q false H1
def tOr (t u : TT) : TT := fun σ H Q => t σ H fun c H1 => if c = true then Q true H1 else u σ H1 Q
def tNot (t : TT) : TT := fun σ H Q => t σ H fun c H1 => Q (!c) H1
theorem pw_and1 (ha : PT X a tA) : PW X (.BoolOp .And [a] pos) tA := by
  intro wh pins s σ H Q I h
  refine isTrue_and (thn (ha pins s σ H Q I h) fun c s1 e => ?_)
  cases c with
  | true => exact isTrue_and_nil e
  | false => exact e
theorem pw_or1 (ha : PT X a tA) : PW X (.BoolOp .Or [a] pos) tA := by
  intro wh pins s σ H Q I h
  refine isTrue_or (thn (ha pins s σ H Q I h) fun c s1 e => ?_)
  cases c with
  | false => exact isTrue_or_nil e
  | true => exact e
theorem pw_and (ha : PT X a tA) (hb : PW X (.BoolOp .And (b :: rest) pos) tB') : PW X (.BoolOp .And (a :: b :: rest) pos) (tAnd tA tB') := by
  intro wh pins s σ H Q I h
  refine isTrue_and (thn (ha pins s σ H _ I h) fun c s1 ⟨H1, I1, q1⟩ => ?_)
  cases c with
  | true => exact hb wh pins s1 σ H1 Q I1 q1
  | false => exact ⟨H1, I1, q1⟩
theorem pw_or (ha : PT X a tA) (hb : PW X (.BoolOp .Or (b :: rest) pos) tB') : PW X (.BoolOp .Or (a :: b :: rest) pos) (tOr tA tB') := by
  intro wh pins s σ H Q I h
  refine isTrue_or (thn (ha pins s σ H _ I h) fun c s1 ⟨H1, I1, q1⟩ => ?_)
  cases c with
  | true => exact ⟨H1, I1, q1⟩
  | false => exact hb wh pins s1 σ H1 Q I1 q1
theorem pt_not (ha : PT X a tA) : PT X (.UnaryOp .Not a pos) (tNot tA) := by
  intro pins s σ H Q I h
  exact isTrue_not (ha pins s σ H (fun c H1 => Q (!c) H1) I h)

def tAndV (ta tb : TE) : TE := fun σ H Q => ta σ H fun x H1 => ∃ c, x = .bl c ∧ if c = true then tb σ H1 Q else Q (.bl false) H1
def tOrV (ta tb : TE) : TE := fun σ H Q => ta σ H fun x H1 => ∃ c, x = .bl c ∧ if c = true then Q (.bl true) H1 else tb σ H1 Q
def tNotV (ta : TE) : TE := fun σ H Q => ta σ H fun x H1 => ∃ c, x = .bl c ∧ Q (.bl (!c)) H1
theorem pe_one {op} {t : TE} (h : PE X a t) : PE X (.BoolOp op [a] pos) t := fun pins s σ H Q I hw => BoolOp_one (h pins s σ H Q I hw)
theorem pe_and (ha : PE X a ta) (hb : PE X (.BoolOp .And (b :: rest) pos) tb) : PE X (.BoolOp .And (a :: b :: rest) pos) (tAndV ta tb) := by
  intro pins s σ H Q I h
  refine BoolOp_and (thn (ha pins s σ H _ I h) fun v s1 ⟨x, H1, I1, r1, q1⟩ => ?_)
  obtain ⟨c, rfl, q1⟩ := q1
  cases r1
  refine wpAny_truthy_bool ?_
  cases c with
  | true => exact hb pins s1 σ H1 Q I1 q1
  | false => exact ⟨.bl false, H1, I1, rfl, q1⟩
def tIf (t : TT) (ta tb : TE) : TE := fun σ H Q => t σ H fun c H1 => if c = true then ta σ H1 Q else tb σ H1 Q
theorem pe_ifExp {c : Expr} (hc : PT X c tA) (ha : PE X a ta) (hb : PE X b tb) : PE X (.IfExp c a b pos) (tIf tA ta tb) := by
  intro pins s σ H Q I h
  refine wpAny_IfExp (thn (hc pins s σ H _ I h) fun d s1 ⟨H1, I1, q1⟩ => ?_)
  cases d with
  | true => exact ha pins s1 σ H1 Q I1 q1
  | false => exact hb pins s1 σ H1 Q I1 q1
end
end L2

namespace L2
open PySem PySem.Spec PyProof.Rows


def SqL (K : PySem.W.Frag) (H : Hp) (a : Addr) (xs : List V) : Prop :=
  Rd H a (.lst xs) ∨
    ∃ (o : Obj) (its : Array Value) (n : Nat), K.lookup a = some o ∧ o.cls = .type "list" ∧ o.dict = none ∧ o.data = .seq its n ∧ its.size ≤ sizeLine ∧ Vals xs its.toList
def SqT (K : PySem.W.Frag) (H : Hp) (a : Addr) (xs : List V) : Prop :=
  Rd H a (.tup xs) ∨
    ∃ (o : Obj) (its : Array Value) (n : Nat), K.lookup a = some o ∧ o.cls = .type "tuple" ∧ o.data = .seq its n ∧ its.size ≤ sizeLine ∧ Vals xs its.toList
def absV : Value → Option V
  | .none => some .non
  | .bool b => some (.bl b)
  | .int i _ => some (.int i)
  | .str x _ => some (.str x)
  | .bytes b _ => some (.byt b)
  | .float b _ => some (.flt b)
  | .ref a => some (.ref a)
  | .type n => some (.ty n)
  | _ => none
theorem RelV.abs {x : V} {u : Value} (r : RelV x u) : absV u = some x := by
  cases x with
  | non => cases r; rfl
  | bl _ => cases r; rfl
  | int _ => obtain ⟨t, rfl⟩ := r; rfl
  | str _ => obtain ⟨t, rfl⟩ := r; rfl
  | byt _ => obtain ⟨t, rfl⟩ := r; rfl
  | flt _ => obtain ⟨t, rfl⟩ := r; rfl
  | ref _ => cases r; rfl
  | ty _ => cases r; rfl
theorem RelV.inj {x y : V} {u : Value} (r : RelV x u) (q : RelV y u) : x = y := Option.some.inj (r.abs.symm.trans q.abs)
theorem Vals.inj : ∀ {xs ys : List V} {us : List Value}, Vals xs us → Vals ys us → xs = ys
  | _, _, _, .nil, .nil => rfl
  | _, _, _, .cons r t, .cons r' t' => by rw [r.inj r', Vals.inj t t']
section
variable {X : Cx} {pins : List (Addr × Obj)} {σ : St} {H : Hp} {s : Shared} {a : Addr} {xs ys : List V}
theorem SqL.of {K : PySem.W.Frag} (h : H a = some (.lst xs)) : SqL K H a xs := .inl (.inl h)
theorem SqT.of {K : PySem.W.Frag} (h : H a = some (.tup xs)) : SqT K H a xs := .inl (.inl h)
theorem Inv.list (I : Inv X pins σ H s) (h : SqL X.K H a xs) : ∃ its : List Value, Vals xs its ∧ PlainL s.heap a its.toArray ∧ xs.length ≤ sizeLine := by
  rcases h with h | ⟨o, its, n, hk, hc, hd, hs, hz, r⟩
  · obtain ⟨z, its, n, r, e⟩ := h.ok I.hok
    exact ⟨its, r, ⟨_, n, e, rfl, rfl, rfl⟩, z⟩
  · refine ⟨its.toList, r, ⟨o, n, I.kIn a o hk, hc, hd, by simpa using hs⟩, ?_⟩
    have e := r.length
    simp only [Array.length_toList] at e
    omega
theorem Inv.tuple (I : Inv X pins σ H s) (h : SqT X.K H a xs) : ∃ its : List Value, Vals xs its ∧ IsTup s.heap a its.toArray ∧ xs.length ≤ sizeLine := by
  rcases h with h | ⟨o, its, n, hk, hc, hs, hz, r⟩
  · obtain ⟨z, its, r, p⟩ := h.ok I.hok
    exact ⟨its, r, p, z⟩
  · refine ⟨its.toList, r, ⟨o, I.kIn a o hk, hc, n, by simpa using hs⟩, ?_⟩
    have e := r.length
    simp only [Array.length_toList] at e
    omega
theorem Inv.list_inj (I : Inv X pins σ H s) (h : SqL X.K H a xs) (h' : SqL X.K H a ys) : xs = ys := by
  obtain ⟨its, r, ⟨o, n, e, _, _, d⟩, _⟩ := I.list h
  obtain ⟨its', r', ⟨o', n', e', _, _, d'⟩, _⟩ := I.list h'
  rw [e] at e'; cases e'
  rw [d] at d'
  injection d' with d1 _
  have : its = its' := by simpa using congrArg Array.toList d1
  subst this
  exact r.inj r'
theorem Inv.tuple_inj (I : Inv X pins σ H s) (h : SqT X.K H a xs) (h' : SqT X.K H a ys) : xs = ys := by
  obtain ⟨its, r, ⟨o, e, _, n, d⟩, _⟩ := I.tuple h
  obtain ⟨its', r', ⟨o', e', _, n', d'⟩, _⟩ := I.tuple h'
  rw [e] at e'; cases e'
  rw [d] at d'
  injection d' with d1 _
  have : its = its' := by simpa using congrArg Array.toList d1
  subst this
  exact r.inj r'
end


abbrev Cx.wish (X : Cx) (E : Value → Shared → Prop) : Cx := { X with xe := E }

abbrev Cx.nox (X : Cx) : Cx := X.wish fun _ _ => False
theorem Cx.Ok.wish {X : Cx} (ok : X.Ok) (E : Value → Shared → Prop) : (X.wish E).Ok :=
  ⟨ok.mod, ok.kind, ok.glob, ok.blt, ok.above, ok.inj, ok.has, ok.cab, ok.hd, ok.frames, ok.stk, ok.exf, ok.bs, ok.bsz, ok.noex, ok.exfs, ok.funs, ok.frf⟩
theorem Cx.Ok.unwish {X : Cx} {E : Value → Shared → Prop} (ok : (X.wish E).Ok) : X.Ok :=
  ⟨ok.mod, ok.kind, ok.glob, ok.blt, ok.above, ok.inj, ok.has, ok.cab, ok.hd, ok.frames, ok.stk, ok.exf, ok.bs, ok.bsz, ok.noex, ok.exfs, ok.funs, ok.frf⟩
section
variable {X : Cx} {pins : List (Addr × Obj)} {σ : St} {H : Hp} {s : Shared} {E : Value → Shared → Prop}
theorem Inv.wish (I : Inv X pins σ H s) (E : Value → Shared → Prop) : Inv (X.wish E) pins σ H s := ⟨I.ok.wish E, I.os, I.bare, I.base, I.loc, I.cell, I.free, I.freeC, I.pin, I.hok, I.len⟩
theorem Inv.unwish (I : Inv (X.wish E) pins σ H s) : Inv X pins σ H s := ⟨I.ok.unwish, I.os, I.bare, I.base, I.loc, I.cell, I.free, I.freeC, I.pin, I.hok, I.len⟩
theorem SP.unwish {D : Ends} {f : Flow} {s' : Shared} (h : SP (X.wish E) pins D f s') : SP X pins D f s' := by
  cases f with
  | next => obtain ⟨σ', H', I, q⟩ := h; exact ⟨σ', H', I.unwish, q⟩
  | brk => obtain ⟨σ', H', I, q⟩ := h; exact ⟨σ', H', I.unwish, q⟩
  | cont => obtain ⟨σ', H', I, q⟩ := h; exact ⟨σ', H', I.unwish, q⟩
  | ret u => obtain ⟨v, σ', H', I, r, q⟩ := h; exact ⟨v, σ', H', I.unwish, r, q⟩
theorem PE.nox {e : Expr} {t : TE} (h : PE X.nox e t) : PE X e t := fun pins s σ H Q I hw =>
  wpAny_mono (h pins s σ H Q (I.wish _) hw) (fun _ _ ⟨v, H', I', r, q⟩ => ⟨v, H', I'.unwish, r, q⟩) fun _ _ z => False.elim z
theorem PT.nox {e : Expr} {t : TT} (h : PT X.nox e t) : PT X e t := fun pins s σ H Q I hw =>
  wpAny_mono (h pins s σ H Q (I.wish _) hw) (fun _ _ ⟨H', I', q⟩ => ⟨H', I'.unwish, q⟩) fun _ _ z => False.elim z
theorem PSs.nox {st : List Stmt} {t : TS} (h : PSs X.nox st t) : PSs X st t := fun pins s σ H D I hw =>
  wpAny_mono (h pins s σ H D (I.wish _) hw) (fun _ _ q => q.unwish) fun _ _ z => False.elim z
end


section
variable {X : Cx} {st : Stmt} {rest : List Stmt} {t u : TS} {e : Expr} {te : TE} {pos : Pos}
def tNext : TS := fun D σ H => D.nx σ H
def tSeq (t u : TS) : TS := fun D σ H => t { D with nx := u D } σ H
theorem pss_nil : PSs X [] tNext := fun _ _ σ H _ I h => wpAny_execs_nil ⟨σ, H, I, h⟩
theorem pss_cons (h1 : PS X st t) (h2 : PSs X rest u) : PSs X (st :: rest) (tSeq t u) := by
  intro pins s σ H D I h
  refine wpAny_execs_cons (thn (h1 pins s σ H { D with nx := u D } I h) fun f s1 q => ?_)
  cases f with
  | next =>
    obtain ⟨σ', H', I', q⟩ := q
    exact h2 pins s1 σ' H' D I' q
  | ret v => exact q
  | brk => exact q
  | cont => exact q
theorem pss_one (h1 : PS X st t) : PSs X [st] t := by
  intro pins s σ H D I h
  refine wpAny_execs_cons (thn (h1 pins s σ H D I h) fun f s1 q => ?_)
  cases f with
  | next => exact wpAny_execs_nil q
  | ret v => exact q
  | brk => exact q
  | cont => exact q
theorem Inv.quiet {pins : List (Addr × Obj)} {σ : St} {H : Hp} {s : Shared} (I : Inv X pins σ H s) : interactive X.env = false := by simp [interactive, I.ok.kind]

def tDrop (te : TE) : TS := fun D σ H => te σ H fun _ H1 => D.nx σ H1
theorem ps_expr (he : PE X e te) (hs : swapsWith e none pos.line X.env = pure false := by rfl) : PS X (.Expr e pos) (tDrop te) := by
  intro pins s σ H D I h
  exact wpAny_Expr_any (thn (he pins s σ H _ I h) fun v s1 ⟨x, H1, I1, r1, q1⟩ => ⟨σ, H1, I1, q1⟩) I.quiet hs
def tRet (te : TE) : TS := fun D σ H => te σ H D.rt
theorem ps_ret (he : PE X e te) : PS X (.Return (some e) pos) (tRet te) := by
  intro pins s σ H D I h
  exact wpAny_Return_some (thn (he pins s σ H _ I h) fun v s1 ⟨x, H1, I1, r1, q1⟩ => ⟨x, σ, H1, I1, r1, q1⟩)
def tIfS (c : TT) (t u : TS) : TS := fun D σ H => c σ H fun b H1 => if b = true then t D σ H1 else u D σ H1
theorem ps_if {c : Expr} {a b : List Stmt} {tc : TT} (hc : PT X c tc) (ha : PSs X a t) (hb : PSs X b u) : PS X (.If c a b pos) (tIfS tc t u) := by
  intro pins s σ H D I h
  refine wpAny_If (thn (hc pins s σ H _ I h) fun d s1 ⟨H1, I1, q1⟩ => ?_)
  cases d with
  | true => exact ha pins s1 σ H1 D I1 q1
  | false => exact hb pins s1 σ H1 D I1 q1

end


abbrev TG := V → St → Hp → (St → Hp → Prop) → Prop
abbrev TGs := List V → St → Hp → (St → Hp → Prop) → Prop
def PG (X : Cx) (target : Expr) (t : TG) : Prop :=
  ∀ (pins : List (Addr × Obj)) (s : Shared) (σ : St) (H : Hp) (v : V) (u : Value) (Q : St → Hp → Prop), Inv X pins σ H s → RelV v u → t v σ H Q →
    wpAny (model X.prog X.w) X.A (assign target X.env u) (fun _ s' => ∃ σ' H', Inv X pins σ' H' s' ∧ Q σ' H') X.xe s

def PGs (X : Cx) (ts : List Expr) (t : TGs) : Prop :=
  ∀ (pins : List (Addr × Obj)) (s : Shared) (σ : St) (H : Hp) (vs : List V) (us : List Value) (Q : St → Hp → Prop), Inv X pins σ H s → Vals vs us → t vs σ H Q →
    wpAny (model X.prog X.w) X.A (assignInOrder ((assignEach ts X.env).map (·.2)) us) (fun _ s' => ∃ σ' H', Inv X pins σ' H' s' ∧ Q σ' H') X.xe s

abbrev TSet := V → V → V → Hp → (Hp → Prop) → Prop
def PSet (X : Cx) (t : TSet) : Prop :=
  ∀ (pins : List (Addr × Obj)) (s : Shared) (σ : St) (H : Hp) (o i v : V) (ov iv u : Value) (Q : Hp → Prop), Inv X pins σ H s → RelV o ov → RelV i iv → RelV v u → t o i v H Q →
    wpAny (model X.prog X.w) X.A (setItem ov iv u) (fun _ s' => ∃ H', Inv X pins σ H' s' ∧ Q H') X.xe s

abbrev TIp := V → V → Hp → VK → Prop
def PIp (X : Cx) (op : Operator) (t : TIp) : Prop :=
  ∀ (pins : List (Addr × Obj)) (s : Shared) (σ : St) (H : Hp) (x y : V) (v u : Value) (Q : VK), Inv X pins σ H s → RelV x v → RelV y u → t x y H Q →
    wpAny (model X.prog X.w) X.A (inplaceOp op v u) (EP X pins σ Q) X.xe s
section
variable {X : Cx} {pos : Pos}
def gName (i : Nat) : TG := fun v σ H Q => Q (σ.set i (some v)) H
theorem pg_name {i : Nat} {x : Str} (hN : X.N.Nodup) (hi : X.N[i]? = some x) (hx : Loc X.env.scope x) (hf : X.fn x = true ∨ X.env.scope.names.lookup x = some .local := by first | exact .inl rfl | exact .inr rfl | assumption) : PG X (.Name x pos) (gName i) := by
  intro pins s σ H v u Q I r h
  exact wpAny_assign_Name (store_ok I hN hi hx r (fun s' I' => ⟨_, H, I', h⟩) hf)
def gNil : TGs := fun vs σ H Q => vs = [] ∧ Q σ H
def gCons (t : TG) (u : TGs) : TGs := fun vs σ H Q => ∃ v r, vs = v :: r ∧ t v σ H fun σ' H' => u r σ' H' Q
theorem pgs_nil : PGs X [] gNil := by
  intro pins s σ H vs us Q I r h
  obtain ⟨e, h⟩ := h
  subst e
  cases r
  exact assignInOrder_nil ⟨σ, H, I, h⟩
theorem pgs_cons {e : Expr} {es : List Expr} {t : TG} {u : TGs} (h1 : PG X e t) (h2 : PGs X es u)
    (hs : (assignEach (e :: es) X.env).map (·.2) = assign e X.env :: (assignEach es X.env).map (·.2) := by rfl) : PGs X (e :: es) (gCons t u) := by
  intro pins s σ H vs us Q I r h
  obtain ⟨v, vr, e1, h⟩ := h
  subst e1
  cases r with
  | cons r rr =>
    rw [hs]
    refine assignInOrder_cons (thn (h1 pins s σ H _ _ _ I r h) fun _ s1 ⟨σ1, H1, I1, q1⟩ => ?_)
    exact h2 pins s1 σ1 H1 _ _ Q I1 rr q1

def gTup (K : PySem.W.Frag) (n : Nat) (t : TGs) : TG := fun v σ H Q => ∃ a xs, v = .ref a ∧ SqT K H a xs ∧ xs.length = n ∧ t xs σ H Q
theorem pg_tup {es : List Expr} {k : Nat} {t : TGs} {n : Nat} (hc : X.calm = true) (h : PGs X es t)
    (hn : (assignEach es X.env).length = n := by rfl) (hst : (assignEach es X.env).findIdx? (·.1) = none := by rfl) : PG X (.Tuple es k pos) (gTup X.K n t) := by
  intro pins s σ H v u Q I r hw
  obtain ⟨a, xs, e1, hq, hl, hw⟩ := hw
  subst e1
  cases r
  obtain ⟨its, rv, ht, hz⟩ := I.tuple hq
  refine assign_Tuple_tuple (I.ok.hd hc) ht (by simp [hn, ← hl, rv.length]) hst fun h' hx => ?_
  have I1 : Inv X pins σ H { s with heap := h' } := I.kept (t' := s.toks) fun b o e => hx b o (Nat.ne_of_lt (Heap.lt_size e)) e
  exact h pins _ σ H xs _ Q I1 (by simpa using rv) hw

def gSub (to ti : TE) (t : TSet) : TG := fun v σ H Q => to σ H fun o H1 => ti σ H1 fun i H2 => t o i v H2 fun H3 => Q σ H3
theorem pg_sub {o i : Expr} {to ti : TE} {t : TSet} (ho : PE X o to) (hi : PE X i ti) (hs : PSet X t)
    (ha : ∀ v, assign (.Subscript o i pos) X.env v = (do
      let ov ← holding [v] (eval o X.env)
      let iv ← holding [v, ov] (eval i X.env)
      standAt pos
      holding [v, ov, iv] (setItem ov iv v)
      release [v, ov, iv] []) := by intro _; rfl) : PG X (.Subscript o i pos) (gSub to ti t) := by
  intro pins s σ H v u Q I r h
  rw [ha]
  refine wpAny_bind (wpAny_holding (thn (ho pins s σ H _ I h) fun ov s1 ⟨x, H1, I1, r1, q1⟩ => ?_))
  refine wpAny_bind (wpAny_holding (thn (hi pins s1 σ H1 _ I1 q1) fun iv s2 ⟨y, H2, I2, r2, q2⟩ => ?_))
  refine wpAny_bind (wpAny_standAt (wpAny_bind (wpAny_holding (thn (hs pins s2 σ H2 x y v ov iv u _ I2 r1 r2 r q2) fun _ s3 ⟨H3, I3, q3⟩ => ?_))))
  exact wpAny_release ⟨σ, H3, I3, q3⟩

def tAsg (te : TE) (g : TG) : TS := fun D σ H => te σ H fun x H1 => g x σ H1 D.nx
theorem ps_asg {tg e : Expr} {te : TE} {g : TG} (he : PE X e te) (hg : PG X tg g) (hs : swapsWithSole [tg] e pos.line X.env = pure false := by rfl) (hw : swappedStores [tg] e X.env = pure none := by rfl)
    (h1 : (assignEach [tg] X.env).map (·.2) = [assign tg X.env] := by rfl) : PS X (.Assign [tg] e pos) (tAsg te g) := by
  intro pins s σ H D I h
  refine wpAny_Assign_stores (thn (he pins s σ H _ I h) fun v s1 ⟨x, H1, I1, r1, q1⟩ => ?_) hs hw
  rw [h1]
  exact thn (hg pins s1 σ H1 x v _ I1 r1 q1) fun _ s2 q => q

theorem ps_set {i : Nat} {x : Str} {e : Expr} {te : TE} {pos' : Pos} (hN : X.N.Nodup) (hi : X.N[i]? = some x) (hx : Loc X.env.scope x) (he : PE X e te) (hs : swapsWith e (some (.Name x pos')) pos.line X.env = pure false := by rfl) (hf : X.fn x = true ∨ X.env.scope.names.lookup x = some .local := by first | exact .inl rfl | exact .inr rfl | assumption) :
    PS X (.Assign [.Name x pos'] e pos) (tAsg te (gName i)) := by
  intro pins s σ H D I h
  refine wpAny_Assign_Name (thn (he pins s σ H _ I h) fun v s1 ⟨y, H1, I1, r1, q1⟩ => ?_) hs
  exact store_ok I1 hN hi hx r1 (fun s2 I2 => ⟨_, H1, I2, q1⟩) hf

def tPar (i j : Nat) (ta : TA) : TS := fun D σ H => ta σ H fun vs H1 => ∃ v w, vs = [v, w] ∧ D.nx ((σ.set i (some v)).set j (some w)) H1
def tAug (i : Nat) (te : TE) (ti : TIp) : TS := fun D σ H => ∃ x, σ[i]? = some (some x) ∧ te σ H fun y H1 => ti x y H1 fun z H2 => D.nx (σ.set i (some z)) H2
theorem ps_aug {i : Nat} {x : Str} {e : Expr} {te : TE} {op : Operator} {ti : TIp} {pos' : Pos} (hN : X.N.Nodup) (hi : X.N[i]? = some x) (hx : Loc X.env.scope x) (he : PE X e te) (ho : PIp X op ti) (hf : X.fn x = true ∨ X.env.scope.names.lookup x = some .local := by first | exact .inl rfl | exact .inr rfl | assumption) :
    PS X (.AugAssign (.Name x pos') op e pos) (tAug i te ti) := by
  intro pins s σ H D I h
  obtain ⟨v, e1, h⟩ := h
  obtain ⟨m, hn, hl⟩ := I.loc
  have vis : Vis X.env.scope x := by rcases hx with k | k; exact .inl k; exact .inr (.inl k)
  obtain ⟨u, r, l⟩ := hl i x v hi e1 vis
  refine wpAny_AugAssign_Name ?_
  have go : wpAny (model X.prog X.w) X.A (eval e X.env) (fun w s₂ => wpAny (model X.prog X.w) X.A (inplaceOp op u w) (fun r s₃ => wpAny (model X.prog X.w) X.A (storeName X.env x r) (fun _ => SP X pins D .next) X.xe s₃) X.xe s₂) X.xe s := by
    refine thn (he pins s σ H _ I h) fun w s1 ⟨y, H1, I1, r1, q1⟩ => ?_
    refine thn (ho pins s1 σ H1 v y u w _ I1 r r1 q1) fun z s2 ⟨zv, H2, I2, r2, q2⟩ => ?_
    exact store_ok I2 hN hi hx r2 (fun s3 I3 => ⟨_, H2, I3, q2⟩) hf
  rcases l with ⟨hk, hm⟩ | ⟨hk, c, hc, hcell⟩
  · exact wpAny_loadName_local I.ok.kind hk hn hm go
  · rcases hk with hk | hk
    · exact wpAny_loadName_cell I.ok.kind hk hc hcell go
    · rcases hx with k | k
      · have : X.env.scope.names.lookup x = some .free := hk
        rw [k] at this; cases this
      · have : X.env.scope.names.lookup x = some .free := hk
        rw [k] at this; cases this

def tAugS (to ti te : TE) (tget : V → V → Hp → VK → Prop) (tip : TIp) (tset : TSet) : TS := fun D σ H => to σ H fun o H1 => ti σ H1 fun i H2 => tget o i H2 fun x H3 => te σ H3 fun y H4 => tip x y H4 fun z H5 => tset o i z H5 fun H6 => D.nx σ H6

def PGet (X : Cx) (t : V → V → Hp → VK → Prop) : Prop :=
  ∀ (pins : List (Addr × Obj)) (s : Shared) (σ : St) (H : Hp) (o i : V) (ov iv : Value) (Q : VK), Inv X pins σ H s → RelV o ov → RelV i iv → t o i H Q →
    wpAny (model X.prog X.w) X.A (getItem ov iv) (EP X pins σ Q) X.xe s
theorem ps_augS {o i e : Expr} {to ti te : TE} {tget : V → V → Hp → VK → Prop} {tip : TIp} {tset : TSet} {op : Operator} {tpos : Pos} (ho : PE X o to) (hi : PE X i ti) (hg : PGet X tget) (he : PE X e te) (hp : PIp X op tip) (hs : PSet X tset)
    (ha : ∀ ov iv new, augStore i ov iv new = (do holding [new, ov, iv] (setItem ov iv new); release [new, ov, iv] []; pure .next) := by intros; rfl) : PS X (.AugAssign (.Subscript o i tpos) op e pos) (tAugS to ti te tget tip tset) := by
  intro pins s σ H D I h
  refine wpAny_AugAssign_SubscriptAny (thn (ho pins s σ H _ I h) fun ov s1 ⟨x1, H1, I1, r1, q1⟩ => ?_) ha
  refine thn (hi pins s1 σ H1 _ I1 q1) fun iv s2 ⟨x2, H2, I2, r2, q2⟩ => ?_
  refine thn (hg pins s2 σ H2 x1 x2 ov iv _ I2 r1 r2 q2) fun old s3 ⟨x3, H3, I3, r3, q3⟩ => ?_
  refine thn (he pins s3 σ H3 _ I3 q3) fun v s4 ⟨x4, H4, I4, r4, q4⟩ => ?_
  refine thn (hp pins s4 σ H4 x3 x4 old v _ I4 r3 r4 q4) fun new s5 ⟨x5, H5, I5, r5, q5⟩ => ?_
  exact thn (hs pins s5 σ H5 x1 x2 x5 ov iv new _ I5 r1 r2 r5 q5) fun _ s6 ⟨H6, I6, q6⟩ => ⟨σ, H6, I6, q6⟩

def ipI (f : Int → Int → Int) : TIp := fun x y H Q => ∃ i j, x = .int i ∧ y = .int j ∧ Q (.int (f i j)) H
theorem ip_add : PIp X .Add (ipI fun i j => i + j) := by
  intro pins s σ H x y v u Q I r1 r2 h
  obtain ⟨i, j, e1, e2, q⟩ := h
  subst e1; subst e2
  obtain ⟨t, rfl⟩ := r1
  obtain ⟨t', rfl⟩ := r2
  exact iadd_int ⟨.int _, H, I.tok _, ⟨_, rfl⟩, q⟩
theorem ip_sub : PIp X .Sub (ipI fun i j => i - j) := by
  intro pins s σ H x y v u Q I r1 r2 h
  obtain ⟨i, j, e1, e2, q⟩ := h
  subst e1; subst e2
  obtain ⟨t, rfl⟩ := r1
  obtain ⟨t', rfl⟩ := r2
  exact isub_int ⟨.int _, H, I.tok _, ⟨_, rfl⟩, q⟩
end


section
variable {X : Cx} {pos : Pos}

def tWhile (c : TT) (tb : TS) : TS := fun D σ H => ∃ W : Nat → St → Hp → Prop, (∃ m, W m σ H) ∧ ∀ m σ H, W m σ H →
  c σ H fun b H1 => if b = true then ∃ N : St → Hp → Prop, (∀ σ' H', N σ' H' → ∃ m', m' < m ∧ W m' σ' H') ∧ tb { D with nx := N, ct := N, bk := D.nx } σ H1 else D.nx σ H1
theorem ps_while {c : Expr} {body : List Stmt} {tc : TT} {tb : TS} (hp : PassesOwn (model X.prog X.w) X.A X.env X.xe) (hc : PT X c tc) (hb : PSs X body tb) : PS X (.While c body [] pos) (tWhile tc tb) := by
  intro pins s σ H D I h
  obtain ⟨W, ⟨m0, w0⟩, turn⟩ := h
  refine wpAny_While (codeAny_whileLoop (fun n s' => ∃ σ' H', Inv X pins σ' H' s' ∧ W n σ' H') ?_ m0 ⟨σ, H, I, w0⟩)
  rintro n s1 ⟨σ1, H1, I1, w1⟩
  refine wpAny_passesOwn hp (thn (hc pins s1 σ1 H1 _ I1 (turn n σ1 H1 w1)) fun b s2 ⟨H2, I2, q2⟩ => ?_)
  cases b with
  | true =>
    obtain ⟨N, hN, q2⟩ := q2
    rw [if_pos rfl]
    refine wpAny_passesOwn hp (thn (hb pins s2 σ1 H2 _ I2 q2) fun f s3 q3 => ?_)
    cases f with
    | next =>
      obtain ⟨σ3, H3, I3, n3⟩ := q3
      obtain ⟨m', hm, w3⟩ := hN σ3 H3 n3
      exact ⟨m', hm, σ3, H3, I3, w3⟩
    | cont =>
      obtain ⟨σ3, H3, I3, n3⟩ := q3
      obtain ⟨m', hm, w3⟩ := hN σ3 H3 n3
      exact ⟨m', hm, σ3, H3, I3, w3⟩
    | brk => exact q3
    | ret v => exact q3
  | false =>
    rw [if_neg Bool.false_ne_true]
    exact wpAny_execs_nil ⟨σ1, H2, I2, q2⟩
end



structure It where
  go : Nat → Hp → Prop
  yld : Nat → Hp → V → Hp → Prop
  stop : Nat → Hp → Prop

def FpOk (X : Cx) (pins : List (Addr × Obj)) (H : Hp) (b : Addr) : Prop :=
  H b = none ∧ b ≠ X.env.locals ∧ b ∉ X.fs ∧ (b ∈ X.ex ∨ X.s₀.heap.objs.size ≤ b) ∧ (∀ x c, X.env.cells.lookup x = some c → c ≠ b) ∧ ∀ p ∈ X.pn ++ pins, p.1 ≠ b
theorem Inv.fpOk {X : Cx} {pins : List (Addr × Obj)} {σ : St} {H H' : Hp} {s : Shared} {b : Addr} (I : Inv X pins σ H s) (hb : s.heap.objs.size ≤ b) (hn : H' b = none) : FpOk X pins H' b := by
  refine ⟨hn, Nat.ne_of_gt (Nat.lt_of_lt_of_le I.lt hb), I.nofs hb, .inr (Nat.le_trans I.sz hb), fun x c e z => ?_, fun p hp z => ?_⟩
  · obtain ⟨v, q⟩ := I.cell x c e
    exact absurd (Nat.lt_of_lt_of_le q.lt (by rw [z]; exact hb)) (Nat.lt_irrefl _)
  · exact absurd (Nat.lt_of_lt_of_le (Heap.lt_size (I.pin p hp).1) (by rw [z]; exact hb)) (Nat.lt_irrefl _)
structure Turn (P : Program) (w : World) (K : PySem.W.Frag) (tg : Expr) (J : It) (fp : List Addr) (it : Addr) (tn : Nat → Heap → Prop) : Prop where
  mem : it ∈ fp
  obj : ∀ i h, tn i h → ∀ b ∈ fp, ∃ o, h.get? b = some o ∧ ∀ v, o.data ≠ .cell v
  keep : ∀ i h h', tn i h → (∀ b ∈ fp, ∀ o, h.get? b = some o → h'.get? b = some o) → tn i h'
  item : ∀ (X : Cx), X.prog = P → X.w = w → X.K = K → X.calm = true → ∀ (i : Nat) (pins : List (Addr × Obj)) (s : Shared) (σ : St) (H : Hp) (E : Value → Shared → Prop), Inv X pins σ H s → (∀ b ∈ fp, FpOk X pins H b) → tn i s.heap → J.go i H →
    wpAny (model P w) X.A (pyNext (.ref it)) (fun r s1 => ∃ u, r = some u ∧
      wpAny (model P w) X.A (letOwnedTupleGo tg (.ref it) u) (fun _ s2 => ∃ x H', Inv X pins σ H' s2 ∧ RelV x u ∧ J.yld i H x H' ∧ tn (i + 1) s2.heap ∧ ∀ b ∈ fp, H' b = none) E s1) E s
  done : ∀ (X : Cx), X.prog = P → X.w = w → X.K = K → X.calm = true → ∀ (i : Nat) (pins : List (Addr × Obj)) (s : Shared) (σ : St) (H : Hp) (E : Value → Shared → Prop), Inv X pins σ H s → (∀ b ∈ fp, FpOk X pins H b) → tn i s.heap → J.stop i H →
    wpAny (model P w) X.A (pyNext (.ref it)) (fun r s1 => r = none ∧ Inv X pins σ H s1) E s
  self : ∀ (A : Around) (i : Nat) (s : Shared) (Q : Value → Shared → Prop) (E : Value → Shared → Prop), tn i s.heap → Q (.ref it) s → wpAny (model P w) A (pyIter (.ref it)) Q E s
abbrev TI := St → Hp → (It → Hp → Prop) → Prop

def PIE (X : Cx) (pins : List (Addr × Obj)) (σ : St) (tg : Expr) (R : It → Hp → Prop) (itv : Value) (s2 : Shared) : Prop :=
  ∃ (it : Addr) (fp : List Addr) (tn : Nat → Heap → Prop) (J : It) (H' : Hp), itv = .ref it ∧ Inv X pins σ H' s2 ∧ Turn X.prog X.w X.K tg J fp it tn ∧ tn 0 s2.heap ∧ (∀ b ∈ fp, FpOk X pins H' b) ∧ R J H'
def PI (X : Cx) (tg iter : Expr) (wi : TI) : Prop :=
  ∀ (pins : List (Addr × Obj)) (s : Shared) (σ : St) (H : Hp) (R : It → Hp → Prop), Inv X pins σ H s → wi σ H R →
    wpAny (model X.prog X.w) X.A (eval iter X.env) (fun v s1 => wpAny (model X.prog X.w) X.A (pyIter v) (PIE X pins σ tg R) X.xe s1) X.xe s


theorem go_of {M : Model} {A : Around} {E : Value → Shared → Prop} {s : Shared} {tg : Expr} {it : Addr} {u : Value} {o : Obj} {n : String} {vs : Array Value} {Q : Unit → Shared → Prop} (ho : s.heap.get? it = some o) (hc : o.cls = .type n) (hd : o.data = .fields vs)
    (hn : ["enumerate", "zip", "dict_itemiterator", "dict_reverseitemiterator", "odict_iterator", "itertools.zip_longest", "itertools.pairwise"].contains n = false) (hQ : Q () s) : wpAny M A (letOwnedTupleGo tg (.ref it) u) Q E s := by
  unfold letOwnedTupleGo
  cases tg <;> first
    | exact wpAny_pure hQ
    | (cases u <;> first
        | exact wpAny_pure hQ
        | (refine wpAny_bind (wpAny_load ho ?_)
           rw [hc, hd]
           show wpAny M A (if (["enumerate", "zip", "dict_itemiterator", "dict_reverseitemiterator", "odict_iterator", "itertools.zip_longest", "itertools.pairwise"].contains n && vs[0]? == some (rawInt _)) = true then _ else _) Q E s
           rw [if_neg (by intro h; rw [hn, Bool.false_and] at h; cases h)]
           exact wpAny_pure hQ))


def Itl (K : PySem.W.Frag) (a : Addr) : It :=
  ⟨fun i H => ∃ xs x, SqL K H a xs ∧ xs[i]? = some x, fun i H x H' => H' = H ∧ ∀ xs, SqL K H a xs → xs[i]? = some x, fun i H => ∃ xs, SqL K H a xs ∧ xs.length ≤ i⟩
def Itt (K : PySem.W.Frag) (a : Addr) : It :=
  ⟨fun i H => ∃ xs x, SqT K H a xs ∧ xs[i]? = some x, fun i H x H' => H' = H ∧ ∀ xs, SqT K H a xs → xs[i]? = some x, fun i H => ∃ xs, SqT K H a xs ∧ xs.length ≤ i⟩

def Itr (lo : Int) (n : Nat) : It := ⟨fun i _ => i < n, fun i H x H' => H' = H ∧ x = .int (lo + i), fun i _ => n ≤ i⟩
theorem turn_list {P : Program} {w : World} {K : PySem.W.Frag} {tg : Expr} (a it : Addr) : Turn P w K tg (Itl K a) [it] it (fun i h => h.IsListIter it a i) where
  mem := by simp
  obj := fun i h st b hb => by
    have e : b = it := by simpa using hb
    subst e
    obtain ⟨o, e, c, d⟩ := st
    exact ⟨o, e, fun v z => by rw [d] at z; cases z⟩
  keep := fun i h h' st k => st.at fun o e => k it (by simp) o e
  item := by
    intro X hP hw hK hc i pins s σ H E I hf st hg
    subst hP hw hK
    obtain ⟨xs, x, hq, hx⟩ := hg
    obtain ⟨its, rv, p, hz⟩ := I.list hq
    obtain ⟨u, hu, ru⟩ := rv.get hx
    obtain ⟨f0, f1, f2, f3, f4, f5⟩ := hf it (by simp)
    refine wpAny_pyNext_list_item st p.isList (x := u) (by simpa using hu) fun h' st' sb => ?_
    have I1 : Inv X pins σ H { s with heap := h' } := I.turned (t' := s.toks) (fun b o hb e => (sb.2 b hb).trans e) f0 f1 f3 f4 f5
    obtain ⟨o, e, c, d⟩ := id st'
    exact ⟨u, rfl, go_of (s := { s with heap := h' }) e c d (by decide) ⟨x, H, I1, ru, ⟨rfl, fun ys hy => by rw [I.list_inj hy hq]; exact hx⟩, st', fun b hb => (hf b hb).1⟩⟩
  done := by
    intro X hP hw hK hc i pins s σ H E I hf st hg
    subst hP hw hK
    obtain ⟨xs, hq, hx⟩ := hg
    obtain ⟨its, rv, p, hz⟩ := I.list hq
    obtain ⟨f0, f1, f2, f3, f4, f5⟩ := hf it (by simp)
    have hl := rv.length
    exact wpAny_pyNext_list_end (I.ok.hd hc) st p.isList (by simp; omega) fun h' eb => ⟨rfl, I.turned (t' := s.toks) (fun b o hb e => eb b o hb e) f0 f1 f3 f4 f5⟩
  self := fun _ _ _ _ _ st h => wpAny_pyIter_listiter st h
theorem turn_tuple {P : Program} {w : World} {K : PySem.W.Frag} {tg : Expr} (a it : Addr) : Turn P w K tg (Itt K a) [it] it (fun i h => h.IsTupleIter it a i) where
  mem := by simp
  obj := fun i h st b hb => by
    have e : b = it := by simpa using hb
    subst e
    obtain ⟨o, e, c, d⟩ := st
    exact ⟨o, e, fun v z => by rw [d] at z; cases z⟩
  keep := fun i h h' st k => st.at fun o e => k it (by simp) o e
  item := by
    intro X hP hw hK hc i pins s σ H E I hf st hg
    subst hP hw hK
    obtain ⟨xs, x, hq, hx⟩ := hg
    obtain ⟨its, rv, p, hz⟩ := I.tuple hq
    obtain ⟨u, hu, ru⟩ := rv.get hx
    obtain ⟨f0, f1, f2, f3, f4, f5⟩ := hf it (by simp)
    refine wpAny_pyNext_tuple_item st (show s.heap.IsTuple a its.toArray from p) (x := u) (by simpa using hu) fun h' st' sb => ?_
    have I1 : Inv X pins σ H { s with heap := h' } := I.turned (t' := s.toks) (fun b o hb e => (sb.2 b hb).trans e) f0 f1 f3 f4 f5
    obtain ⟨o, e, c, d⟩ := id st'
    exact ⟨u, rfl, go_of (s := { s with heap := h' }) e c d (by decide) ⟨x, H, I1, ru, ⟨rfl, fun ys hy => by rw [I.tuple_inj hy hq]; exact hx⟩, st', fun b hb => (hf b hb).1⟩⟩
  done := by
    intro X hP hw hK hc i pins s σ H E I hf st hg
    subst hP hw hK
    obtain ⟨xs, hq, hx⟩ := hg
    obtain ⟨its, rv, p, hz⟩ := I.tuple hq
    obtain ⟨f0, f1, f2, f3, f4, f5⟩ := hf it (by simp)
    have hl := rv.length
    exact wpAny_pyNext_tuple_end (I.ok.hd hc) st (show s.heap.IsTuple a its.toArray from p) (by simp; omega) fun h' eb => ⟨rfl, I.turned (t' := s.toks) (fun b o hb e => eb b o hb e) f0 f1 f3 f4 f5⟩
  self := fun _ _ _ _ _ st h => wpAny_pyIter_tupleiter st h
theorem turn_range {P : Program} {w : World} {K : PySem.W.Frag} {tg : Expr} (it : Addr) (lo : Int) (n : Nat) : Turn P w K tg (Itr lo n) [it] it (fun i h => IsRangeIter h it (lo + (i : Nat) * 1) ((n : Int) - (i : Nat)) 1) where
  mem := by simp
  obj := fun i h st b hb => by
    have e : b = it := by simpa using hb
    subst e
    exact ⟨_, st, fun v z => by
      have z' : Data.fields _ = Data.cell v := z
      cases z'⟩
  keep := fun i h h' st k => k it (by simp) _ st
  item := by
    intro X hP hw hK hc i pins s σ H E I hf st hg
    subst hP hw hK
    obtain ⟨f0, f1, f2, f3, f4, f5⟩ := hf it (by simp)
    have W := Walks.range (prog := X.prog) (w := X.w) (I.ok.hd hc) it lo 1 n
    refine W.item i s _ _ hg st fun v h' tk hv st' kk => ?_
    obtain ⟨t, rfl⟩ := hv
    have I1 : Inv X pins σ H { s with heap := h', toks := tk } := I.turned (fun b o hb e => kk b o (by simpa using hb) e) f0 f1 f3 f4 f5
    refine ⟨_, rfl, go_of (s := { s with heap := h', toks := tk }) (n := "range_iterator") st' rfl rfl (by decide) ⟨.int (lo + i), H, I1, ⟨t, ?_⟩, ⟨rfl, rfl⟩, st', fun b hb => (hf b hb).1⟩⟩
    rw [Int.mul_one]
  done := by
    intro X hP hw hK hc i pins s σ H E I hf st hg
    subst hP hw hK
    obtain ⟨f0, f1, f2, f3, f4, f5⟩ := hf it (by simp)
    exact wpAny_pyNext_range_end (I.ok.hd hc) st (by have : n ≤ i := hg; omega) fun h' eb => ⟨rfl, I.turned (t' := s.toks) (fun b o hb e => eb b o hb e) f0 f1 f3 f4 f5⟩
  self := fun _ _ _ _ _ st h => wpAny_pyIter_rangeiter st h
end L2

namespace L2
open PySem PySem.Spec PyProof.Rows
section
variable {X : Cx} {tg : Expr}
def iList (K : PySem.W.Frag) (tl : TE) : TI := fun σ H R => tl σ H fun x H1 => ∃ a, x = .ref a ∧ (∃ xs, SqL K H1 a xs) ∧ R (Itl K a) H1
def iTup (K : PySem.W.Frag) (tl : TE) : TI := fun σ H R => tl σ H fun x H1 => ∃ a, x = .ref a ∧ (∃ xs, SqT K H1 a xs) ∧ R (Itt K a) H1
theorem pi_list {l : Expr} {tl : TE} (hl : PE X l tl) : PI X tg l (iList X.K tl) := by
  intro pins s σ H R I h
  refine thn (hl pins s σ H _ I h) fun v s1 ⟨x, H1, I1, r1, q1⟩ => ?_
  obtain ⟨a, e, ⟨xs, hq⟩, q⟩ := q1
  subst e
  cases r1
  obtain ⟨its, rv, p, hz⟩ := I1.list hq
  refine wpAny_pyIter_list p.isList ?_
  refine ⟨s1.heap.objs.size, [s1.heap.objs.size], _, _, H1, rfl, I1.kept (t' := s1.toks) fun b o e => Heap.get?_push_of_some _ e, turn_list a _, ⟨_, Heap.get?_push_size _ rfl, rfl, rfl⟩, fun b hb => ?_, q⟩
  have e : b = s1.heap.objs.size := by simpa using hb
  subst e
  exact I1.fpOk (Nat.le_refl _) (I1.hok.fresh (Nat.le_refl _))
theorem pi_tup {l : Expr} {tl : TE} (hl : PE X l tl) : PI X tg l (iTup X.K tl) := by
  intro pins s σ H R I h
  refine thn (hl pins s σ H _ I h) fun v s1 ⟨x, H1, I1, r1, q1⟩ => ?_
  obtain ⟨a, e, ⟨xs, hq⟩, q⟩ := q1
  subst e
  cases r1
  obtain ⟨its, rv, p, hz⟩ := I1.tuple hq
  refine wpAny_pyIter_tuple (show s1.heap.IsTuple a its.toArray from p) ?_
  refine ⟨s1.heap.objs.size, [s1.heap.objs.size], _, _, H1, rfl, I1.kept (t' := s1.toks) fun b o e => Heap.get?_push_of_some _ e, turn_tuple a _, ⟨_, Heap.get?_push_size _ rfl, rfl, rfl⟩, fun b hb => ?_, q⟩
  have e : b = s1.heap.objs.size := by simpa using hb
  subst e
  exact I1.fpOk (Nat.le_refl _) (I1.hok.fresh (Nat.le_refl _))

theorem range_it {pins : List (Addr × Obj)} {σ : St} {H : Hp} {s : Shared} {R : It → Hp → Prop} {E : Value → Shared → Prop} {lo hi : Int} {t u v : Tok} {tk : Nat} (I : Inv X pins σ H s) (h1 : -(2 ^ 62) ≤ lo) (h2 : lo < 2 ^ 62) (h3 : -(2 ^ 62) ≤ hi) (h4 : hi < 2 ^ 62)
    (q : R (Itr lo (hi - lo).toNat) H) : wpAny (model X.prog X.w) X.A (pyIter (.ref s.heap.objs.size)) (PIE X pins σ tg R) E { s with heap := s.heap.push { cls := .type "range", data := .fields #[.int lo t, .int hi u, .int 1 v] }, toks := tk } := by
  refine wpAny_pyIter_range (IsRange.new ..) (small_one h1 h2 h3 h4) ?_
  have I1 : Inv X pins σ H { s with heap := s.heap.push { cls := .type "range", data := .fields #[.int lo t, .int hi u, .int 1 v] }, toks := tk } := I.kept fun b o e => Heap.get?_push_of_some _ e
  refine ⟨(s.heap.push { cls := .type "range", data := .fields #[.int lo t, .int hi u, .int 1 v] }).objs.size, [(s.heap.push { cls := .type "range", data := .fields #[.int lo t, .int hi u, .int 1 v] }).objs.size], _, _, H, rfl,
    I1.kept (t' := tk) fun b o e => Heap.get?_push_of_some _ e, turn_range _ lo (hi - lo).toNat, ?_, fun b hb => ?_, q⟩
  · have e1 : lo + ((0 : Nat) : Int) * 1 = lo := by simp
    have e2 : (((hi - lo).toNat : Nat) : Int) - ((0 : Nat) : Int) = Builtin.Range.rangeSize lo hi 1 := by rw [rangeSize_one]; split <;> omega
    show IsRangeIter _ _ (lo + ((0 : Nat) : Int) * 1) ((((hi - lo).toNat : Nat) : Int) - ((0 : Nat) : Int)) 1
    rw [e1, e2]
    exact Heap.get?_push_size _ rfl
  · have e : b = (s.heap.push { cls := .type "range", data := .fields #[.int lo t, .int hi u, .int 1 v] }).objs.size := by simpa using hb
    subst e
    exact I1.fpOk (Nat.le_refl _) (I1.hok.fresh (Nat.le_refl _))
def iRng1 (ta : TA) : TI := fun σ H R => ta σ H fun vs H1 => ∃ j : Int, vs = [.int j] ∧ -(2 ^ 62) ≤ j ∧ j < 2 ^ 62 ∧ R (Itr 0 j.toNat) H1
def iRng2 (ta : TA) : TI := fun σ H R => ta σ H fun vs H1 => ∃ i j : Int, vs = [.int i, .int j] ∧ (-(2 ^ 62) ≤ i ∧ i < 2 ^ 62 ∧ -(2 ^ 62) ≤ j ∧ j < 2 ^ 62) ∧ R (Itr i (j - i).toNat) H1
theorem pi_range1 {a : Expr} {ta : TA} {p pos : Pos} (hg : Gl X "range") (hm : X.mg "range" = none) (ha : PA X [a] ta) (hs : starEach [a] X.env = [(false, eval a X.env)] := by rfl) : PI X tg (.Call (.Name "range" p) [a] [] pos) (iRng1 ta) := by
  intro pins s σ H R I h
  refine Call_ (ld_blt I hg hm boot_range (PyProof.Rows.callWith_type1 (thn (ha pos pins s σ H _ I h) fun us s1 ⟨vs, H1, I1, r1, q1⟩ => ?_) hs rfl))
  obtain ⟨j, e, q1, q2, q⟩ := q1
  subst e
  cases r1 with
  | cons r rr =>
    cases rr
    obtain ⟨t, rfl⟩ := r
    exact call_range_1 (range_it I1 (by omega) (by omega) q1 q2 (by simpa using q))
theorem pi_range2 {a b : Expr} {ta : TA} {p pos : Pos} (hg : Gl X "range") (hm : X.mg "range" = none) (ha : PA X [a, b] ta) (hs : starEach [a, b] X.env = [(false, eval a X.env), (false, eval b X.env)] := by rfl) (hs2 : starEach [b] X.env = [(false, eval b X.env)] := by rfl) :
    PI X tg (.Call (.Name "range" p) [a, b] [] pos) (iRng2 ta) := by
  intro pins s σ H R I h
  refine Call_ (ld_blt I hg hm boot_range (PyProof.Rows.callWith_type1 (thn (ha pos pins s σ H _ I h) fun us s1 ⟨vs, H1, I1, r1, q1⟩ => ?_) (by rw [hs, hs2]) (by rw [hs2]; rfl)))
  obtain ⟨i, j, e, ⟨q1, q2, q3, q4⟩, q⟩ := q1
  subst e
  cases r1 with
  | cons r rr =>
    cases rr with
    | cons r' rr =>
      cases rr
      obtain ⟨t, rfl⟩ := r
      obtain ⟨t', rfl⟩ := r'
      exact call_range_2 (range_it I1 q1 q2 q3 q4 q)



def tFor (wi : TI) (g : TG) (tb : TS) : TS := fun D σ H => wi σ H fun J H1 => ∃ W : Nat → Nat → St → Hp → Prop, (∃ m, W 0 m σ H1) ∧ ∀ i m σ H, W i m σ H →
  (J.stop i H ∧ D.nx σ H) ∨ (J.go i H ∧ ∃ N : St → Hp → Prop, (∀ σ' H', N σ' H' → ∃ m', m' < m ∧ W (i + 1) m' σ' H') ∧ ∀ x H', J.yld i H x H' → g x σ H' fun σ2 H2 => tb { D with nx := N, ct := N, bk := D.nx } σ2 H2)

def pinsAt (fp : List Addr) (h : Heap) : List (Addr × Obj) := fp.filterMap fun b => (h.get? b).map fun o => (b, o)
theorem mem_pinsAt {fp : List Addr} {h : Heap} {b : Addr} {o : Obj} (hb : b ∈ fp) (e : h.get? b = some o) : (b, o) ∈ pinsAt fp h := List.mem_filterMap.mpr ⟨b, hb, by rw [e]; rfl⟩
theorem of_pinsAt {fp : List Addr} {h : Heap} {p : Addr × Obj} (hp : p ∈ pinsAt fp h) : p.1 ∈ fp ∧ h.get? p.1 = some p.2 := by
  obtain ⟨b, hb, e⟩ := List.mem_filterMap.mp hp
  cases q : h.get? b with
  | none => rw [q] at e; cases e
  | some o =>
    rw [q] at e
    have e' : (b, o) = p := Option.some.inj e
    subst e'
    exact ⟨hb, q⟩
theorem Inv.pinned {pins : List (Addr × Obj)} {σ : St} {H : Hp} {s : Shared} {fp : List Addr} (I : Inv X pins σ H s) (hf : ∀ b ∈ fp, FpOk X pins H b) (ho : ∀ b ∈ fp, ∃ o, s.heap.get? b = some o ∧ ∀ v, o.data ≠ .cell v) : Inv X (pins ++ pinsAt fp s.heap) σ H s :=
  I.pins_of fun p hp => (List.mem_append.mp hp).elim (fun z => I.pin p (List.mem_append_right _ z)) fun z => by
    obtain ⟨hb, e⟩ := of_pinsAt z
    obtain ⟨f0, f1, f2, _⟩ := hf p.1 hb
    obtain ⟨o, e', d⟩ := ho p.1 hb
    rw [e] at e'; cases e'
    exact ⟨e, f0, f1, f2, d⟩
theorem Inv.unpinned {pins pl : List (Addr × Obj)} {σ : St} {H : Hp} {s : Shared} (I : Inv X (pins ++ pl) σ H s) : Inv X pins σ H s := I.pins_of fun p hp => I.pin p (List.mem_append_right _ (List.mem_append_left _ hp))
theorem ps_for {iter : Expr} {body : List Stmt} {wi : TI} {g : TG} {tb : TS} {pos : Pos} (hp : PassesOwn (model X.prog X.w) X.A X.env X.xe) (hc : X.calm = true) (hi : PI X tg iter wi) (hg : PG X tg g) (hb : PSs X body tb)
    (hs : ∀ x, foldedSetIterable iter X.env x = pure x := by intro _; rfl) : PS X (.For tg iter body [] pos) (tFor wi g tb) := by
  intro pins s σ H D I h
  refine wpAny_For (thn (hi pins s σ H _ I h) fun v s1 h1 => thn h1 fun itv s2 h2 => ?_) hs
  obtain ⟨it, fp, tn, J, H2, e, I2, T, st2, f2, W, ⟨m0, w0⟩, turn⟩ := h2
  subst e
  -- what stays true of the iterator's objects through the loop
  have stat : ∀ {H' : Hp}, (∀ b ∈ fp, H' b = none) → ∀ b ∈ fp, FpOk X pins H' b := fun hn b hb => ⟨hn b hb, (f2 b hb).2⟩
  refine codeAny_forLoop_any (fun n s' => ∃ i σ' H', Inv X pins σ' H' s' ∧ tn i s'.heap ∧ (∀ b ∈ fp, H' b = none) ∧ W i n σ' H') ?_ m0 ⟨0, σ, H2, I2, st2, fun b hb => (f2 b hb).1, w0⟩
  rintro n s3 ⟨i, σ3, H3, I3, st3, fr3, w3⟩
  rcases turn i n σ3 H3 w3 with ⟨stop, qn⟩ | ⟨go, N, hN, step⟩
  · refine wpAny_passesOwn hp (thn (T.done X rfl rfl rfl hc i pins s3 σ3 H3 X.xe I3 (stat fr3) st3 stop) fun r s4 ⟨hr, I4⟩ => ?_)
    subst hr
    exact wpAny_execs_nil ⟨σ3, H3, I4, qn⟩
  · refine wpAny_passesOwn hp (thn (T.item X rfl rfl rfl hc i pins s3 σ3 H3 X.xe I3 (stat fr3) st3 go) fun r s4 ⟨u, hr, h4⟩ => ?_)
    subst hr
    refine wpAny_passesOwn hp (thn h4 fun _ s5 ⟨x, H5, I5, r5, y5, st5, fr5⟩ => ?_)
    have I5' := I5.pinned (stat fr5) (T.obj _ _ st5)
    refine wpAny_passesOwn hp (thn (hg _ s5 σ3 H5 x u _ I5' r5 (step x H5 y5)) fun _ s6 ⟨σ6, H6, I6, q6⟩ => ?_)
    refine wpAny_passesOwn hp (thn (hb _ s6 σ6 H6 _ I6 q6) fun f s7 q7 => ?_)
    have again : ∀ {σ7 : St} {H7 : Hp}, Inv X (pins ++ pinsAt fp s5.heap) σ7 H7 s7 → N σ7 H7 → ∃ m, m < n ∧ ∃ i σ' H', Inv X pins σ' H' s7 ∧ tn i s7.heap ∧ (∀ b ∈ fp, H' b = none) ∧ W i m σ' H' := fun {σ7 H7} I7 n7 => by
      obtain ⟨m', hm, w7⟩ := hN σ7 H7 n7
      refine ⟨m', hm, i + 1, σ7, H7, I7.unpinned, T.keep _ _ _ st5 fun b hb o e => (I7.pin (b, o) (List.mem_append_right _ (List.mem_append_right _ (mem_pinsAt hb e)))).1, fun b hb => ?_, w7⟩
      obtain ⟨o, e, d⟩ := T.obj _ _ st5 b hb
      exact (I7.pin (b, o) (List.mem_append_right _ (List.mem_append_right _ (mem_pinsAt hb e)))).2.1
    cases f with
    | next => obtain ⟨σ7, H7, I7, n7⟩ := q7; exact again I7 n7
    | cont => obtain ⟨σ7, H7, I7, n7⟩ := q7; exact again I7 n7
    | brk => obtain ⟨σ7, H7, I7, q7⟩ := q7; exact ⟨σ7, H7, I7.unpinned, q7⟩
    | ret v => obtain ⟨x7, σ7, H7, I7, r7, q7⟩ := q7; exact ⟨x7, σ7, H7, I7.unpinned, r7, q7⟩
end



theorem for_list {K : PySem.W.Frag} {a : Addr} {xs : List V} {g : TG} {tb : TS} {D : Ends} {σ : St} {H : Hp} (Pv : Nat → St → Hp → Prop) (h0 : Pv 0 σ H) (hl : ∀ i σ H, i ≤ xs.length → Pv i σ H → SqL K H a xs)
    (hs : ∀ i x σ H, xs[i]? = some x → Pv i σ H → g x σ H fun σ2 H2 => tb { D with nx := Pv (i + 1), ct := Pv (i + 1), bk := D.nx } σ2 H2) (hd : ∀ σ H, Pv xs.length σ H → D.nx σ H) :
    ∃ W : Nat → Nat → St → Hp → Prop, (∃ m, W 0 m σ H) ∧ ∀ i m σ H, W i m σ H →
      ((Itl K a).stop i H ∧ D.nx σ H) ∨ ((Itl K a).go i H ∧ ∃ N : St → Hp → Prop, (∀ σ' H', N σ' H' → ∃ m', m' < m ∧ W (i + 1) m' σ' H') ∧ ∀ x H', (Itl K a).yld i H x H' → g x σ H' fun σ2 H2 => tb { D with nx := N, ct := N, bk := D.nx } σ2 H2) := by
  refine ⟨fun i m σ H => m = xs.length - i ∧ i ≤ xs.length ∧ Pv i σ H, ⟨xs.length, by simp, Nat.zero_le _, h0⟩, ?_⟩
  rintro i m σ H ⟨rfl, hi, p⟩
  have q := hl i σ H hi p
  by_cases hlt : i < xs.length
  · refine .inr ⟨⟨xs, xs[i], q, by simp [hlt]⟩, Pv (i + 1), fun σ' H' p' => ⟨xs.length - (i + 1), by omega, rfl, hlt, p'⟩, fun x H' y => ?_⟩
    obtain ⟨e, y⟩ := y
    subst e
    exact hs i x σ _ (y xs q) p
  · have e : i = xs.length := by omega
    subst e
    exact .inl ⟨⟨xs, q, Nat.le_refl _⟩, hd σ H p⟩
theorem for_tup {K : PySem.W.Frag} {a : Addr} {xs : List V} {g : TG} {tb : TS} {D : Ends} {σ : St} {H : Hp} (Pv : Nat → St → Hp → Prop) (h0 : Pv 0 σ H) (hl : ∀ i σ H, i ≤ xs.length → Pv i σ H → SqT K H a xs)
    (hs : ∀ i x σ H, xs[i]? = some x → Pv i σ H → g x σ H fun σ2 H2 => tb { D with nx := Pv (i + 1), ct := Pv (i + 1), bk := D.nx } σ2 H2) (hd : ∀ σ H, Pv xs.length σ H → D.nx σ H) :
    ∃ W : Nat → Nat → St → Hp → Prop, (∃ m, W 0 m σ H) ∧ ∀ i m σ H, W i m σ H →
      ((Itt K a).stop i H ∧ D.nx σ H) ∨ ((Itt K a).go i H ∧ ∃ N : St → Hp → Prop, (∀ σ' H', N σ' H' → ∃ m', m' < m ∧ W (i + 1) m' σ' H') ∧ ∀ x H', (Itt K a).yld i H x H' → g x σ H' fun σ2 H2 => tb { D with nx := N, ct := N, bk := D.nx } σ2 H2) := by
  refine ⟨fun i m σ H => m = xs.length - i ∧ i ≤ xs.length ∧ Pv i σ H, ⟨xs.length, by simp, Nat.zero_le _, h0⟩, ?_⟩
  rintro i m σ H ⟨rfl, hi, p⟩
  have q := hl i σ H hi p
  by_cases hlt : i < xs.length
  · refine .inr ⟨⟨xs, xs[i], q, by simp [hlt]⟩, Pv (i + 1), fun σ' H' p' => ⟨xs.length - (i + 1), by omega, rfl, hlt, p'⟩, fun x H' y => ?_⟩
    obtain ⟨e, y⟩ := y
    subst e
    exact hs i x σ _ (y xs q) p
  · have e : i = xs.length := by omega
    subst e
    exact .inl ⟨⟨xs, q, Nat.le_refl _⟩, hd σ H p⟩
theorem for_range {lo : Int} {n : Nat} {g : TG} {tb : TS} {D : Ends} {σ : St} {H : Hp} (Pv : Nat → St → Hp → Prop) (h0 : Pv 0 σ H)
    (hs : ∀ i σ H, i < n → Pv i σ H → g (.int (lo + i)) σ H fun σ2 H2 => tb { D with nx := Pv (i + 1), ct := Pv (i + 1), bk := D.nx } σ2 H2) (hd : ∀ σ H, Pv n σ H → D.nx σ H) :
    ∃ W : Nat → Nat → St → Hp → Prop, (∃ m, W 0 m σ H) ∧ ∀ i m σ H, W i m σ H →
      ((Itr lo n).stop i H ∧ D.nx σ H) ∨ ((Itr lo n).go i H ∧ ∃ N : St → Hp → Prop, (∀ σ' H', N σ' H' → ∃ m', m' < m ∧ W (i + 1) m' σ' H') ∧ ∀ x H', (Itr lo n).yld i H x H' → g x σ H' fun σ2 H2 => tb { D with nx := N, ct := N, bk := D.nx } σ2 H2) := by
  refine ⟨fun i m σ H => m = n - i ∧ i ≤ n ∧ Pv i σ H, ⟨n, by simp, Nat.zero_le _, h0⟩, ?_⟩
  rintro i m σ H ⟨rfl, hi, p⟩
  by_cases hlt : i < n
  · refine .inr ⟨hlt, Pv (i + 1), fun σ' H' p' => ⟨n - (i + 1), by omega, rfl, hlt, p'⟩, fun x H' y => ?_⟩
    obtain ⟨e, y⟩ := y
    subst e y
    exact hs i σ _ hlt p
  · have e : i = n := by omega
    subst e
    exact .inl ⟨Nat.le_refl _, hd σ H p⟩

end L2

namespace L2
open PySem PySem.Spec PyProof.Rows

abbrev R2 := V → V → Hp → VK → Prop

def OpR (X : Cx) (f : Value → Value → Sem Value) (r : R2) : Prop :=
  ∀ (pins : List (Addr × Obj)) (s : Shared) (σ : St) (H : Hp) (x y : V) (v u : Value) (Q : VK), Inv X pins σ H s → RelV x v → RelV y u → r x y H Q →
    wpAny (model X.prog X.w) X.A (f v u) (EP X pins σ Q) X.xe s

def UnR (X : Cx) (f : Value → Sem Value) (r : V → Hp → VK → Prop) : Prop :=
  ∀ (pins : List (Addr × Obj)) (s : Shared) (σ : St) (H : Hp) (x : V) (v : Value) (Q : VK), Inv X pins σ H s → RelV x v → r x H Q →
    wpAny (model X.prog X.w) X.A (f v) (EP X pins σ Q) X.xe s

def CallR (X : Cx) (f : Value) (r : List V → Hp → VK → Prop) : Prop :=
  ∀ (pins : List (Addr × Obj)) (s : Shared) (σ : St) (H : Hp) (xs : List V) (us : List Value) (Q : VK), Inv X pins σ H s → Vals xs us → r xs H Q →
    wpAny (model X.prog X.w) X.A (call f us) (EP X pins σ Q) X.xe s

def tOp (r : R2) (ta tb : TE) : TE := fun σ H Q => ta σ H fun x H1 => tb σ H1 fun y H2 => r x y H2 Q
def tUn (r : V → Hp → VK → Prop) (ta : TE) : TE := fun σ H Q => ta σ H fun x H1 => r x H1 Q

def rI (C : Int → Int → Prop) (g : Int → Int → V) : R2 := fun x y H Q => ∃ i j, x = .int i ∧ y = .int j ∧ C i j ∧ Q (g i j) H
def rI0 (g : Int → Int → V) : R2 := fun x y H Q => ∃ i j, x = .int i ∧ y = .int j ∧ Q (g i j) H
def rU (g : Int → V) : V → Hp → VK → Prop := fun x H Q => ∃ i, x = .int i ∧ Q (g i) H

section
variable {X : Cx} {a b c : Expr} {ta tb tc : TE} {pos : Pos}

theorem binT (ha : PE X a ta) (hb : PE X b tb) {pins : List (Addr × Obj)} {s : Shared} {σ : St} {H : Hp} {R : V → V → Hp → Prop} (I : Inv X pins σ H s)
    (h : ta σ H fun x H1 => tb σ H1 fun y H2 => R x y H2) {Q : Value → Shared → Prop} {f : Value → Value → Sem Value}
    (hf : ∀ v u s2 x y H2, Inv X pins σ H2 s2 → RelV x v → RelV y u → R x y H2 → wpAny (model X.prog X.w) X.A (f v u) Q X.xe s2) :
    wpAny (model X.prog X.w) X.A (eval a X.env) (fun v s₁ => wpAny (model X.prog X.w) X.A (eval b X.env) (fun u s₂ => wpAny (model X.prog X.w) X.A (f v u) Q X.xe s₂) X.xe s₁) X.xe s := by
  refine thn (ha pins s σ H _ I h) fun v s1 ⟨x, H1, I1, r1, q1⟩ => ?_
  refine thn (hb pins s1 σ H1 _ I1 q1) fun u s2 ⟨y, H2, I2, r2, q2⟩ => ?_
  exact hf v u s2 x y H2 I2 r1 r2 q2

theorem pe_op {op : Operator} {r : R2} (ho : OpR X (binaryOp op) r) (ha : PE X a ta) (hb : PE X b tb) : PE X (.BinOp a op b pos) (tOp r ta tb) := by
  intro pins s σ H Q I h
  exact wpAny_BinOp (binT ha hb I h fun v u s2 x y H2 I2 rx ry q => ho pins s2 σ H2 x y v u Q I2 rx ry q)
theorem pe_un {op : UnaryOp} {r : V → Hp → VK → Prop} (ho : UnR X (unaryOp op) r) (ha : PE X a ta) : PE X (.UnaryOp op a pos) (tUn r ta) := by
  intro pins s σ H Q I h
  exact UnaryOp_ (thn (ha pins s σ H _ I h) fun v s1 ⟨x, H1, I1, r1, q1⟩ => ho pins s1 σ H1 x v Q I1 r1 q1)

theorem opI {f : Value → Value → Sem Value} {C : Int → Int → Prop} {g : Int → Int → Int}
    (rule : ∀ (i j : Int) (t u : Tok) (s : Shared) (Q : Value → Shared → Prop) (E : Value → Shared → Prop), C i j → Q (.int (g i j) s.toks) { s with toks := s.toks + 1 } → wpAny (model X.prog X.w) X.A (f (.int i t) (.int j u)) Q E s) :
    OpR X f (rI C fun i j => .int (g i j)) := by
  intro pins s σ H x y v u Q I rx ry h
  obtain ⟨i, j, rfl, rfl, hc, q⟩ := h
  obtain ⟨t, rfl⟩ := rx
  obtain ⟨t', rfl⟩ := ry
  exact rule i j t t' s _ _ hc ⟨.int (g i j), H, I.tok _, ⟨_, rfl⟩, q⟩
theorem opI0 {f : Value → Value → Sem Value} {g : Int → Int → Int}
    (rule : ∀ (i j : Int) (t u : Tok) (s : Shared) (Q : Value → Shared → Prop) (E : Value → Shared → Prop), Q (.int (g i j) s.toks) { s with toks := s.toks + 1 } → wpAny (model X.prog X.w) X.A (f (.int i t) (.int j u)) Q E s) :
    OpR X f (rI0 fun i j => .int (g i j)) := by
  intro pins s σ H x y v u Q I rx ry h
  obtain ⟨i, j, rfl, rfl, q⟩ := h
  obtain ⟨t, rfl⟩ := rx
  obtain ⟨t', rfl⟩ := ry
  exact rule i j t t' s _ _ ⟨.int (g i j), H, I.tok _, ⟨_, rfl⟩, q⟩
theorem opB0 {f : Value → Value → Sem Value} {g : Int → Int → Bool}
    (rule : ∀ (i j : Int) (t u : Tok) (s : Shared) (Q : Value → Shared → Prop) (E : Value → Shared → Prop), Q (.bool (g i j)) s → wpAny (model X.prog X.w) X.A (f (.int i t) (.int j u)) Q E s) :
    OpR X f (rI0 fun i j => .bl (g i j)) := by
  intro pins s σ H x y v u Q I rx ry h
  obtain ⟨i, j, rfl, rfl, q⟩ := h
  obtain ⟨t, rfl⟩ := rx
  obtain ⟨t', rfl⟩ := ry
  exact rule i j t t' s _ _ ⟨.bl (g i j), H, I, rfl, q⟩

def CPow (i j : Int) : Prop := 0 ≤ j ∧ j ≤ 1000000 ∧ i.natAbs < 2 ^ 64
def CMul (i j : Int) : Prop := (-(2 ^ 64) < i ∧ i < 2 ^ 64) ∨ (-(2 ^ 64) < j ∧ j < 2 ^ 64)
theorem CMul.ok {i j : Int} (h : CMul i j) : IntMulOk i j := by
  rcases h with ⟨h1, h2⟩ | ⟨h1, h2⟩
  · exact .of_left (intBits_le_64 h1 h2)
  · exact .of_right (intBits_le_64 h1 h2)
theorem op_add : OpR X (binaryOp .Add) (rI0 fun i j => .int (i + j)) := opI0 fun _ _ _ _ _ _ _ q => add_int q
theorem op_sub : OpR X (binaryOp .Sub) (rI0 fun i j => .int (i - j)) := opI0 fun _ _ _ _ _ _ _ q => sub_int q
theorem op_mod : OpR X (binaryOp .Mod) (rI (fun _ j => 0 < j) fun i j => .int (i % j)) := opI fun i j _ _ _ _ _ hc q => by
  have h1 : (0 : Int) < j := hc
  exact mod_int' (by omega) (by rw [Int.fmod_eq_emod_of_nonneg i (by omega)]; exact q)
theorem op_pow : OpR X (binaryOp .Pow) (rI CPow fun i j => .int (i ^ j.toNat)) := opI fun _ _ _ _ _ _ _ hc q => pow_int_small hc.1 hc.2.1 hc.2.2 q
theorem unI {f : Value → Sem Value} {g : Int → Int}
    (rule : ∀ (i : Int) (t : Tok) (s : Shared) (Q : Value → Shared → Prop) (E : Value → Shared → Prop), Q (.int (g i) s.toks) { s with toks := s.toks + 1 } → wpAny (model X.prog X.w) X.A (f (.int i t)) Q E s) :
    UnR X f (rU fun i => .int (g i)) := by
  intro pins s σ H x v Q I rx h
  obtain ⟨i, rfl, q⟩ := h
  obtain ⟨t, rfl⟩ := rx
  exact rule i t s _ _ ⟨.int (g i), H, I.tok _, ⟨_, rfl⟩, q⟩
theorem un_neg : UnR X (unaryOp .USub) (rU fun i => .int (-i)) := unI fun _ _ _ _ _ q => neg_int q
end



def scal : V → V → Bool
  | .non, .non => true | .non, .int _ => true | .int _, .non => true | .non, .bl _ => true | .bl _, .non => true | .non, .str _ => true | .str _, .non => true
  | .int _, .int _ => true | .bl _, .bl _ => true | .str _, .str _ => true | .byt _, .byt _ => true
  | .int _, .str _ => true | .str _, .int _ => true | .bl _, .str _ => true | .str _, .bl _ => true
  | _, _ => false
def rEq : R2 := fun x y H Q => scal x y = true ∧ Q (.bl (decide (x = y))) H
def rNe : R2 := fun x y H Q => scal x y = true ∧ Q (.bl (!decide (x = y))) H

theorem dec_int {i j : Int} : decide (V.int i = V.int j) = (i == j) := by
  rw [Bool.eq_iff_iff]
  simp
theorem dec_bl {i j : Bool} : decide (V.bl i = V.bl j) = (i == j) := by
  rw [Bool.eq_iff_iff]
  simp
theorem dec_str {i j : Str} : decide (V.str i = V.str j) = (i == j) := by
  rw [Bool.eq_iff_iff]
  simp
theorem dec_byt {i j : Array UInt8} : decide (V.byt i = V.byt j) = (i.toList == j.toList) := by
  rw [Bool.eq_iff_iff]
  cases i
  cases j
  simp

section
variable {X : Cx} {a b c : Expr} {ta tb tc : TE} {pos : Pos}
theorem fin_bl {pins : List (Addr × Obj)} {σ : St} {H : Hp} {s : Shared} {Q : VK} {k k' : Bool} (I : Inv X pins σ H s) (q : Q (.bl k) H) (e : k = k') : EP X pins σ Q (.bool k') s := by
  subst e
  exact ⟨.bl k, H, I, rfl, q⟩
theorem op_eq : OpR X (compareOp .Eq) rEq := by
  intro pins s σ H x y v u Q I rx ry h
  obtain ⟨hs, q⟩ := h
  cases x with
  | non =>
    cases rx
    cases y with
    | non => cases ry; exact PySem.EqNone.eq_none_none (fin_bl I q (by simp))
    | bl j => cases ry; exact PySem.EqNone.eq_none_bool (fin_bl I q (by simp))
    | int j => obtain ⟨t', rfl⟩ := ry; exact PySem.EqNone.eq_none_int (fin_bl I q (by simp))
    | str j => obtain ⟨t', rfl⟩ := ry; exact PySem.EqNone.eq_none_str (fin_bl I q (by simp))
    | _ => exact absurd (show false = true from hs) Bool.false_ne_true
  | bl i =>
    cases rx
    cases y with
    | non => cases ry; exact PySem.EqNone.eq_bool_none (fin_bl I q (by simp))
    | bl j => cases ry; exact eq_bool (fin_bl I q dec_bl)
    | str j => obtain ⟨t', rfl⟩ := ry; exact PySem.EqMixed.eq_bool_str (fin_bl I q (by simp))
    | _ => exact absurd (show false = true from hs) Bool.false_ne_true
  | int i =>
    obtain ⟨t, rfl⟩ := rx
    cases y with
    | non => cases ry; exact PySem.EqNone.eq_int_none (fin_bl I q (by simp))
    | int j => obtain ⟨t', rfl⟩ := ry; exact eq_int (fin_bl I q dec_int)
    | str j => obtain ⟨t', rfl⟩ := ry; exact PySem.EqMixed.eq_int_str (fin_bl I q (by simp))
    | _ => exact absurd (show false = true from hs) Bool.false_ne_true
  | str i =>
    obtain ⟨t, rfl⟩ := rx
    cases y with
    | non => cases ry; exact PySem.EqNone.eq_str_none (fin_bl I q (by simp))
    | bl j => cases ry; exact PySem.EqMixed.eq_str_bool (fin_bl I q (by simp))
    | int j => obtain ⟨t', rfl⟩ := ry; exact PySem.EqMixed.eq_str_int (fin_bl I q (by simp))
    | str j => obtain ⟨t', rfl⟩ := ry; exact eq_str (fin_bl I q dec_str)
    | _ => exact absurd (show false = true from hs) Bool.false_ne_true
  | byt i =>
    obtain ⟨t, rfl⟩ := rx
    cases y with
    | byt j => obtain ⟨t', rfl⟩ := ry; exact PySem.W.eq_bytes (fin_bl I q dec_byt)
    | _ => exact absurd (show false = true from hs) Bool.false_ne_true
  | _ => cases y <;> exact absurd (show false = true from hs) Bool.false_ne_true
theorem op_ne : OpR X (compareOp .NotEq) rNe := by
  intro pins s σ H x y v u Q I rx ry h
  obtain ⟨hs, q⟩ := h
  cases x with
  | non =>
    cases rx
    cases y with
    | non => cases ry; exact PySem.EqNone.ne_none_none (fin_bl I q (by simp))
    | bl j => cases ry; exact PySem.EqNone.ne_none_bool (fin_bl I q (by simp))
    | int j => obtain ⟨t', rfl⟩ := ry; exact PySem.EqNone.ne_none_int (fin_bl I q (by simp))
    | str j => obtain ⟨t', rfl⟩ := ry; exact PySem.EqNone.ne_none_str (fin_bl I q (by simp))
    | _ => exact absurd (show false = true from hs) Bool.false_ne_true
  | bl i =>
    cases rx
    cases y with
    | non => cases ry; exact PySem.EqNone.ne_bool_none (fin_bl I q (by simp))
    | bl j => cases ry; exact ne_bool (fin_bl I q (congrArg not dec_bl))
    | str j => obtain ⟨t', rfl⟩ := ry; exact PySem.EqMixed.ne_bool_str (fin_bl I q (by simp))
    | _ => exact absurd (show false = true from hs) Bool.false_ne_true
  | int i =>
    obtain ⟨t, rfl⟩ := rx
    cases y with
    | non => cases ry; exact PySem.EqNone.ne_int_none (fin_bl I q (by simp))
    | int j => obtain ⟨t', rfl⟩ := ry; exact ne_int (fin_bl I q (congrArg not dec_int))
    | str j => obtain ⟨t', rfl⟩ := ry; exact PySem.EqMixed.ne_int_str (fin_bl I q (by simp))
    | _ => exact absurd (show false = true from hs) Bool.false_ne_true
  | str i =>
    obtain ⟨t, rfl⟩ := rx
    cases y with
    | non => cases ry; exact PySem.EqNone.ne_str_none (fin_bl I q (by simp))
    | bl j => cases ry; exact PySem.EqMixed.ne_str_bool (fin_bl I q (by simp))
    | int j => obtain ⟨t', rfl⟩ := ry; exact PySem.EqMixed.ne_str_int (fin_bl I q (by simp))
    | str j => obtain ⟨t', rfl⟩ := ry; exact ne_str (fin_bl I q (congrArg not dec_str))
    | _ => exact absurd (show false = true from hs) Bool.false_ne_true
  | byt i =>
    obtain ⟨t, rfl⟩ := rx
    cases y with
    | byt j => obtain ⟨t', rfl⟩ := ry; exact PySem.W.ne_bytes (fin_bl I q (congrArg not dec_byt))
    | _ => exact absurd (show false = true from hs) Bool.false_ne_true
  | _ => cases y <;> exact absurd (show false = true from hs) Bool.false_ne_true

theorem op_lt : OpR X (compareOp .Lt) (rI0 fun i j => .bl (decide (i < j))) := opB0 fun _ _ _ _ _ _ _ q => lt_int q
theorem op_le : OpR X (compareOp .LtE) (rI0 fun i j => .bl (decide (i ≤ j))) := opB0 fun _ _ _ _ _ _ _ q => le_int q
theorem op_gt : OpR X (compareOp .Gt) (rI0 fun i j => .bl (decide (j < i))) := opB0 fun _ _ _ _ _ _ _ q => gt_int q
theorem op_ge : OpR X (compareOp .GtE) (rI0 fun i j => .bl (decide (j ≤ i))) := opB0 fun _ _ _ _ _ _ _ q => ge_int q
theorem op_isN : OpR X (compareOp .Is) (fun x y H Q => y = .non ∧ Q (.bl (decide (x = .non))) H) := by
  intro pins s σ H x y v u Q I rx ry h
  obtain ⟨rfl, q⟩ := h
  cases ry
  refine is_none_gen (fin_bl I q ?_)
  cases x <;> first
    | (cases rx; rfl)
    | (obtain ⟨t, rfl⟩ := rx; rfl)
theorem op_notN : OpR X (compareOp .IsNot) (fun x y H Q => y = .non ∧ Q (.bl (!decide (x = .non))) H) := by
  intro pins s σ H x y v u Q I rx ry h
  obtain ⟨rfl, q⟩ := h
  cases ry
  refine isnot_none_gen (fin_bl I q ?_)
  cases x <;> first
    | (cases rx; rfl)
    | (obtain ⟨t, rfl⟩ := rx; rfl)

theorem OpR.or {f : Value → Value → Sem Value} {r r' : R2} (h : OpR X f r) (h' : OpR X f r') : OpR X f (fun x y H Q => r x y H Q ∨ r' x y H Q) := by
  intro pins s σ H x y v u Q I rx ry q
  rcases q with q | q
  · exact h pins s σ H x y v u Q I rx ry q
  · exact h' pins s σ H x y v u Q I rx ry q

theorem nomark (b : Expr) {op : CmpOp} (h : op ≠ .In := by decide) (h2 : op ≠ .NotIn := by decide) : behindInMarks op b = false := by
  have e1 : (op == CmpOp.In) = false := by cases op <;> first | rfl | exact absurd rfl h
  have e2 : (op == CmpOp.NotIn) = false := by cases op <;> first | rfl | exact absurd rfl h2
  cases b <;> simp [behindInMarks, e1, e2]

theorem pe_cmpR {op : CmpOp} {r : R2} (ho : OpR X (compareOp op) r) (ha : PE X a ta) (hb : PE X b tb) (hm : behindInMarks op b = false) : PE X (.Compare a [op] [b] pos) (tOp r ta tb) := by
  intro pins s σ H Q I h
  exact wpAny_Compare1 (binT ha hb I h fun v u s2 x y H2 I2 rx ry q => ho pins s2 σ H2 x y v u Q I2 rx ry q) hm

def tTest (t : TE) : TT := fun σ H Q => t σ H fun x H' => ∃ k, x = .bl k ∧ Q k H'
theorem pt_cmpR {op : CmpOp} {r : R2} (ho : OpR X (compareOp op) r) (ha : PE X a ta) (hb : PE X b tb) (hm : behindInMarks op b = false) : PT X (.Compare a [op] [b] pos) (tTest (tOp r ta tb)) := by
  intro pins s σ H Q I h
  refine wpAny_isTrue_Compare1 (thn (ha pins s σ H _ I h) fun v s1 ⟨x, H1, I1, r1, q1⟩ => thn (hb pins s1 σ H1 _ I1 q1) fun u s2 ⟨y, H2, I2, r2, q2⟩ =>
    thn (ho pins s2 σ H2 x y v u _ I2 r1 r2 q2) fun c s3 ⟨z, H3, I3, r3, k, e, q3⟩ => ?_) hm
  subst e
  cases r3
  exact wpAny_truthy_bool ⟨H3, I3, q3⟩

def tChain (r r' : R2) (ta tb tc : TE) : TE := fun σ H Q => ta σ H fun x H1 => tb σ H1 fun y H2 => r x y H2 fun z H3 => ∃ k, z = .bl k ∧
  (if k = true then tc σ H3 fun w' H4 => r' y w' H4 Q else Q (.bl false) H3)
theorem pt_chain {op op' : CmpOp} {r r' : R2} (ho : OpR X (compareOp op) r) (ho' : OpR X (compareOp op') r') (ha : PE X a ta) (hb : PE X b tb) (hc : PE X c tc)
    (hm : lastMarks [op, op'] [b, c] = false := by with_unfolding_all rfl) : PT X (.Compare a [op, op'] [b, c] pos) (tTest (tChain r r' ta tb tc)) := by
  intro pins s σ H Q I h
  refine isTrue_chain (thn (ha pins s σ H _ I h) fun v s1 ⟨x, H1, I1, r1, q1⟩ => test_link (thn (hb pins s1 σ H1 _ I1 q1) fun u s2 ⟨y, H2, I2, r2, q2⟩ =>
    thn (ho pins s2 σ H2 x y v u _ I2 r1 r2 q2) fun d s3 ⟨z, H3, I3, r3, k, e, q3⟩ => ?_)) hm
  subst e
  cases r3
  refine wpAny_truthy_bool ?_
  cases k with
  | false =>
    obtain ⟨k', e', q'⟩ := q3
    cases e'
    exact ite_ff ⟨H3, I3, q'⟩
  | true =>
    refine ite_tt (test_last (thn (hc pins s3 σ H3 _ I3 q3) fun w' s4 ⟨z', H4, I4, r4, q4⟩ => thn (ho' pins s4 σ H4 y z' u w' _ I4 r2 r4 q4) fun d' s5 ⟨z2, H5, I5, r5, k2, e2, q5⟩ => ?_))
    subst e2
    cases r5
    exact wpAny_truthy_bool ⟨H5, I5, q5⟩



theorem line63 : (sizeLine : Nat) < 2 ^ 63 := by rw [sizeLine_eq]; decide
theorem vals1 {x : V} {us : List Value} (r : Vals [x] us) : ∃ u, us = [u] ∧ RelV x u := by
  cases r with
  | cons r1 r2 => cases r2; exact ⟨_, rfl, r1⟩
theorem vals2 {x y : V} {us : List Value} (r : Vals [x, y] us) : ∃ u w', us = [u, w'] ∧ RelV x u ∧ RelV y w' := by
  cases r with
  | cons r1 r2 =>
    cases r2 with
    | cons r3 r4 => cases r4; exact ⟨_, _, rfl, r1, r3⟩
theorem call_max2 (hc : X.calm = true) : CallR X (.builtin "max") (fun xs H Q => ∃ i j, xs = [.int i, .int j] ∧ Q (.int (if j > i then j else i)) H) := by
  intro pins s σ H xs us Q I r h
  obtain ⟨i, j, rfl, q⟩ := h
  obtain ⟨u, w', rfl, ⟨t, rfl⟩, ⟨t', rfl⟩⟩ := vals2 r
  refine max_two_ints (I.ok.hd hc) fun h' tk k => ⟨_, H, I.kept k, ?_, q⟩
  by_cases hj : j > i
  · rw [if_pos hj, if_pos hj]; exact ⟨_, rfl⟩
  · rw [if_neg hj, if_neg hj]; exact ⟨_, rfl⟩
theorem call_min2 (hc : X.calm = true) : CallR X (.builtin "min") (fun xs H Q => ∃ i j, xs = [.int i, .int j] ∧ Q (.int (if j < i then j else i)) H) := by
  intro pins s σ H xs us Q I r h
  obtain ⟨i, j, rfl, q⟩ := h
  obtain ⟨u, w', rfl, ⟨t, rfl⟩, ⟨t', rfl⟩⟩ := vals2 r
  refine min_two_ints (I.ok.hd hc) fun h' tk k => ⟨_, H, I.kept k, ?_, q⟩
  by_cases hj : j < i
  · rw [if_pos hj, if_pos hj]; exact ⟨_, rfl⟩
  · rw [if_neg hj, if_neg hj]; exact ⟨_, rfl⟩
theorem call_int1 : CallR X (.type "int") (fun xs H Q => (∃ i, xs = [.int i] ∧ Q (.int i) H) ∨ ∃ k, xs = [.bl k] ∧ Q (.int (if k then 1 else 0)) H) := by
  intro pins s σ H xs us Q I r h
  rcases h with ⟨i, rfl, q⟩ | ⟨k, rfl, q⟩
  · obtain ⟨u, rfl, t, rfl⟩ := vals1 r
    exact call_int_int ⟨.int i, H, I, ⟨_, rfl⟩, q⟩
  · obtain ⟨u, rfl, r1⟩ := vals1 r
    cases r1
    exact call_int_bool ⟨.int (if k then 1 else 0), H, I.tok _, ⟨_, rfl⟩, q⟩
end
end L2

namespace L2
open PySem PySem.Spec PyProof.Rows


structure ObjM (h : Heap) (x dx C : Addr) (mA : Str → Option Value) : Prop where
  obj : h.get? x = some (PySem.W.instObj C dx)
  ns : h.Ns1 dx mA
  ne : dx ≠ x

theorem lookIn_ns {h : Heap} {dx : Addr} {mA : Str → Option Value} (n : h.Ns1 dx mA) : ∃ od, h.get? dx = some od ∧ ∀ name, PySem.W.lookIn name od = some (mA name) := by
  obtain ⟨o, es, ep, ho, hd, hk, _, hm⟩ := n
  refine ⟨o, ho, fun name => ?_⟩
  have e := hm name
  unfold nsFind findBy at e
  rw [← Array.find?_toList] at e
  unfold PySem.W.lookIn
  rw [hd]
  dsimp only
  split
  · rename_i y q
    rw [q] at e
    exact congrArg some e
  · rename_i q
    rw [q] at e
    have a : es.toList.any (·.refKey) = false := by
      rw [List.any_eq_false]
      intro y hy
      obtain ⟨z, t, hkey⟩ := hk y (Array.mem_toList_iff.mp hy)
      simp [DictEntry.refKey, hkey]
    have a' : ¬ es.toList.any (·.refKey) = true := by rw [a]; exact Bool.false_ne_true
    rw [if_neg a']
    exact congrArg some e

theorem ObjM.look {h : Heap} {x dx C : Addr} {mA : Str → Option Value} (I : ObjM h x dx C mA) : ∃ od, PySem.W.InstAt h x (PySem.W.instObj C dx) C (some od) ∧ ∀ name, PySem.W.lookIn name od = some (mA name) :=
  let ⟨od, ho, hl⟩ := lookIn_ns I.ns
  ⟨od, ⟨I.obj, rfl, rfl, ho⟩, hl⟩

section
variable {prog : Program} {w : World} {A : Around} {E : Value → Shared → Prop} {s : Shared} {K : PySem.W.Frag} {x dx C f : Addr} {mA : Str → Option Value} {name : Str} {v : Value}

end


section
variable {P : Program} {w : World} {H H' : Hp} {h h' : Heap} {a C dx : Addr} {fs fs' : List (Str × V)}
theorem ins_get (hok : HOk P w H h) (e : H a = some (.ins C dx fs)) : ∃ mA, ObjM h a dx C mA ∧ (∀ f, RelO (fs.lookup f) (mA f)) ∧ PySem.Within mA (fs.map (·.1)) ∧ fs.length ≤ 1000 ∧ H dx = some (.own a) := by
  obtain ⟨d, z, ne, ob, mA, n, r, q⟩ := (show ObjOk P w H h a (.ins C dx fs) from hok a _ e)
  exact ⟨mA, ⟨ob, n, ne⟩, r, q, z, d⟩
end


structure Cls (K : PySem.W.Frag) (C : Addr) : Prop where
  pg : PySem.W.plainGet K C Str.empty = true
  hd : PySem.W.hasDictIn K C = true
  po : PySem.W.plainOver K C = true
  sa : PySem.W.findIn K (.ref C) "__setattr__" = some (some (.builtin "object.__setattr__"))
theorem Cls.get {K : PySem.W.Frag} {C : Addr} (c : Cls K C) (f : Str) : PySem.W.plainGet K C f = true := c.pg

structure Con (K : PySem.W.Frag) (C : Addr) (f : Str) (v : V) (u : Value) : Prop where
  at_ : PySem.W.findIn K (.ref C) f = some (some u)
  rel : RelV v u
  get : PySem.W.specialIn K u "__get__" = some none
  cp : PySem.W.copiedNames.contains f = false

structure Meth (K : PySem.W.Frag) (C : Addr) (m : Str) (f : Addr) : Prop where
  at_ : PySem.W.findIn K (.ref C) m = some (some (.ref f))
  fn : PySem.W.isFn K (.ref f) = true
  kp : PySem.W.keepIn K (.ref f) = true

section
variable {X : Cx} {pins : List (Addr × Obj)} {σ : St} {H : Hp} {s : Shared} {a C dx : Addr} {fs : List (Str × V)} {f : Str} {v : V} {A : Around} {E : Value → Shared → Prop}

end



section
variable {X : Cx} {o e value : Expr} {f : Str} {pos pos' tpos : Pos} {ta tv : TE}
end


section
variable {X : Cx} {pins : List (Addr × Obj)} {σ : St} {H : Hp} {s : Shared} {A : Around} {E : Value → Shared → Prop} {Q : Value → Shared → Prop} {c : Value} {b : Bool}

inductive TyOf (K : PySem.W.Frag) (H : Hp) : V → Value → Prop where
  | non : TyOf K H .non (.type "NoneType")
  | bl (x : Bool) : TyOf K H (.bl x) (.type "bool")
  | int (i : Int) : TyOf K H (.int i) (.type "int")
  | str (x : Str) : TyOf K H (.str x) (.type "str")
  | flt (x : UInt64) : TyOf K H (.flt x) (.type "float")
  | lst {a : Addr} {xs : List V} (e : H a = some (.lst xs)) : TyOf K H (.ref a) (.type "list")
  | frz {a : Addr} {o : Obj} {xs : List V} (e : H a = some (.frz o (.lst xs))) : TyOf K H (.ref a) (.type "list")
  | tup {a : Addr} {xs : List V} (e : H a = some (.tup xs)) : TyOf K H (.ref a) (.type "tuple")
  | dK {a : Addr} {kvs : List (Key × V)} (e : H a = some (.dK kvs)) : TyOf K H (.ref a) (.type "dict")
  | dT {a : Addr} {kvs : List (List Key × V)} (e : H a = some (.dT kvs)) : TyOf K H (.ref a) (.type "dict")
  | ins {a C dx : Addr} {fs : List (Str × V)} (e : H a = some (.ins C dx fs)) (cl : Cls K C) (ha : PySem.W.findIn K (.ref C) "__class__" = some (some (.builtin "object.__class__")))
      (hn : PySem.W.specialIn K (.builtin "object.__class__") "__get__" = some (some (.builtin "getset_descriptor.__get__"))) (htk : PySem.W.takesIn K (.builtin "object.__class__") = some true)
      (hm : PySem.W.mroIn K C (.type "object") = some true) : TyOf K H (.ref a) (.ref C)

theorem isinst_ok {x : V} {u t : Value} (I : Inv X pins σ H s) (rx : RelV x u) (ty : TyOf X.K H x t) (e : PySem.W.kitOne X.K t c = some b) (h : ∀ tk, Q (.bool b) { s with toks := tk }) :
    wpAny (model X.prog X.w) A (call (.builtin "isinstance") [u, c]) Q E s := by
  cases ty with
  | non => cases (show u = Value.none from rx); exact PySem.W.kia_one PySem.W.kitx_none I.kIn True.intro e (fun z => nomatch z) h
  | bl y => cases (show u = Value.bool y from rx); exact PySem.W.kia_one PySem.W.kitx_bool I.kIn True.intro e (fun z => nomatch z) h
  | int i => obtain ⟨t, q⟩ := (show ∃ t, u = Value.int i t from rx); cases q; exact PySem.W.kia_one PySem.W.kitx_int I.kIn True.intro e (fun z => nomatch z) h
  | str y => obtain ⟨t, q⟩ := (show ∃ t, u = Value.str y t from rx); cases q; exact PySem.W.kia_one PySem.W.kitx_str I.kIn True.intro e (fun z => nomatch z) h
  | flt y => obtain ⟨t, q⟩ := (show ∃ t, u = Value.float y t from rx); cases q; exact PySem.W.kia_one PySem.W.kitx_float I.kIn True.intro e (fun z => nomatch z) h
  | @lst a xs ea =>
    cases (show u = Value.ref a from rx)
    obtain ⟨_, _, n, _, h1⟩ := (show ObjOk X.prog X.w H s.heap a (.lst xs) from I.hok a _ ea)
    exact PySem.W.kia_one PySem.W.kitx_list I.kIn ⟨_, h1, rfl⟩ e (fun z => nomatch z) h
  | @frz a ob xs ea =>
    cases (show u = Value.ref a from rx)
    obtain ⟨_, _, _, n, _, h1⟩ := (show ObjOk X.prog X.w H s.heap a (.frz ob (.lst xs)) from I.hok a _ ea)
    exact PySem.W.kia_one PySem.W.kitx_list I.kIn ⟨_, h1, rfl⟩ e (fun z => nomatch z) h
  | @tup a xs ea =>
    cases (show u = Value.ref a from rx)
    obtain ⟨_, _, _, p⟩ := (show ObjOk X.prog X.w H s.heap a (.tup xs) from I.hok a _ ea)
    obtain ⟨o, h1, h2, _⟩ := p
    exact PySem.W.kia_one PySem.W.kitx_tuple I.kIn ⟨o, h1, h2⟩ e (fun z => nomatch z) h
  | @dK a kvs ea =>
    cases (show u = Value.ref a from rx)
    obtain ⟨_, _, vs, _, p⟩ := (show ObjOk X.prog X.w H s.heap a (.dK kvs) from I.hok a _ ea)
    obtain ⟨o, es, ep, h1, h2, _⟩ := p
    exact PySem.W.kia_one PySem.W.kitx_dict I.kIn ⟨o, h1, h2.1⟩ e (fun z => nomatch z) h
  | @dT a kvs ea =>
    cases (show u = Value.ref a from rx)
    obtain ⟨_, _, xs, _, o, es, ep, h1, h2, _⟩ := (show ObjOk X.prog X.w H s.heap a (.dT kvs) from I.hok a _ ea)
    exact PySem.W.kia_one PySem.W.kitx_dict I.kIn ⟨o, h1, h2.1⟩ e (fun z => nomatch z) h
  | @ins a C dx fs ea cl ha hn htk hm =>
    cases (show u = Value.ref a from rx)
    obtain ⟨mA, O, _⟩ := ins_get I.hok ea
    obtain ⟨od, J, _⟩ := O.look
    exact PySem.W.kia_one (PySem.W.kitx_own (cl.get _) cl.hd ha hn htk hm) I.kIn J e (fun z => nomatch z) h
end
end L2

namespace L2
open PySem PySem.Spec PyProof.Rows


structure Room (k : Nat) (A : Around) : Prop where
  hd : A.handled = none
  dp : A.depth + 3 * k + 5 < recursionLimit
  un : A.units + 16 * k + 200 < cLine
theorem Room.mono {j k : Nat} {A : Around} (r : Room k A) (h : j ≤ k) : Room j A := ⟨r.hd, by have := r.dp; omega, by have := r.un; omega⟩
theorem Room.deeper {k : Nat} {A : Around} (r : Room (k + 1) A) (env : Env) : Room k (A.deeper env) :=
  ⟨r.hd, by have := r.dp; show A.depth + 1 + 3 * k + 5 < _; omega, by have := r.un; show A.units + 3 + 16 * k + 200 < _; omega⟩
theorem Room.in1 {k : Nat} {A : Around} (r : Room (k + 1) A) : Room k A.in1 :=
  ⟨r.hd, by have := r.dp; show A.depth + 3 * k + 5 < _; omega, by have := r.un; show A.units + 1 + 16 * k + 200 < _; omega⟩
theorem Room.depth {k : Nat} {A : Around} (r : Room k A) : A.depth < recursionLimit := by have := r.dp; omega
theorem Room.units {k : Nat} {A : Around} (r : Room k A) : A.units + 64 < cLine := by have := r.un; omega
def tNil : TA := fun _ H Q => Q [] H
def tCons (ta : TE) (tr : TA) : TA := fun σ H Q => ta σ H fun x H1 => tr σ H1 fun xs H2 => Q (x :: xs) H2
section
variable {X : Cx} {e : Expr} {es : List Expr} {te : TE} {t : TA} {pos : Pos}
theorem pa_nil : PA X [] tNil := fun _ _ _ _ H Q I h => Calls.spliced_nil ⟨[], H, I, .nil, h⟩
theorem pa_cons (ha : PE X e te) (hr : PA X es t) (hs : starEach (e :: es) X.env = (false, eval e X.env) :: starEach es X.env := by rfl) : PA X (e :: es) (tCons te t) := by
  intro pos pins s σ H Q I h
  rw [hs]
  show wpAny _ _ (spliced ((false, eval e X.env) :: backTo pos (starEach es X.env))) _ _ s
  refine Calls.spliced_cons (thn (ha pins s σ H _ I h) fun u s1 ⟨x, H1, I1, r1, q1⟩ => ?_)
  exact thn (hr pos pins s1 σ H1 _ I1 q1) fun us s2 ⟨xs, H2, I2, r2, q2⟩ => ⟨x :: xs, H2, I2, .cons r1 r2, q2⟩


def tTup (t : TA) : TE := fun σ H Q => t σ H fun xs H1 => xs.length ≤ sizeLine ∧ ∀ p, H1 p = none → Q (.ref p) (upd H1 p (.tup xs))
def tLst (t : TA) : TE := fun σ H Q => t σ H fun xs H1 => xs.length ≤ sizeLine ∧ ∀ p, H1 p = none → Q (.ref p) (upd H1 p (.lst xs))
theorem pe_tup {x1} (h : PA X es t) : PE X (.Tuple es x1 pos) (tTup t) := by
  intro pins s σ H Q I hq
  refine wpAny_Tuple_spliced (thn (h pos pins s σ H _ I hq) fun us s1 ⟨xs, H1, I1, r, z, q⟩ => ⟨by rw [← r.length]; exact z, ?_⟩)
  have hf : H1 s1.heap.objs.size = none := I1.hok.fresh (Nat.le_refl _)
  refine ⟨.ref s1.heap.objs.size, upd H1 s1.heap.objs.size (.tup xs), I1.laid (t' := s1.toks) (fun b u e => Heap.get?_push_of_some _ e) (Nat.le_refl _) ?_, rfl, q _ hf⟩
  exact ⟨z, us, r, ⟨_, Heap.get?_push_size _ rfl, rfl, _, rfl⟩⟩
theorem pe_lst (h : PA X es t) : PE X (.List es pos) (tLst t) := by
  intro pins s σ H Q I hq
  refine wpAny_List_spliced (thn (h pos pins s σ H _ I hq) fun us s1 ⟨xs, H1, I1, r, z, q⟩ => ⟨by rw [← r.length]; exact z, ?_⟩)
  have hf : H1 s1.heap.objs.size = none := I1.hok.fresh (Nat.le_refl _)
  refine ⟨.ref s1.heap.objs.size, upd H1 s1.heap.objs.size (.lst xs), I1.laid (t' := s1.toks) (fun b u e => Heap.get?_push_of_some _ e) (Nat.le_refl _) ?_, rfl, q _ hf⟩
  exact ⟨z, us, 0, r, Heap.get?_push_size _ rfl⟩
end



abbrev Sp := List V → Hp → VK → XK → Prop

abbrev CXT := List Env → Hp → Shared → XK → Value → Shared → Prop


structure Env0 (P : Program) (w : World) (K : PySem.W.Frag) (mg : Str → Option Value) (base : Heap) (A : Around) (outer : List Env) (s : Shared) (H : Hp) : Prop where
  frames : A.frames = some outer
  mod : Mod K mg base
  bs : ∀ b o, base.get? b = some o → s.heap.get? b = some o ∧ H b = none
  bsz : base.objs.size ≤ s.heap.objs.size
  funs : s.heap.FunFrames base outer
  frf : ∀ b ∈ frs outer, H b = none
  hok : HOk P w H s.heap
  bare : AllBare s.gens

def CE (outer : List Env) (P : Program) (w : World) (H : Hp) (s : Shared) (Q : VK) (u : Value) (s' : Shared) : Prop :=
  ∃ v H', s'.os = s.os ∧ AllBare s'.gens ∧ Un (frs outer) [] H H' s.heap s'.heap ∧ HOk P w H' s'.heap ∧ RelV v u ∧ Q v H'
def CR (CX : CXT) (outer : List Env) (P : Program) (w : World) (H : Hp) (s : Shared) (Q : VK) (E : XK) (r : Result) (s' : Shared) : Prop :=
  match r with
  | .ok (.ret u) => CE outer P w H s Q u s'
  | .ok _ => False
  | .error e => CX outer H s E e s'
structure FnOk (P : Program) (w : World) (K : PySem.W.Frag) (mg : Str → Option Value) (base : Heap) (CX : CXT) (k : Nat) (f : Addr) (fd : FuncData) (ps : List Str) (sp : Sp) : Prop where
  len : ∀ vs H Q E, sp vs H Q E → vs.length = ps.length
  run : ∀ (A : Around) (outer : List Env) (s : Shared) (H : Hp) (args : Args) (us : List Value) (vs : List V) (Q : VK) (E : XK), Room k A → Env0 P w K mg base A outer s H → BindsTo s fd args (ps.zip us) → Vals vs us → sp vs H Q E →
    codeAny (model P w) A (.call (.ref f) args) (CR CX outer P w H s Q E) s
theorem FnOk.mono {P : Program} {w : World} {K : PySem.W.Frag} {mg : Str → Option Value} {base : Heap} {CX : CXT} {j k : Nat} {f : Addr} {fd : FuncData} {ps : List Str} {sp : Sp} (F : FnOk P w K mg base CX j f fd ps sp) (h : j ≤ k) :
    FnOk P w K mg base CX k f fd ps sp := ⟨F.len, fun A outer s H args us vs Q E hr => F.run A outer s H args us vs Q E (hr.mono h)⟩

theorem FnOk.imp {P : Program} {w : World} {K : PySem.W.Frag} {mg : Str → Option Value} {base : Heap} {CX : CXT} {k : Nat} {f : Addr} {fd : FuncData} {ps : List Str} {sp sp' : Sp} (F : FnOk P w K mg base CX k f fd ps sp)
    (h : ∀ vs H Q E, sp' vs H Q E → sp vs H Q E) : FnOk P w K mg base CX k f fd ps sp' :=
  ⟨fun vs H Q E q => F.len vs H Q E (h _ _ _ _ q), fun A outer s H args us vs Q E hr he hb hv hs => F.run A outer s H args us vs Q E hr he hb hv (h _ _ _ _ hs)⟩

theorem Env0.in1 {P : Program} {w : World} {K : PySem.W.Frag} {mg : Str → Option Value} {base : Heap} {A : Around} {outer : List Env} {s : Shared} {H : Hp} (e : Env0 P w K mg base A outer s H) :
    Env0 P w K mg base A.in1 outer s H := ⟨e.frames, e.mod, e.bs, e.bsz, e.funs, e.frf, e.hok, e.bare⟩

section
variable {X : Cx} {pins : List (Addr × Obj)} {σ : St} {H : Hp} {s s' : Shared}

theorem Inv.env0 (I : Inv X pins σ H s) : Env0 X.prog X.w X.K X.mg X.base X.A X.stack s H :=
  ⟨I.ok.frames, I.ok.mod, I.bs, Nat.le_trans I.ok.bsz I.sz, I.stack, I.stkFree, I.hok, I.bare⟩

theorem Inv.after {Q : VK} {u : Value} (I : Inv X pins σ H s) (h : CE X.stack X.prog X.w H s Q u s') : EP X pins σ Q u s' := by
  obtain ⟨v, H', os, bare, un, hok, r, q⟩ := h
  obtain ⟨hh, g, d, t, os'⟩ := s'
  obtain rfl : os' = s.os := os
  exact ⟨v, H', I.call (h' := hh) (g' := g) (d' := d) (t' := t) (ch := []) un hok bare (fun b z => absurd z (by simp)), r, q⟩
end



def tCall (sp : Sp) (dvs : List V) (E : XK) (t : TA) : TE := fun σ H Q => t σ H fun vs H1 => sp (vs ++ dvs) H1 Q E

def Binds (K : PySem.W.Frag) (fd : FuncData) (ps : List Str) (ds : List Value) : Prop :=
  ∀ (s : Shared) (us : List Value), K.In s.heap → (us ++ ds).length = ps.length → BindsTo s fd ⟨us, []⟩ (ps.zip (us ++ ds))

theorem Binds.all {K : PySem.W.Frag} {fd : FuncData} {ps : List Str} (h : ∀ us : List Value, us.length = ps.length → bindArgs fd ⟨us, []⟩ = pure (ps.zip us)) : Binds K fd ps [] := fun s us _ hl => by
  rw [List.append_nil] at hl ⊢
  exact .of_eq (h us hl)


def Passes (CX : CXT) (X : Cx) (E : XK) : Prop := ∀ (pins : List (Addr × Obj)) (σ : St) (H : Hp) (s : Shared) (e : Value) (s' : Shared), Inv X pins σ H s → CX X.stack H s E e s' → X.xe e s'

section
variable {X : Cx} {CX : CXT} {k : Nat} {f C : Addr} {fd : FuncData} {ps : List Str} {sp : Sp} {dvs : List V} {ds : List Value} {E : XK} {x m : Str} {p pos apos : Pos} {e o : Expr} {es : List Expr} {ta : TE} {t : TA}


theorem run_fn {pins : List (Addr × Obj)} {σ : St} {H : Hp} {s : Shared} {Q : VK} {us : List Value} {vs : List V} (F : FnOk X.prog X.w X.K X.mg X.base CX k f fd ps sp) (hr : Room k X.A) (hb : Binds X.K fd ps ds) (hd : Vals dvs ds) (hx : Passes CX X E)
    (I : Inv X pins σ H s) (r : Vals vs us) (h : sp (vs ++ dvs) H Q E) : wpAny (model X.prog X.w) X.A (call (.ref f) us) (EP X pins σ Q) X.xe s := by
  have r2 : Vals (vs ++ dvs) (us ++ ds) := r.append hd
  have hl : (us ++ ds).length = ps.length := by rw [← r2.length]; exact F.len _ _ _ _ h
  refine wpAny_call (codeAny_mono (F.run X.A X.stack s H ⟨us, []⟩ (us ++ ds) (vs ++ dvs) Q E hr I.env0 (hb s us I.kIn hl) r2 h) fun r s' hq => ?_)
  cases r with
  | error e => exact hx pins σ H s e s' I hq
  | ok fl =>
    cases fl with
    | ret u => exact I.after hq
    | next => exact False.elim hq
    | brk => exact False.elim hq
    | cont => exact False.elim hq

theorem pe_call (F : FnOk X.prog X.w X.K X.mg X.base CX k f fd ps sp) (hr : Room k X.A) (hg : Gl X x) (hm : X.mg x = some (.ref f)) (hk : PySem.W.keepIn X.K (.ref f) = true) (hb : Binds X.K fd ps ds) (hd : Vals dvs ds) (hx : Passes CX X E)
    (ha : PA X (e :: es) t) (hdb : (x == ("__debug__" : Str)) = false := by decide) (he : starEach (e :: es) X.env = (false, eval e X.env) :: starEach es X.env := by rfl) (hpl : (backTo pos (starEach es X.env)).any (·.1) = false := by rfl) :
    PE X (.Call (.Name x p) (e :: es) [] pos) (tCall sp dvs E t) := by
  intro pins s σ H Q I h
  refine wpAny_Call_Name_kw (ld_glob I hg hm ?_ hdb)
  refine PySem.W.callWith_K (h₀ := X.base) I.ok.mod.kin hk (thn (ha pos pins s σ H _ I h) fun us s1 ⟨vs, H1, I1, r, q⟩ => ⟨I1.kIn, ?_⟩) he hpl
  exact run_fn F hr hb hd hx I1 r q
structure Mk (K : PySem.W.Frag) (C f : Addr) : Prop where
  makes : PySem.W.makesIn K C = true
  init : PySem.W.findIn K (.ref C) "__init__" = some (some (.ref f))
  fn : PySem.W.isFn K (.ref f) = true
  kp : PySem.W.keepIn K (.ref C) = true

end



def PK (X : Cx) (kws : List Keyword) (t : TA) : Prop :=
  ∀ (pos : Pos) (pins : List (Addr × Obj)) (s : Shared) (σ : St) (H : Hp) (Q : List V → Hp → Prop), Inv X pins σ H s → t σ H Q → wpAny (model X.prog X.w) X.A (evalAll ((backToKw pos (keywordEach kws X.env)).map (·.2))) (AP X pins σ Q) X.xe s
section
variable {X : Cx} {CX : CXT} {k : Nat} {f C : Addr} {fd : FuncData} {ps ks : List Str} {sp : Sp} {E : XK} {x m : Str} {p pos apos kpos : Pos} {e o : Expr} {es : List Expr} {kws : List Keyword} {te ta : TE} {t tk : TA} {nm : Option Str}
theorem pk_nil : PK X [] tNil := fun _ _ _ _ H Q I h => wpAny_evalAll_nil ⟨[], H, I, .nil, h⟩
theorem pk_cons (ha : PE X e te) (hr : PK X kws t) : PK X (⟨nm, e, kpos⟩ :: kws) (tCons te t) := by
  intro pos pins s σ H Q I h
  show wpAny _ _ (evalAll ((do let v ← eval e X.env; standAt pos; pure v) :: (backToKw pos (keywordEach kws X.env)).map (·.2))) _ _ s
  refine wpAny_evalAll_cons (wpAny_bind (thn (ha pins s σ H _ I h) fun u s1 ⟨x, H1, I1, r1, q1⟩ => wpAny_bind (wpAny_standAt (wpAny_pure ?_))))
  exact thn (hr pos pins s1 σ H1 _ I1 q1) fun us s2 ⟨xs, H2, I2, r2, q2⟩ => ⟨x :: xs, H2, I2, .cons r1 r2, q2⟩


structure KBinds (K : PySem.W.Frag) (fd : FuncData) (ps ks : List Str) (g : List Value → List Value → List Value) (gV : List V → List V → List V) : Prop where
  to : ∀ (s : Shared) (us ws : List Value), K.In s.heap → (g us ws).length = ps.length → BindsTo s fd ⟨us, ks.zip ws⟩ (ps.zip (g us ws))
  rel : ∀ {vs : List V} {us : List Value} {zs : List V} {ws : List Value}, Vals vs us → Vals zs ws → Vals (gV vs zs) (g us ws)
variable {g : List Value → List Value → List Value} {gV : List V → List V → List V}
end



structure FnScope (N P : List Str) (sc : Scope) : Prop where
  kind : sc.kind = .function
  co : sc.isCoroutine = false
  gen : sc.isGenerator = false
  nd : N.Nodup
  pre : N.take P.length = P
  par : ∀ x ∈ P, sc.names.lookup x = some .local ∨ sc.names.lookup x = some .cell
  nofree : ∀ y ∈ sc.names, y.2 ≠ .free

theorem bindL_out {kindOf : Str → Option NameKind} {x : Str} : ∀ {binds : List (Str × Value)} {m : Str → Option Value}, (∀ v, (x, v) ∉ binds) → bindL kindOf binds m x = m x
  | [], _, _ => rfl
  | (n, v) :: r, m, h => by
    unfold bindL
    rw [bindL_out fun w hw => h w (List.mem_cons_of_mem _ hw)]
    split
    · have : x ≠ n := by rintro rfl; exact h v List.mem_cons_self
      simp [this]
    · rfl
theorem bindC_out {kindOf : Str → Option NameKind} {x : Str} : ∀ {binds : List (Str × Value)} {m : Str → Option Value}, (∀ v, (x, v) ∉ binds) → bindC kindOf binds m x = m x
  | [], _, _ => rfl
  | (n, v) :: r, m, h => by
    unfold bindC
    rw [bindC_out fun w hw => h w (List.mem_cons_of_mem _ hw)]
    split
    · rfl
    · have : x ≠ n := by rintro rfl; exact h v List.mem_cons_self
      simp [this]
theorem bindL_get {kindOf : Str → Option NameKind} {x : Str} {v : Value} : ∀ {P : List Str} {vs : List Value} {i : Nat} {m : Str → Option Value}, P.Nodup → P[i]? = some x → vs[i]? = some v → kindOf x = some .local →
    bindL kindOf (P.zip vs) m x = some v
  | [], _, _, _, _, h, _, _ => by simp at h
  | _ :: _, [], _, _, _, _, h, _ => by simp at h
  | p :: P, w :: vs, 0, m, nd, h1, h2, hk => by
    simp at h1 h2; subst h1; subst h2
    show bindL kindOf ((p, w) :: P.zip vs) m p = _
    unfold bindL
    rw [bindL_out fun v hv => (List.nodup_cons.mp nd).1 (List.of_mem_zip hv).1, if_pos hk]
    simp
  | p :: P, w :: vs, i + 1, m, nd, h1, h2, hk => by
    show bindL kindOf ((p, w) :: P.zip vs) m x = _
    unfold bindL
    exact bindL_get (i := i) (List.nodup_cons.mp nd).2 (by simpa using h1) (by simpa using h2) hk
theorem bindC_get {kindOf : Str → Option NameKind} {x : Str} {v : Value} : ∀ {P : List Str} {vs : List Value} {i : Nat} {m : Str → Option Value}, P.Nodup → P[i]? = some x → vs[i]? = some v → kindOf x ≠ some .local →
    bindC kindOf (P.zip vs) m x = some v
  | [], _, _, _, _, h, _, _ => by simp at h
  | _ :: _, [], _, _, _, _, h, _ => by simp at h
  | p :: P, w :: vs, 0, m, nd, h1, h2, hk => by
    simp at h1 h2; subst h1; subst h2
    show bindC kindOf ((p, w) :: P.zip vs) m p = _
    unfold bindC
    rw [bindC_out fun v hv => (List.nodup_cons.mp nd).1 (List.of_mem_zip hv).1, if_neg hk]
    simp
  | p :: P, w :: vs, i + 1, m, nd, h1, h2, hk => by
    show bindC kindOf ((p, w) :: P.zip vs) m x = _
    unfold bindC
    exact bindC_get (i := i) (List.nodup_cons.mp nd).2 (by simpa using h1) (by simpa using h2) hk


def start (N : List Str) (vs : List V) : St := vs.map some ++ List.replicate (N.length - vs.length) none


def cxOf (CX : CXT) (P : Program) (w : World) (K : PySem.W.Frag) (mg : Str → Option Value) (base : Heap) (N : List Str) (qual : Str) (scope : Scope) (f : Addr) (cd : Value) (A : Around) (outer : List Env) (s : Shared) (H : Hp) (E : XK) : Cx where
  prog := P
  w := w
  K := K
  mg := mg
  base := base
  A := A.deeper (envOfC qual scope s.heap.objs.size f cd)
  N := N
  s₀ := s
  H₀ := H
  env := envOfC qual scope s.heap.objs.size f cd
  outer := outer
  stack := envOfC qual scope s.heap.objs.size f cd :: outer
  ex := []
  calm := true
  fn := fun _ => true
  pn := []
  xe := fun e s' => wpAny (model P w) (A.deeper (envOfC qual scope s.heap.objs.size f cd)) (leaving (envOfC qual scope s.heap.objs.size f cd) e) (fun _ s'' => CX outer H s E e s'') (fun e' s'' => CX outer H s E e' s'') s'

theorem cell_has {sc : Scope} {n : Nat} {x : Str} (h : sc.names.lookup x = some .cell) : ∃ c, (cellsFrom n sc.names []).lookup x = some c := by
  have q := PySem.W.cellsFrom_some sc.names n [] (.inl h)
  exact Option.isSome_iff_exists.mp q

theorem inv_start {CX : CXT} {P : Program} {w : World} {K : PySem.W.Frag} {mg : Str → Option Value} {base : Heap} {N ps : List Str} {qual : Str} {scope : Scope} {f : Addr} {cd : Value} {A : Around} {outer : List Env} {s s1 : Shared} {H : Hp} {E : XK} {us : List Value} {vs : List V}
    (S : FnScope N ps scope) (hd : A.handled = none) (e0 : Env0 P w K mg base A outer s H) (hl : vs.length = ps.length) (r : Vals vs us)
    (x : InCallC s s.heap.objs.size (bindL (envOfC qual scope s.heap.objs.size f cd).kindOf (ps.zip us) fun _ => none) (cellsFrom (s.heap.objs.size + 1) scope.names []) (bindC (envOfC qual scope s.heap.objs.size f cd).kindOf (ps.zip us) fun _ => none) s1) :
    Inv (cxOf CX P w K mg base N qual scope f cd A outer s H E) [] (start N vs) H s1 := by
  have hpl : ps.length ≤ N.length := by have := congrArg List.length S.pre; rw [List.length_take] at this; omega
  obtain ⟨h1, tk, rfl, hk⟩ := x.done
  have noA : ∀ b : Addr, b ∉ (cxOf CX P w K mg base N qual scope f cd A outer s H E).ex := fun b z => absurd (show b ∈ ([] : List Addr) from z) (by simp)
  refine ⟨⟨e0.mod, S.kind, rfl, rfl, Nat.le_refl _, fun y z c h1 h2 => ?_, fun y hy => ?_, fun y c _ h => ?_, fun _ => hd, Around.frames_deeper e0.frames, .inr ⟨rfl, rfl⟩, fun b z => absurd z (noA b), e0.bs, e0.bsz, fun b _ _ => noA b, fun b z => absurd z (noA b), e0.funs, e0.frf⟩,
    rfl, e0.bare, Un.kept hk, ⟨_, x.toInCall.ns, fun i y v h1 h2 h3 => ?_⟩, fun y c h => ⟨_, x.cell y c h⟩, e0.hok.fresh (Nat.le_refl _), fun y c h => ?_, fun p hp => absurd (show p ∈ ([] : List (Addr × Obj)) from hp) (by simp), e0.hok.kept hk, ?_⟩
  · exact name_of_addr x.apart (PySem.mem_of_lookup h1) (PySem.mem_of_lookup h2)
  · have hy : scope.names.lookup y = some .cell ∨ scope.names.lookup y = some .free := hy
    rcases hy with hy | hy
    · exact cell_has hy
    · exact absurd rfl (S.nofree _ (PySem.mem_of_lookup hy))
  · exact Nat.le_of_lt (x.above y c (PySem.mem_of_lookup h))
  · have hi : i < vs.length := by
      unfold start at h2
      by_cases hi : i < vs.length
      · exact hi
      · rw [List.getElem?_append_right (by simpa using hi)] at h2
        rw [List.getElem?_replicate] at h2
        split at h2 <;> cases h2
    have ha : vs[i]? = some v := by
      unfold start at h2
      rw [List.getElem?_append_left (by simpa using hi), List.getElem?_map] at h2
      cases e : vs[i]? with
      | none => rw [e] at h2; cases h2
      | some a => rw [e] at h2; cases h2; rfl
    obtain ⟨u, hu, rv⟩ := r.get ha
    have hp : ps[i]? = some y := by
      rw [← S.pre, List.getElem?_take_of_lt (by omega)]; exact h1
    have ndP : ps.Nodup := by rw [← S.pre]; exact S.nd.sublist (List.take_sublist _ _)
    refine ⟨u, rv, ?_⟩
    rcases S.par y (List.mem_of_getElem? hp) with k | k
    · exact .inl ⟨k, bindL_get ndP hp hu k⟩
    · obtain ⟨c, e⟩ := cell_has (n := s.heap.objs.size + 1) k
      refine .inr ⟨.inl k, c, e, ?_⟩
      have q := x.cell y c e
      rw [bindC_get ndP hp hu (by show scope.names.lookup y ≠ _; rw [k]; decide)] at q
      exact q
  · exact e0.hok.fresh (Nat.le_of_lt (x.above y c (PySem.mem_of_lookup h)))
  · unfold start
    show _ = N.length
    rw [List.length_append, List.length_map, List.length_replicate]
    omega


theorem fn_of {CX : CXT} {P : Program} {w : World} {K : PySem.W.Frag} {mg : Str → Option Value} {base : Heap} {k : Nat} {f : Addr} {name qual : Str} {params : Arguments} {body : List Stmt} {scope : Scope} {dV kV doc pm cdv ct oc : Value} {an od : Option Addr}
    {osl : Array (Option Value)} {N ps : List Str} {sp : Sp} (lk : K.lookup f = some ⟨oc, od, .func (PySem.W.fnOf name qual params body scope dV kV doc pm an cdv ct), osl⟩) (hcd : PySem.W.codeIn K cdv qual = true) (S : FnScope N ps scope)
    (len : ∀ vs H Q E, sp vs H Q E → vs.length = ps.length)
    (hbody : ∀ (A : Around) (outer : List Env) (s : Shared) (H : Hp) (vs : List V) (Q : VK) (E : XK), Room k (A.deeper (envOfC qual scope s.heap.objs.size f cdv)) → sp vs H Q E →
      ∃ t, PSs (cxOf CX P w K mg base N qual scope f cdv A outer s H E) body t ∧ t { nx := fun _ H' => Q .non H', rt := Q } (start N vs) H) :
    FnOk P w K mg base CX (k + 1) f (PySem.W.fnOf name qual params body scope dV kV doc pm an cdv ct) ps sp := by
  refine ⟨len, fun A outer s H args us vs Q E hr e0 hb r hsp => ?_⟩
  have hl := len _ _ _ _ hsp
  have KX : K.In s.heap := e0.mod.kin.keeps fun b o e => (e0.bs b o e).1
  have lim : s.heap.NoLimit := e0.mod.nolimit.keeps fun b o e => (e0.bs b o e).1
  have hkind : ∀ y ∈ ps.zip us, scope.names.lookup y.1 = some .local ∨ (scope.names.lookup y.1 = some .cell ∧ ((cellsFrom (s.heap.objs.size + 1) scope.names []).lookup y.1).isSome = true) := fun ⟨n, v⟩ hy => by
    rcases S.par n (List.of_mem_zip hy).1 with q | q
    · exact .inl q
    · exact .inr ⟨q, PySem.W.cellsFrom_some _ _ _ (.inl q)⟩
  refine codeAny_call_function hr.depth (KX _ _ lk) rfl S.co S.gen rfl (PySem.W.codeRec_of KX hcd) (hb _ _ _ _ ?_)
  refine wpAny_newFunctionEnv_cells S.kind hkind fun env he s1 x => ?_
  subst he
  refine ⟨lim.keeps x.toInCall.keep, codeAny_func ?_⟩
  obtain ⟨t, ht, hq⟩ := hbody A outer s H vs Q E (hr.deeper _) hsp
  have I : Inv (cxOf CX P w K mg base N qual scope f cdv A outer s H E) [] (start N vs) H s1 := inv_start S hr.hd e0 hl r x
  refine wpAny_mono (ht [] s1 (start N vs) H _ I hq) (fun fl s' hs => ?_) fun e s' hs => hs
  have fin : ∀ {σ' : St} {H' : Hp} {v : V} {u : Value}, Inv (cxOf CX P w K mg base N qual scope f cdv A outer s H E) [] σ' H' s' → RelV v u → Q v H' → CE outer P w H s Q u s' :=
    fun {σ' H' v u} J rv q => ⟨v, H', J.os, J.bare, J.base, J.hok, rv, q⟩
  cases fl with
  | ret u =>
    obtain ⟨v, σ', H', J, rv, q⟩ := hs
    exact fin J rv q
  | next =>
    obtain ⟨σ', H', J, q⟩ := hs
    exact fin (v := V.non) (u := Value.none) J rfl q
  | brk =>
    obtain ⟨_, _, _, q⟩ := hs
    exact False.elim q
  | cont =>
    obtain ⟨_, _, _, q⟩ := hs
    exact False.elim q
end L2

namespace L2
open PySem PySem.Spec PyProof.Rows
section
variable {X : Cx} {x : Str} {p pos : Pos} {e : Expr} {es : List Expr} {t : TA} {id T : String} {r : List V → Hp → VK → Prop}

def tCB (r : List V → Hp → VK → Prop) (t : TA) : TE := fun σ H Q => t σ H fun vs H1 => r vs H1 Q

theorem pe_callB (hc : CallR X (.builtin id) r) (hg : Gl X x) (hm : X.mg x = none) (hv : bootBuiltins x = some (.builtin id)) (ha : PA X (e :: es) t) (hn : x ≠ "__name__" := by decide) (hdb : (x == ("__debug__" : Str)) = false := by decide)
    (he : starEach (e :: es) X.env = (false, eval e X.env) :: starEach es X.env := by rfl) (hpl : (backTo pos (starEach es X.env)).any (·.1) = false := by rfl) : PE X (.Call (.Name x p) (e :: es) [] pos) (tCB r t) := by
  intro pins s σ H Q I h
  refine wpAny_Call_Name_kw (ld_blt I hg hm hv ?_ hn hdb)
  exact PyProof.Rows.callWith_builtin1 (thn (ha pos pins s σ H _ I h) fun us s1 ⟨vs, H1, I1, r1, q1⟩ => hc pins s1 σ H1 vs us Q I1 r1 q1) he hpl

theorem pe_callTy (hc : CallR X (.type T) r) (hg : Gl X x) (hm : X.mg x = none) (hv : bootBuiltins x = some (.type T)) (ha : PA X (e :: es) t) (hn : x ≠ "__name__" := by decide) (hdb : (x == ("__debug__" : Str)) = false := by decide)
    (he : starEach (e :: es) X.env = (false, eval e X.env) :: starEach es X.env := by rfl) (hpl : (backTo pos (starEach es X.env)).any (·.1) = false := by rfl) : PE X (.Call (.Name x p) (e :: es) [] pos) (tCB r t) := by
  intro pins s σ H Q I h
  refine wpAny_Call_Name_kw (ld_blt I hg hm hv ?_ hn hdb)
  exact PyProof.Rows.callWith_type1 (thn (ha pos pins s σ H _ I h) fun us s1 ⟨vs, H1, I1, r1, q1⟩ => hc pins s1 σ H1 vs us Q I1 r1 q1) he hpl

end
end L2

namespace HT
open PySem PyProof.Rows


def lexLt : List Int → List Int → Bool
  | [], [] => false
  | [], _ :: _ => true
  | _ :: _, [] => false
  | x :: xs, y :: ys => if x = y then lexLt xs ys else decide (x < y)
theorem lexLt_cons (x y : Int) (xs ys : List Int) : lexLt (x :: xs) (y :: ys) = if x = y then lexLt xs ys else decide (x < y) := rfl
theorem lexLt_nil_nil : lexLt [] [] = false := rfl
theorem lexLt_nil_cons (y : Int) (ys : List Int) : lexLt [] (y :: ys) = true := rfl
theorem lexLt_cons_nil (x : Int) (xs : List Int) : lexLt (x :: xs) [] = false := rfl

theorem eqAt_int (A : Around) (s : Shared) (a : Int) (t : Tok) (c : Int) (u : Tok) : ∃ e, SeqAt.EqAt A s (.int a t) (.int c u) e ∧ (e = true ↔ a = c) :=
  ⟨(a == c), SeqAt.EqAt.int_int a t c u, by simp⟩
theorem rcLt_int (A : Around) (s : Shared) (a : Int) (t : Tok) (c : Int) (u : Tok) (prog : Program) (w : World) (E : Value → Shared → Prop) (Q : Value → Shared → Prop) (h : Q (.bool (decide (a < c))) s) :
    wpAny (model prog w) A (richCompare .Lt (.int a t) (.int c u)) Q E s :=
  (PyProof.Rows.lt_int h : wpAny (model prog w) A (compareOp .Lt (.int a t) (.int c u)) Q E s)

section
open PySem.SeqAt
open PySem.AutoSeq1 (wpAny_loadPart')
open PySem.MeetsSeq PySem.MeetsSeq2 PySem.MeetsSeq3

theorem tuple_lt_ints (l b : Addr) (items items2 : Array Value) (n n2 : Nat) (dd dd2 : Option Addr) (sl sl2 : Array (Option Value)) (ns ms : List Int) (hi : IntsAre items.toList ns) (hj : IntsAre items2.toList ms) :
    Meets (Builtin.«tuple.__lt__» ⟨[.ref l, .ref b], []⟩)
      (fun _ R s => s.heap.get? l = some { cls := .type "tuple", dict := dd, data := .seq items n, slots := sl } ∧ s.heap.get? b = some { cls := .type "tuple", dict := dd2, data := .seq items2 n2, slots := sl2 } ∧
        R (.ok (.ret (.bool (lexLt ns ms)))) s) :=
  .of_wp fun prog w A R s h => by
    obtain ⟨hp, g, d, tk, os⟩ := s; obtain ⟨hl, hb, h⟩ := h
    have f2 := AutoSeq1.sub_tuple_tuple
    have z1 : items.size = ns.length := by rw [← hi.length]; simp
    have z2 : items2.size = ms.length := by rw [← hj.length]; simp
    wp_walk using wpAny_loadPart' hl, wpAny_loadPart' hb, wpAny_forIn_list _ (fun rest b s' => b.1 = none ∧ s' = ⟨hp, g, d, tk, os⟩ ∧ ∃ (vs ws : List Value) (ns' ms' : List Int), rest = vs.zip ws ∧
      IntsAre vs ns' ∧ IntsAre ws ms' ∧ ns'.length + items2.size = ms'.length + items.size ∧ R (.ok (.ret (.bool (lexLt ns' ms')))) ⟨hp, g, d, tk, os⟩) _
    case turn =>
      rintro ⟨y, x⟩ rest b s' ⟨hb', rfl, vs, ws, ns', ms', hz, hvi, hwi, hlen, hR⟩
      cases hvi with
      | nil => rw [List.zip_nil_left] at hz; cases hz
      | cons a t hvi' =>
        cases hwi with
        | nil => rw [List.zip_nil_right] at hz; cases hz
        | cons c u hwi' =>
          rw [List.zip_cons_cons] at hz
          injection hz with hyx hrest
          injection hyx with hy hx
          subst hy hx
          rw [lexLt_cons] at hR
          simp only [List.length_cons] at hlen
          obtain ⟨e, he, hiff⟩ := eqAt_int A.in1 ⟨hp, g, d, tk, os⟩ a t c u
          refine wpAny_bind (he prog w _ _ ?_)
          cases e with
          | true =>
            rw [if_pos (hiff.mp rfl)] at hR
            wp_walk
            exact ⟨rfl, rfl, _, _, _, _, hrest, hvi', hwi', by omega, hR⟩
          | false =>
            rw [if_neg (fun q => absurd (hiff.mpr q) Bool.false_ne_true)] at hR
            have hri := rcLt_int A.in1 ⟨hp, g, d, tk, os⟩ a t c u prog w
            wp_walk using hri
            exact ⟨_, rfl, by simpa using hR⟩
    case fin =>
      rintro ⟨b1, b2⟩ s' ⟨hb', rfl, vs, ws, ns', ms', hz, hvi, hwi, hlen, hR⟩
      simp only at hb'
      subst hb'
      have hv : lexLt ns' ms' = decide (items.size < items2.size) := by
        cases hvi with
        | nil =>
          cases hwi with
          | nil =>
            simp only [List.length_nil] at hlen
            rw [lexLt_nil_nil]
            exact (decide_eq_false (by omega)).symm
          | cons c u hw =>
            simp only [List.length_nil, List.length_cons] at hlen
            rw [lexLt_nil_cons]
            exact (decide_eq_true (by omega)).symm
        | cons a t hv =>
          cases hwi with
          | nil =>
            simp only [List.length_nil, List.length_cons] at hlen
            rw [lexLt_cons_nil]
            exact (decide_eq_false (by omega)).symm
          | cons c u hw =>
            rw [List.zip_cons_cons] at hz
            cases hz
      rw [hv] at hR
      wp_walk
      exact ⟨_, rfl, by simpa [Builtin.Tuple.tupleCompareSizes] using hR⟩
    case h =>
      exact ⟨rfl, rfl, items.toList, items2.toList, ns, ms, rfl, hi, hj, by omega, h⟩
end

section
variable {prog : Program} {w : World} {A : Around} {E : Value → Shared → Prop} {s : Shared}

theorem lt_tupInts {l b : Addr} {items items2 : Array Value} {ns ms : List Int} {Q : Value → Shared → Prop} (hl : IsTup s.heap l items) (hb : IsTup s.heap b items2) (hi : IntsAre items.toList ns) (hj : IntsAre items2.toList ms)
    (hu : A.units < cLine) (h : Q (.bool (lexLt ns ms)) s) : wpAny (model prog w) A (compareOp .Lt (.ref l) (.ref b)) Q E s := by
  obtain ⟨⟨cls, dd, data, sl⟩, ho, hc, n, hd⟩ := id hl
  obtain ⟨⟨cls2, dd2, data2, sl2⟩, ho2, hc2, n2, hd2⟩ := id hb
  simp only at hc hd hc2 hd2
  subst hc hd hc2 hd2
  exact richCompare_meets_room (op := .Lt) ⟨_, ho, rfl⟩ ⟨_, ho2, rfl⟩ PySem.F.slot_tuple_lt PySem.F.entry_tuple_lt (PySem.F.args_tuple_lt_2 _ _) (tuple_lt_ints l b items items2 n n2 dd dd2 sl sl2 ns ms hi hj)
    ⟨ho, ho2, show Value.bool (lexLt ns ms) ≠ Value.notImplemented ∧ Q (.bool (lexLt ns ms)) s from ⟨(fun x => nomatch x), h⟩⟩ hu


def sIx (n d : Nat) : Option Int → Nat
  | none => d
  | some v => if v < 0 then (v + (n : Int)).toNat else min v.toNat n
theorem sIx_nat (n d k : Nat) : sIx n d (some (k : Int)) = min k n := by
  show (if (k : Int) < 0 then ((k : Int) + (n : Int)).toNat else min (k : Int).toNat n) = min k n
  rw [if_neg (by omega), Int.toNat_natCast]
end
end HT

namespace L2
open PySem PySem.Spec PyProof.Rows


abbrev TO := St → Hp → (Option Int → Hp → Prop) → Prop

def PO (X : Cx) (e : Option Expr) (t : TO) : Prop :=
  ∀ (pins : List (Addr × Obj)) (s : Shared) (σ : St) (H : Hp) (Q : Option Int → Hp → Prop), Inv X pins σ H s → t σ H Q →
    wpAny (model X.prog X.w) X.A (evalPart e X.env) (fun u s' => ∃ o H', Inv X pins σ H' s' ∧ IsPart u o ∧ Q o H') X.xe s
def tNoPart : TO := fun _ H Q => Q none H
def tPart (t : TE) : TO := fun σ H Q => t σ H fun x H1 => ∃ i, x = .int i ∧ Q (some i) H1

theorem intsAre_of {ns : List Int} : ∀ {us : List Value}, Vals (ns.map V.int) us → IntsAre us ns := by
  induction ns with
  | nil => intro us r; rw [List.map_nil] at r; cases r; exact .nil
  | cons n ns ih =>
    intro us r
    rw [List.map_cons] at r
    cases r with
    | cons r1 r2 =>
      obtain ⟨t, e⟩ := r1
      subst e
      exact .cons n t (ih r2)

section
variable {X : Cx} {e : Expr} {te : TE} {lo hi : Option Expr} {tl th : TO} {pos p2 : Pos}

theorem po_none : PO X none tNoPart := by
  intro pins s σ H Q I h
  rw [evalPart_none]
  exact wpAny_pure ⟨none, H, I, .none, h⟩
theorem po_some (h : PE X e te) : PO X (some e) (tPart te) := by
  intro pins s σ H Q I hw
  rw [evalPart_some]
  refine thn (h pins s σ H _ I hw) fun u s1 ⟨x, H1, I1, r1, q1⟩ => ?_
  obtain ⟨i, rfl, q⟩ := q1
  obtain ⟨t, rfl⟩ := r1
  exact ⟨some i, H1, I1, .int i t, q⟩


def SlR (X : Cx) (r : V → Option Int → Option Int → Hp → VK → Prop) : Prop :=
  ∀ (pins : List (Addr × Obj)) (s : Shared) (σ : St) (H : Hp) (x : V) (v vl vu : Value) (lo hi : Option Int) (sl : Addr) (Q : VK), Inv X pins σ H s → RelV x v → s.heap.IsSliceOf sl vl vu .none → IsPart vl lo → IsPart vu hi → r x lo hi H Q →
    ∃ T id, typeLookup (.type T) "__getitem__" = pure (some (.builtin id)) ∧ s.TypeIs v T ∧ wpAny (model X.prog X.w) X.A (getItem v (.ref sl)) (EP X pins σ Q) X.xe s
theorem SlR.or {r r' : V → Option Int → Option Int → Hp → VK → Prop} (h : SlR X r) (h' : SlR X r') : SlR X (fun x lo hi H Q => r x lo hi H Q ∨ r' x lo hi H Q) := by
  intro pins s σ H x v vl vu lo hi sl Q I rx hs pl pu q
  rcases q with q | q
  · exact h pins s σ H x v vl vu lo hi sl Q I rx hs pl pu q
  · exact h' pins s σ H x v vl vu lo hi sl Q I rx hs pl pu q
def tSl (r : V → Option Int → Option Int → Hp → VK → Prop) (te : TE) (tl th : TO) : TE := fun σ H Q => te σ H fun x H1 => tl σ H1 fun l H2 => th σ H2 fun u H3 => r x l u H3 Q

theorem pe_slice {r : V → Option Int → Option Int → Hp → VK → Prop} (hr : SlR X r) (he : PE X e te) (hl : PO X lo tl) (hu : PO X hi th) : PE X (.Subscript e (.Slice lo hi none p2) pos) (tSl r te tl th) := by
  intro pins s σ H Q I h
  refine Subscript_ (thn (he pins s σ H _ I h) fun v s1 ⟨x, H1, I1, r1, q1⟩ => ?_)
  refine wpAny_Slice (thn (hl pins s1 σ H1 _ I1 q1) fun vl s2 ⟨l, H2, I2, pl, q2⟩ => thn (hu pins s2 σ H2 _ I2 q2) fun vu s3 ⟨u, H3, I3, pu, q3⟩ => ?_)
  rw [evalPart_none]
  refine wpAny_pure ?_
  have I4 : Inv X pins σ H3 { s3 with heap := s3.heap.push { cls := .type "slice", data := .fields #[vl, vu, .none] } } := I3.kept (t' := s3.toks) fun b ob q => Heap.get?_push_of_some _ q
  obtain ⟨T, id, hT, ht, hg⟩ := hr pins { s3 with heap := s3.heap.push { cls := .type "slice", data := .fields #[vl, vu, .none] } } σ H3 x v vl vu l u s3.heap.objs.size Q I4 r1 (Heap.IsSliceOf.new ..) pl pu q3
  show wpAny (model X.prog X.w) X.A (subscriptTail e (.Slice lo hi none p2) v (.ref s3.heap.objs.size)) (EP X pins σ Q) X.xe { s3 with heap := s3.heap.push { cls := .type "slice", data := .fields #[vl, vu, .none] } }
  exact tail_any (ops := [.ref s3.heap.objs.size, v]) ht hT hg (by with_unfolding_all rfl)


def cutV (xs : List V) (lo hi : Option Int) : List V := (xs.drop (HT.sIx xs.length 0 lo)).take (HT.sIx xs.length xs.length hi - HT.sIx xs.length 0 lo)
theorem cutV_length (xs : List V) (lo hi : Option Int) : (cutV xs lo hi).length ≤ xs.length := by
  unfold cutV
  rw [List.length_take, List.length_drop]
  omega

def rLtT (K : PySem.W.Frag) : R2 := fun x y H Q => ∃ a b ns ms, x = .ref a ∧ y = .ref b ∧ SqT K H a (ns.map V.int) ∧ SqT K H b (ms.map V.int) ∧ Q (.bl (HT.lexLt ns ms)) H
theorem op_ltT (hu : X.A.units < cLine) : OpR X (compareOp .Lt) (rLtT X.K) := by
  intro pins s σ H x y v u Q I rx ry h
  obtain ⟨a, b, ns, ms, rfl, rfl, ha, hb, q⟩ := h
  cases rx
  cases ry
  obtain ⟨its, r1, p1, _⟩ := I.tuple ha
  obtain ⟨its2, r2, p2, _⟩ := I.tuple hb
  have i1 : IntsAre its.toArray.toList ns := intsAre_of r1
  have i2 : IntsAre its2.toArray.toList ms := intsAre_of r2
  exact HT.lt_tupInts p1 p2 i1 i2 hu ⟨.bl (HT.lexLt ns ms), H, I, rfl, q⟩

end
end L2

namespace L2
open PySem PySem.Spec PyProof.Rows



def ixN (n : Nat) (i : Int) : Option Nat := if 0 ≤ i then (if i < n then some i.toNat else none) else if -(n : Int) ≤ i then some (i + n).toNat else none
def atI {α : Type} (xs : List α) (i : Int) : Option α := (ixN xs.length i).bind fun j => xs[j]?
theorem ixN_seq {n : Nat} {i : Int} {j : Nat} (h : ixN n i = some j) : seqIndex? i n = some j ∧ j < n ∧ -(n : Int) ≤ i ∧ i < n := by
  unfold ixN at h
  by_cases h0 : 0 ≤ i
  · rw [if_pos h0] at h
    by_cases h1 : i < n
    · rw [if_pos h1] at h
      have e : i.toNat = j := Option.some.inj h
      exact ⟨by rw [seqIndex_of h0 h1, e], by omega, by omega, h1⟩
    · rw [if_neg h1] at h; cases h
  · rw [if_neg h0] at h
    by_cases h1 : -(n : Int) ≤ i
    · rw [if_pos h1] at h
      have e : (i + n).toNat = j := Option.some.inj h
      exact ⟨by rw [seqIndex_neg (by omega) h1, e], by omega, h1, by omega⟩
    · rw [if_neg h1] at h; cases h
theorem atI_get {α : Type} {xs : List α} {i : Int} {v : α} (h : atI xs i = some v) : ∃ j, seqIndex? i xs.length = some j ∧ xs[j]? = some v ∧ j < xs.length ∧ -(xs.length : Int) ≤ i ∧ i < xs.length := by
  unfold atI at h
  cases e : ixN xs.length i with
  | none => rw [e] at h; cases h
  | some j =>
    rw [e] at h
    obtain ⟨h1, h2, h3, h4⟩ := ixN_seq e
    exact ⟨j, h1, h, h2, h3, h4⟩
def PlainIx (b : Expr) : Prop := ∀ o i, subscripted b false o i = operate [o, i] (getItem o i)

def IxR (X : Cx) (r : R2) : Prop :=
  ∀ (value slice : Expr) (pins : List (Addr × Obj)) (s : Shared) (σ : St) (H : Hp) (x y : V) (v u : Value) (Q : VK), Inv X pins σ H s → RelV x v → RelV y u → r x y H Q →
    subscripted slice false v u = operate [v, u] (getItem v u) → wpAny (model X.prog X.w) X.A (subscriptTail value slice v u) (EP X pins σ Q) X.xe s

def MtR (X : Cx) (id : String) (r : V → List V → Hp → VK → Prop) : Prop :=
  ∀ (pins : List (Addr × Obj)) (s : Shared) (σ : St) (H : Hp) (x : V) (xs : List V) (v : Value) (us : List Value) (Q : VK), Inv X pins σ H s → RelV x v → Vals xs us → r x xs H Q →
    wpAny (model X.prog X.w) X.A (call (.builtin id) (v :: us)) (EP X pins σ Q) X.xe s
section
variable {X : Cx} {a b : Expr} {ta tb : TE} {pos : Pos}
theorem IxR.or {r r' : R2} (h : IxR X r) (h' : IxR X r') : IxR X (fun x y H Q => r x y H Q ∨ r' x y H Q) := by
  intro value slice pins s σ H x y v u Q I rx ry q hs
  rcases q with q | q
  · exact h value slice pins s σ H x y v u Q I rx ry q hs
  · exact h' value slice pins s σ H x y v u Q I rx ry q hs
theorem MtR.or {id : String} {r r' : V → List V → Hp → VK → Prop} (h : MtR X id r) (h' : MtR X id r') : MtR X id (fun x xs H Q => r x xs H Q ∨ r' x xs H Q) := by
  intro pins s σ H x xs v us Q I rx rs q
  rcases q with q | q
  · exact h pins s σ H x xs v us Q I rx rs q
  · exact h' pins s σ H x xs v us Q I rx rs q

theorem pe_ix {r : R2} (hr : IxR X r) (ha : PE X a ta) (hb : PE X b tb) (hs : PlainIx b) : PE X (.Subscript a b pos) (tOp r ta tb) := by
  intro pins s σ H Q I h
  exact Subscript_ (binT ha hb I h fun v u s2 x y H2 I2 rx ry q => hr a b pins s2 σ H2 x y v u Q I2 rx ry q (hs _ _))

def rIxL (K : PySem.W.Frag) : R2 := fun x y H Q => ∃ p xs i v, x = .ref p ∧ y = .int i ∧ SqL K H p xs ∧ atI xs i = some v ∧ Q v H
def rIxT (K : PySem.W.Frag) : R2 := fun x y H Q => ∃ p xs i v, x = .ref p ∧ y = .int i ∧ SqT K H p xs ∧ atI xs i = some v ∧ Q v H
theorem ix_list : IxR X (rIxL X.K) := by
  intro value slice pins s σ H x y v u Q I rx ry h hs
  obtain ⟨p, xs, i, z, rfl, rfl, hq, he, q⟩ := h
  cases rx
  obtain ⟨t, rfl⟩ := ry
  obtain ⟨its, r, pl, hz⟩ := I.list hq
  obtain ⟨j, h1, h2, h3, h4, h5⟩ := atI_get he
  obtain ⟨w, ew, rw'⟩ := r.get h2
  have hl := r.length
  have hn := line63
  have fin : EP X pins σ Q w s := ⟨z, H, I, rw', q⟩
  by_cases h0 : 0 ≤ i
  · have hj : i.toNat = j := by
      rw [seqIndex_of h0 h5] at h1
      exact Option.some.inj h1
    exact item_listR pl.isList h0 (by omega) (by rw [hj]; simpa using ew) fin hs
  · have hj : (i + (its.toArray.size : Int)).toNat = j := by
      rw [seqIndex_neg (by omega) h4] at h1
      rw [List.size_toArray, ← hl]
      exact Option.some.inj h1
    exact subscriptTail_builtinR (x := w) pl.isList.typeIs slot_list_getitem.lookup
      (wpAny_getItem_list_neg (Q := fun r s' => r = w ∧ EP X pins σ Q r s') pl.isList (by omega) (by rw [List.size_toArray] <;> omega) (by omega) (by rw [hj]; simpa using ew) ⟨rfl, fin⟩) hs
theorem ix_tup : IxR X (rIxT X.K) := by
  intro value slice pins s σ H x y v u Q I rx ry h hs
  obtain ⟨p, xs, i, z, rfl, rfl, hq, he, q⟩ := h
  cases rx
  obtain ⟨t, rfl⟩ := ry
  obtain ⟨its, r, pl, hz⟩ := I.tuple hq
  obtain ⟨j, h1, h2, h3, h4, h5⟩ := atI_get he
  obtain ⟨w, ew, rw'⟩ := r.get h2
  have hl := r.length
  have hn := line63
  have fin : EP X pins σ Q w s := ⟨z, H, I, rw', q⟩
  exact subscriptTail_builtinR (x := w) pl.typeIs slot_tuple_getitem.lookup
    (getItem_tuple (j := j) (Q := fun r s' => r = w ∧ EP X pins σ Q r s') pl (by omega) (by omega) (by rw [List.size_toArray, ← hl]; exact h1) (by simpa using ew) ⟨rfl, fin⟩) hs
theorem mapSeq_set (its : List Value) (n j : Nat) (u : Value) : Obj.mapSeq (·.setIfInBounds j u) { cls := .type "list", data := .seq its.toArray n } = { cls := .type "list", data := .seq (its.set j u).toArray n } := by
  simp [Obj.mapSeq]
theorem Inv.lst {pins : List (Addr × Obj)} {σ : St} {H : Hp} {s : Shared} {p : Addr} {xs : List V} (I : Inv X pins σ H s) (h : H p = some (.lst xs)) :
    ∃ (its : List Value) (n : Nat), Vals xs its ∧ s.heap.get? p = some { cls := .type "list", data := .seq its.toArray n } ∧ xs.length ≤ sizeLine := by
  obtain ⟨z, its, n, r, e⟩ := I.hok p _ h
  exact ⟨its, n, r, e, z⟩

theorem Inv.lstUpd {pins : List (Addr × Obj)} {σ : St} {H : Hp} {s : Shared} {p : Addr} {xs ys : List V} {its its' : List Value} {n n' : Nat} {f : Obj → Obj} (I : Inv X pins σ H s) (h : H p = some (.lst xs))
    (ho : s.heap.get? p = some { cls := .type "list", data := .seq its.toArray n }) (hf : f { cls := .type "list", data := .seq its.toArray n } = { cls := .type "list", data := .seq its'.toArray n' }) (r : Vals ys its') (hz : ys.length ≤ sizeLine) (t : Nat) :
    Inv X pins σ (upd H p (.lst ys)) { s with heap := s.heap.update p f, toks := t } := by
  have e : (s.heap.update p f).get? p = some { cls := .type "list", data := .seq its'.toArray n' } := by
    rw [Heap.get?_update_self f ho (by rw [hf] <;> rfl), hf]
  refine I.write (x := p) (e := p) (by rw [h]; trivial) (.inl rfl) (fun b u hb q => (Heap.get?_update_other _ _ (Ne.symm hb)).trans q) ⟨_, e⟩ ?_
  exact ⟨hz, its', n', r, e⟩
def rSetL : V → V → V → Hp → (Hp → Prop) → Prop := fun o i v H Q => ∃ p xs k j, o = .ref p ∧ i = .int k ∧ H p = some (.lst xs) ∧ ixN xs.length k = some j ∧ Q (upd H p (.lst (xs.set j v)))
theorem set_list : PSet X rSetL := by
  intro pins s σ H o i v ov iv u Q I ro ri rv h
  obtain ⟨p, xs, k, j, rfl, rfl, hp, hj, q⟩ := h
  cases ro
  obtain ⟨t, rfl⟩ := ri
  obtain ⟨its, n, r, ho, hz⟩ := I.lst hp
  obtain ⟨h1, h2, h3, h4⟩ := ixN_seq hj
  have hl := r.length
  have hn := line63
  have I' : Inv X pins σ (upd H p (.lst (xs.set j v))) { s with heap := s.heap.update p (Obj.mapSeq (·.setIfInBounds j u)) } :=
    I.lstUpd hp ho (mapSeq_set its n j u) (r.set rv j) (by rw [List.length_set]; exact hz) s.toks
  by_cases h0 : 0 ≤ k
  · have hk : k.toNat = j := by
      rw [seqIndex_of h0 h4] at h1
      exact Option.some.inj h1
    exact PySem.W.ki_setAt ho h0 (by omega) (by rw [List.size_toArray, ← hl]; exact h4) (by rw [hk]; exact ⟨_, I', q⟩)
  · have hk : (k + (its.toArray.size : Int)).toNat = j := by
      rw [seqIndex_neg (by omega) h3] at h1
      rw [List.size_toArray, ← hl]
      exact Option.some.inj h1
    exact PySem.W.ki_setBack ho (by omega) (by rw [List.size_toArray, ← hl]; exact h3) (by omega) (by rw [hk]; exact ⟨_, I', q⟩)


theorem slice_bounds (lo hi : Option Int) (n : Nat) : (sliceBounds lo hi none n).1 = ((HT.sIx n 0 lo : Nat) : Int) ∧ (sliceBounds lo hi none n).2.1 = ((HT.sIx n n hi : Nat) : Int) ∧ (sliceBounds lo hi none n).2.2 = 1 := by
  refine ⟨?_, ?_, rfl⟩
  · cases lo with
    | none => simp [sliceBounds, HT.sIx]
    | some i =>
      simp only [sliceBounds, HT.sIx, Option.getD_none, show (1 : Int) > 0 by decide, if_true]
      by_cases h : i < 0
      · simp only [h, if_true] <;> omega
      · simp only [h, if_false] <;> omega
  · cases hi with
    | none => simp [sliceBounds, HT.sIx]
    | some i =>
      simp only [sliceBounds, HT.sIx, Option.getD_none, show (1 : Int) > 0 by decide, if_true]
      by_cases h : i < 0
      · simp only [h, if_true] <;> omega
      · simp only [h, if_false] <;> omega
theorem slicePick_cut (its : List Value) (lo hi : Option Int) : slicePick its.toArray lo hi none = ((its.drop (HT.sIx its.length 0 lo)).take (HT.sIx its.length its.length hi - HT.sIx its.length 0 lo)).toArray := by
  obtain ⟨h1, h2, h3⟩ := slice_bounds lo hi its.toArray.size
  unfold slicePick
  rw [h1, h2, h3]
  simp only [sliceRange_one, pick_run, List.size_toArray] <;> rfl

def rSlL (K : PySem.W.Frag) : V → Option Int → Option Int → Hp → VK → Prop := fun x lo hi H Q => ∃ a xs, x = .ref a ∧ SqL K H a xs ∧ ∀ p, H p = none → Q (.ref p) (upd H p (.lst (cutV xs lo hi)))
theorem sl_list : SlR X (rSlL X.K) := by
  intro pins s σ H x v vl vu lo hi sl Q I rx hs pl pu h
  obtain ⟨a, xs, rfl, hx, q⟩ := h
  cases rx
  obtain ⟨its, r, ht, hz⟩ := I.list hx
  have hlen := r.length
  refine ⟨"list", _, slot_list_getitem.lookup, ht.isList.typeIs, ?_⟩
  refine wpAny_getItem_list_slice ht.isList hs pl pu .none (by simp) ?_ (by rw [List.size_toArray] <;> omega)
  rw [slicePick_cut, ← hlen]
  refine ⟨.ref s.heap.objs.size, _, I.laid (t' := s.toks) (o := .lst (cutV xs lo hi)) (fun b ob q => Heap.get?_push_of_some _ q) (Nat.le_refl _) ?_, rfl, q _ (I.hok.fresh (Nat.le_refl _))⟩
  exact ⟨Nat.le_trans (cutV_length xs lo hi) hz, _, 0, (r.drop (HT.sIx xs.length 0 lo)).take (HT.sIx xs.length xs.length hi - HT.sIx xs.length 0 lo), Heap.get?_push_size _ rfl⟩


def flatV : V → Bool
  | .non => true
  | .bl _ => true
  | .int _ => true
  | .str _ => true
  | _ => false

def eqV : V → V → Bool
  | .non, .non => true
  | .bl a, .bl b => a == b
  | .bl a, .int b => (if a then 1 else 0) == b
  | .int a, .bl b => a == (if b then 1 else 0)
  | .int a, .int b => a == b
  | .str a, .str b => a == b
  | _, _ => false
theorem eqAt_V {A : Around} {s : Shared} {y x : V} {u v : Value} (ry : RelV y u) (rx : RelV x v) (fy : flatV y = true) (fx : flatV x = true) : SeqAt.EqAt A s u v (eqV y x) := by
  cases y with
  | non =>
    cases ry
    cases x with
    | non => cases rx; exact SeqAt.EqAt.same _
    | bl b => cases rx; exact SeqAt.EqAt.none_bool b
    | int b => obtain ⟨t, rfl⟩ := rx; exact SeqAt.EqAt.none_int b t
    | str b => obtain ⟨t, rfl⟩ := rx; exact SeqAt.EqAt.none_str b t
    | _ => exact absurd (show false = true from fx) Bool.false_ne_true
  | bl a =>
    cases ry
    cases x with
    | non => cases rx; exact SeqAt.EqAt.bool_none a
    | bl b => cases rx; exact SeqAt.EqAt.bool_bool a b
    | int b => obtain ⟨t, rfl⟩ := rx; exact SeqAt.EqAt.bool_int a b t
    | str b => obtain ⟨t, rfl⟩ := rx; exact SeqAt.EqAt.bool_str a b t
    | _ => exact absurd (show false = true from fx) Bool.false_ne_true
  | int a =>
    obtain ⟨t', rfl⟩ := ry
    cases x with
    | non => cases rx; exact SeqAt.EqAt.int_none a t'
    | bl b => cases rx; exact SeqAt.EqAt.int_bool a t' b
    | int b => obtain ⟨t, rfl⟩ := rx; exact SeqAt.EqAt.int_int a t' b t
    | str b => obtain ⟨t, rfl⟩ := rx; exact SeqAt.EqAt.int_str a t' b t
    | _ => exact absurd (show false = true from fx) Bool.false_ne_true
  | str a =>
    obtain ⟨t', rfl⟩ := ry
    cases x with
    | non => cases rx; exact SeqAt.EqAt.str_none a t'
    | bl b => cases rx; exact SeqAt.EqAt.str_bool a t' b
    | int b => obtain ⟨t, rfl⟩ := rx; exact SeqAt.EqAt.str_int a t' b t
    | str b => obtain ⟨t, rfl⟩ := rx; exact SeqAt.EqAt.str_str a t' b t
    | _ => exact absurd (show false = true from fx) Bool.false_ne_true
  | _ => exact absurd (show false = true from fy) Bool.false_ne_true

def inV (x : V) (xs : List V) : Bool := xs.any fun y => eqV y x

def rIn (K : PySem.W.Frag) (neg : Bool) : R2 := fun x y H Q => ∃ p xs, y = .ref p ∧ (SqL K H p xs ∨ SqT K H p xs) ∧ flatV x = true ∧ xs.all flatV = true ∧ Q (.bl (if neg then !inV x xs else inV x xs)) H
theorem call_len_seq : CallR X (.builtin "len") (fun xs H Q => ∃ p ys, xs = [.ref p] ∧ (SqL X.K H p ys ∨ SqT X.K H p ys) ∧ Q (.int ys.length) H) := by
  intro pins s σ H xs us Q I r h
  obtain ⟨p, ys, rfl, hq, q⟩ := h
  obtain ⟨u, rfl, rx⟩ := vals1 r
  cases rx
  have hn := line63
  rcases hq with hq | hq
  · obtain ⟨its, r', pl, hz⟩ := I.list hq
    have hlen := r'.length
    exact Calls.call_len_list pl.isList (by simp only [List.size_toArray] <;> omega) ⟨.int ys.length, H, I.tok _, ⟨s.toks + 1, by rw [List.size_toArray, hlen]⟩, q⟩
  · obtain ⟨its, r', pl, hz⟩ := I.tuple hq
    have hlen := r'.length
    exact len_tuple pl (by simp only [List.size_toArray] <;> omega) ⟨.int ys.length, H, I.tok _, ⟨s.toks + 1, by rw [List.size_toArray, hlen]⟩, q⟩
theorem CallR.or {f : Value} {r r' : List V → Hp → VK → Prop} (h : CallR X f r) (h' : CallR X f r') : CallR X f (fun xs H Q => r xs H Q ∨ r' xs H Q) := by
  intro pins s σ H xs us Q I rs q
  rcases q with q | q
  · exact h pins s σ H xs us Q I rs q
  · exact h' pins s σ H xs us Q I rs q
theorem call_tuple_of : CallR X (.type "tuple") (fun xs H Q => ∃ p ys, xs = [.ref p] ∧ ((SqL X.K H p ys ∧ ∀ l, H l = none → Q (.ref l) (upd H l (.tup ys))) ∨ (SqT X.K H p ys ∧ Q (.ref p) H))) := by
  intro pins s σ H xs us Q I r h
  obtain ⟨p, ys, rfl, h⟩ := h
  obtain ⟨u, rfl, rx⟩ := vals1 r
  cases rx
  rcases h with ⟨hq, q⟩ | ⟨hq, q⟩
  · obtain ⟨its, r', pl, hz⟩ := I.list hq
    have hlen := r'.length
    refine call_tuple_list pl.isList (fun h' kp => ?_) (by simp only [List.size_toArray] <;> omega)
    have I1 : Inv X pins σ H { s with heap := h' } := I.kept (t' := s.toks) kp
    have I2 : Inv X pins σ (upd H h'.objs.size (.tup ys)) { s with heap := h'.push { cls := .type "tuple", data := .seq its.toArray } } :=
      I1.laid (t' := s.toks) (fun b o e => Heap.get?_push_of_some _ e) (Nat.le_refl _) (show ObjOk X.prog X.w _ _ _ (.tup ys) from ⟨hz, its, r', IsTup.new _ _⟩)
    exact ⟨.ref h'.objs.size, _, I2, rfl, q _ (I1.hok.fresh (Nat.le_refl _))⟩
  · obtain ⟨its, r', pl, hz⟩ := I.tuple hq
    exact call_tuple_same pl ⟨.ref p, H, I, rfl, q⟩



def tyV (K : PySem.W.Frag) (T : String) (x : V) (H : Hp) : Prop := match x with
  | .str _ => T = "str"
  | .int _ => T = "int"
  | .ref p => (T = "list" ∧ ∃ xs, SqL K H p xs) ∨ (T = "tuple" ∧ ∃ o, K.lookup p = some o ∧ o.cls = .type "tuple" ∧ o.dict = none) ∨
      (T = "dict" ∧ ((∃ kvs, H p = some (.dK kvs)) ∨ ∃ kvs, H p = some (.dT kvs))) ∨ (T = "set" ∧ ∃ S n, H p = some (.set S n))
  | _ => False
theorem tyV_is {pins : List (Addr × Obj)} {σ : St} {H : Hp} {s : Shared} {T : String} {x : V} {v : Value} (I : Inv X pins σ H s) (r : RelV x v) (ty : tyV X.K T x H) :
    s.TypeIs v T ∧ ∀ a, v = .ref a → ∃ ob, s.heap.get? a = some ob ∧ ob.dict = none := by
  cases x with
  | str z =>
    obtain ⟨t, rfl⟩ := r
    cases (show T = "str" from ty)
    exact ⟨typeIs_str s z t, fun _ e => nomatch e⟩
  | int i =>
    obtain ⟨t, rfl⟩ := r
    cases (show T = "int" from ty)
    exact ⟨typeIs_int s i t, fun _ e => nomatch e⟩
  | ref p =>
    cases r
    rcases ty with ⟨rfl, xs, hq⟩ | ⟨rfl, o, hk, hc, hd⟩ | ⟨rfl, hk⟩ | ⟨rfl, S, n, hk⟩
    · obtain ⟨its, _, pl, _⟩ := I.list hq
      refine ⟨pl.isList.typeIs, fun a e => ?_⟩
      cases e
      obtain ⟨o, n, e, c, hd, _⟩ := pl
      exact ⟨o, e, hd⟩
    · refine ⟨⟨o, I.kIn p o hk, hc⟩, fun a e => ?_⟩
      cases e
      exact ⟨o, I.kIn _ o hk, hd⟩
    · have z : ∃ o, s.heap.get? p = some o ∧ o.ExactDict := by
        rcases hk with ⟨kvs, hk⟩ | ⟨kvs, hk⟩
        · obtain ⟨_, _, _, _, o, _, _, e, ex, _⟩ := I.hok p _ hk
          exact ⟨o, e, ex⟩
        · obtain ⟨_, _, _, _, o, _, _, e, ex, _⟩ := I.hok p _ hk
          exact ⟨o, e, ex⟩
      obtain ⟨o, e, ex⟩ := z
      refine ⟨⟨o, e, ex.1⟩, fun a e2 => ?_⟩
      cases e2
      exact ⟨o, e, ex.2.1⟩
    · obtain ⟨o, _, _, _, e, ex, _⟩ := I.hok p _ hk
      refine ⟨⟨o, e, ex.1⟩, fun a e2 => ?_⟩
      cases e2
      exact ⟨o, e, ex.2.1⟩
  | _ => exact False.elim ty
def tBM0 (K : PySem.W.Frag) (T : String) (r : V → List V → Hp → VK → Prop) (to : TE) : TE := fun σ H Q => to σ H fun x H1 => tyV K T x H1 ∧ r x [] H1 Q
def tBM (K : PySem.W.Frag) (T : String) (r : V → List V → Hp → VK → Prop) (to : TE) (t : TA) : TE := fun σ H Q => to σ H fun x H1 => tyV K T x H1 ∧ t σ H1 fun xs H2 => r x xs H2 Q
variable {o e : Expr} {es : List Expr} {to : TE} {t : TA} {name : Str} {apos cpos : Pos} {T id : String} {r : V → List V → Hp → VK → Prop}
theorem pe_bm (pa : PlainAttrs T) (slot : Slot T name id) (hty : typeOf (.builtin id) = pure (.type "method_descriptor")) (hm : MtR X id r) (ho : PE X o to) (ha : PA X (e :: es) t)
    (hbase : attributeBase o name X.env (eval o X.env) = eval o X.env := by rfl)
    (hfew : ((backTo cpos (starEach (e :: es) X.env)).all (fun x => !x.1) && (backToKw cpos (keywordEach [] X.env)).all (fun x => x.1.isSome)
      && decide ((e :: es).length + ([] : List Keyword).length + (if ([] : List Keyword).isEmpty then 0 else 1) < 30)) = true := by rfl)
    (hline : (apos.endLine == cpos.line) = true := by rfl) (hs : starEach (e :: es) X.env = (false, eval e X.env) :: starEach es X.env := by rfl) (hplain : (backTo cpos (starEach es X.env)).any (·.1) = false := by rfl) :
    PE X (.Call (.Attribute o name apos) (e :: es) [] cpos) (tBM X.K T r to t) := by
  intro pins s σ H Q I h
  refine wpAny_Call_method_late hbase hfew hline rfl (thn (ho pins s σ H _ I h) fun v s1 ⟨x, H1, I1, r1, ty, q1⟩ => ?_)
  obtain ⟨h1, h2⟩ := tyV_is I1 r1 ty
  refine ⟨T, id, pa, slot, hty, h1, h2, ?_⟩
  have hA := ha cpos pins s1 σ H1 _ I1 q1
  rw [hs] at hA ⊢
  refine Calls.callWith_builtin (by show (false || (backTo cpos (starEach es X.env)).any (·.1)) = false; rw [hplain] <;> rfl) (Calls.evalArgs_plain ?_)
  exact thn hA fun us s2 ⟨vs, H2, I2, r2, q2⟩ => hm pins s2 σ H2 x vs v us Q I2 r1 r2 q2

end
end L2

namespace L2
open PySem PySem.Spec PyProof.Rows

def MtM (X : Cx) (id : String) (r : V → List V → Hp → VK → Prop) : Prop :=
  ∀ (pins : List (Addr × Obj)) (s : Shared) (σ : St) (H : Hp) (x : V) (xs : List V) (v : Value) (us : List Value) (Q : VK), Inv X pins σ H s → RelV x v → Vals xs us → r x xs H Q →
    wpAny (model X.prog X.w) X.A (call (.builtin id) (v :: us)) (EP X pins σ Q) X.xe s


theorem Vals.one : ∀ {x : V} {us : List Value}, Vals [x] us → ∃ u, us = [u] ∧ RelV x u
  | _, _, .cons r .nil => ⟨_, rfl, r⟩
theorem Vals.two : ∀ {x y : V} {us : List Value}, Vals [x, y] us → ∃ u v, us = [u, v] ∧ RelV x u ∧ RelV y v
  | _, _, _, .cons r (.cons q .nil) => ⟨_, _, rfl, r, q⟩
theorem Vals.zero : ∀ {us : List Value}, Vals [] us → us = []
  | _, .nil => rfl
theorem Vals.dropLast {xs : List V} {us : List Value} (h : Vals xs us) : Vals xs.dropLast us.dropLast := by
  induction h with
  | nil => exact .nil
  | cons r t ih =>
    cases t with
    | nil => exact .nil
    | cons q t' => exact .cons r ih
theorem Vals.eraseIdx : ∀ {xs : List V} {us : List Value} (i : Nat), Vals xs us → Vals (xs.eraseIdx i) (us.eraseIdx i)
  | _, _, _, .nil => .nil
  | _, _, 0, .cons _ t => t
  | _, _, i + 1, .cons r t => .cons r (Vals.eraseIdx i t)
theorem Vals.reverse {xs : List V} {us : List Value} (h : Vals xs us) : Vals xs.reverse us.reverse := by
  induction h with
  | nil => exact .nil
  | cons r t ih => rw [List.reverse_cons, List.reverse_cons]; exact Vals.append ih (.cons r .nil)
theorem Vals.rep {xs : List V} {us : List Value} (h : Vals xs us) : ∀ k : Nat, Vals (List.replicate k xs).flatten (List.replicate k us).flatten
  | 0 => .nil
  | k + 1 => by
    rw [List.replicate_succ, List.replicate_succ, List.flatten_cons, List.flatten_cons]
    exact Vals.append h (Vals.rep h k)
theorem foldl_rep (its : List Value) : ∀ (k : Nat) (acc : List Value),
    List.foldl (fun x1 x2 => x1 ++ x2) acc.toArray (List.replicate k its.toArray) = (acc ++ (List.replicate k its).flatten).toArray
  | 0, acc => by simp
  | k + 1, acc => by
    have e : acc.toArray ++ its.toArray = (acc ++ its).toArray := by simp
    have e2 : (acc ++ its) ++ (List.replicate k its).flatten = acc ++ (List.replicate (k + 1) its).flatten := by
      rw [List.replicate_succ, List.flatten_cons, List.append_assoc]
    rw [← e2, ← foldl_rep its k (acc ++ its), ← e, List.replicate_succ, List.foldl_cons]

section
variable {X : Cx} {pins : List (Addr × Obj)} {σ : St} {H : Hp} {s : Shared} {l b : Addr} {xs ys zs : List V}


theorem Inv.lset {its its' : List Value} {n : Nat} {f : Array Value → Array Value} {t' : Nat} (I : Inv X pins σ H s) (hH : H l = some (.lst xs))
    (e : s.heap.get? l = some { cls := .type "list", data := .seq its.toArray n }) (hf : f its.toArray = its'.toArray) (hv : Vals ys its') (hz : ys.length ≤ sizeLine) :
    Inv X pins σ (upd H l (.lst ys)) { s with heap := s.heap.update l (Obj.mapSeq f), toks := t' } := by
  have q := PySem.IsL.update e f
  rw [hf] at q
  refine I.write (x := l) (e := l) (by rw [hH]; exact trivial) (.inl rfl) (fun b' u hb hu => (Heap.get?_update_other s.heap (Obj.mapSeq f) (Ne.symm hb)).trans hu) ⟨_, q⟩ ?_
  exact ⟨hz, its', _, hv, q⟩
theorem Inv.lnew {its : List Value} {t' : Nat} (I : Inv X pins σ H s) (hv : Vals ys its) (hz : ys.length ≤ sizeLine) :
    Inv X pins σ (upd H s.heap.objs.size (.lst ys)) { s with heap := s.heap.push { cls := .type "list", data := .seq its.toArray }, toks := t' } :=
  I.laid (fun _ _ q => Heap.get?_push_of_some _ q) (Nat.le_refl _) ⟨hz, its, 0, hv, Heap.get?_push_size _ rfl⟩
theorem Inv.fresh (I : Inv X pins σ H s) : H s.heap.objs.size = none := I.hok.fresh (Nat.le_refl _)
theorem Inv.lstM (I : Inv X pins σ H s) (hH : H l = some (.lst xs)) : xs.length ≤ sizeLine ∧ ∃ (its : List Value) (n : Nat), Vals xs its ∧ xs.length = its.length ∧ s.heap.get? l = some { cls := .type "list", data := .seq its.toArray n } := by
  obtain ⟨z, its, n, r, e⟩ := I.hok l _ hH
  exact ⟨z, its, n, r, r.length, e⟩

theorem notLongL {n : Nat} (h : n ≤ sizeLine) : Builtin.List.listTooLong n = false := by
  unfold Builtin.List.listTooLong
  exact decide_eq_false (by omega)
end

section
variable {X : Cx}


def rAppend : V → List V → Hp → VK → Prop := fun x vs H Q => ∃ l xs y, x = .ref l ∧ vs = [y] ∧ H l = some (.lst xs) ∧ xs.length < sizeLine ∧ Q .non (upd H l (.lst (xs ++ [y])))
theorem mt_append : MtM X "list.append" rAppend := by
  intro pins s σ H x vs v us Q I rx rv h
  obtain ⟨l, xs, y, rfl, rfl, hH, hz, q⟩ := h
  cases rx
  obtain ⟨u, rfl, ru⟩ := rv.one
  obtain ⟨z, its, n, r, hl, e⟩ := I.lstM hH
  refine call_meets F.slot_list_append ⟨_, e, rfl⟩ F.entry_list_append (F.args_list_append_2 _ _) (PySem.list_append l its.toArray n u (by rw [List.size_toArray]; omega)) ⟨e, ?_⟩
  refine ⟨.non, _, I.lset (its' := its ++ [u]) hH e (by simp) (r.append (.cons ru .nil)) ?_, rfl, q⟩
  rw [List.length_append, List.length_singleton]
  omega

def rExtend : V → List V → Hp → VK → Prop := fun x vs H Q => ∃ l b xs zs, x = .ref l ∧ vs = [.ref b] ∧ H l = some (.lst xs) ∧ H b = some (.lst zs) ∧ xs.length + zs.length ≤ sizeLine ∧ Q .non (upd H l (.lst (xs ++ zs)))
def rPop : V → List V → Hp → VK → Prop := fun x vs H Q => ∃ l xs y, x = .ref l ∧ vs = [] ∧ H l = some (.lst xs) ∧ xs[xs.length - 1]? = some y ∧ Q y (upd H l (.lst xs.dropLast))
def rPopAt : V → List V → Hp → VK → Prop := fun x vs H Q => ∃ l xs i k y, x = .ref l ∧ vs = [.int i] ∧ H l = some (.lst xs) ∧ -(2 ^ 63) ≤ i ∧ i < 2 ^ 63 ∧ seqIndex? i xs.length = some k ∧ xs[k]? = some y ∧ Q y (upd H l (.lst (xs.eraseIdx k)))
def rCat : R2 := fun x y H Q => ∃ l b xs zs, x = .ref l ∧ y = .ref b ∧ H l = some (.lst xs) ∧ H b = some (.lst zs) ∧ xs.length + zs.length ≤ sizeLine ∧ ∀ p, H p = none → Q (.ref p) (upd H p (.lst (xs ++ zs)))
theorem op_cat : OpR X (binaryOp .Add) rCat := by
  intro pins s σ H x y v u Q I rx ry h
  obtain ⟨l, b, xs, zs, rfl, rfl, hH, hB, hz, q⟩ := h
  cases rx
  cases ry
  obtain ⟨z, its, n, r, hl, e⟩ := I.lstM hH
  obtain ⟨z2, its2, n2, r2, hl2, e2⟩ := I.lstM hB
  refine PySem.P.add_list e e2 ?_ (by rw [List.size_toArray, List.size_toArray]; omega)
  have ea : its.toArray ++ its2.toArray = (its ++ its2).toArray := by simp
  rw [ea]
  exact ⟨.ref _, _, I.lnew (t' := s.toks) (r.append r2) (by rw [List.length_append]; omega), rfl, q _ I.fresh⟩

def rRep : R2 := fun x y H Q => ∃ l k xs, x = .ref l ∧ y = .int k ∧ H l = some (.lst xs) ∧ -(2 ^ 63) ≤ k ∧ k < 2 ^ 63 ∧ xs.length * k.toNat ≤ sizeLine ∧
  ∀ p, H p = none → Q (.ref p) (upd H p (.lst (List.replicate k.toNat xs).flatten))
theorem len_rep {α : Type} (xs : List α) (k : Nat) : (List.replicate k xs).flatten.length = k * xs.length := by
  induction k with
  | zero => simp
  | succ k ih => rw [List.replicate_succ, List.flatten_cons, List.length_append, ih, Nat.succ_mul, Nat.add_comm]
theorem op_rep : OpR X (binaryOp .Mult) rRep := by
  intro pins s σ H x y v u Q I rx ry h
  obtain ⟨l, k, xs, rfl, rfl, hH, h1, h2, hz, q⟩ := h
  cases rx
  obtain ⟨t, rfl⟩ := ry
  obtain ⟨z, its, n, r, hl, e⟩ := I.lstM hH
  have hlen : its.toArray.size * k.toNat ≤ sizeLine := by rw [List.size_toArray, ← hl]; exact hz
  have hcap : ¬ its.toArray.size * k.toNat > (2 ^ 63 - 1) / 8 := by
    have : (sizeLine : Nat) ≤ (2 ^ 63 - 1) / 8 := by decide
    omega
  have hfit : ¬ (!Builtin.List.listFitsIndex k) = true := by
    rw [fitsIndex_both h1 h2]
    exact Bool.false_ne_true
  have hlong : ¬ Builtin.List.listTooLong (its.toArray.size * k.toNat) = true := by
    rw [notLongL hlen]
    exact Bool.false_ne_true
  have hnew : List.foldl (fun x1 x2 => x1 ++ x2) #[] (List.replicate (if its.toArray.isEmpty = true then 0 else k.toNat) its.toArray) = (List.replicate k.toNat its).flatten.toArray := by
    have f0 : ∀ m : Nat, List.foldl (fun x1 x2 => x1 ++ x2) #[] (List.replicate m its.toArray) = (List.replicate m its).flatten.toArray := fun m => by
      have := foldl_rep its m []
      rw [List.nil_append] at this
      exact this
    rw [f0]
    cases its with
    | nil => simp
    | cons a r' => rw [if_neg (by simp)]
  refine wpAny_binaryOp_repeat_ref (T := "list") (U := "int") (by decide) ⟨_, e, rfl⟩ (fun s' => typeIs_int s' k t) noFill_list_mul F.fills_int_mul F.slot_int_rmul repeat_list F.slot_int_index.lookup
    (call_meets F.slot_int_rmul (typeIs_int s k t) F.entry_int_rmul (F.args_int_rmul_2 _ _) (int___rmul___int_list k t l its.toArray n)
      ⟨e, rfl, ⟨_, e, rfl⟩, call_meets F.slot_list_mul ⟨_, e, rfl⟩ F.entry_list_mul (F.args_list_mul_2 _ _) (AutoListH.list___mul___list_int_3 l its.toArray n k t hfit hcap hlong) ⟨e, ?_⟩⟩)
  rw [hnew]
  exact ⟨.ref _, _, I.lnew (t' := s.toks) (r.rep k.toNat) (by rw [len_rep, Nat.mul_comm]; exact hz), rfl, q _ I.fresh⟩


end


section
variable {prog : Program} {w : World} {A : Around} {E : Value → Shared → Prop} {s : Shared}
end

section
variable {X : Cx}

end
end L2

namespace Att
open PySem PySem.W PySem.Calls PyProof.Rows


theorem ints_of_wellAll {P : Params} {h : Heap} : ∀ (ns : List Int) (vs : List Value), WellAll P h vs (ns.map WData.int) → IntsAre vs ns := by
  intro ns
  induction ns with
  | nil =>
    intro vs w
    rw [List.map_nil] at w
    cases w
    exact .nil
  | cons n ns ih =>
    intro vs w
    rw [List.map_cons] at w
    cases w with
    | cons a b =>
      cases a
      exact .cons _ _ (ih _ b)

theorem script_of {l : OpenLaw} {n : Nat} (hn : l.most = some n) {P : Params} {h : Heap} {args : List WData} {vals : List Value}
    (hpre : l.row.toRowW.claim.pre args = true) (hwl : WellAll P h vals args) :
    ∃ a vs ns, vals = [Value.ref a] ∧ args = [WData.list (ns.map WData.int)] ∧ h.get? a = some { cls := .type "list", data := .seq vs.toArray } ∧ IntsAre vs ns ∧ ns.length ≤ n := by
  have hsh : WShape.hasAll [] args [.list .int] = true := (pre_splitW hpre).1
  have hc : l.pre.holds [] { args := args } = true := (pre_splitW hpre).2
  obtain ⟨d, r, rfl, h1, h2⟩ := hasAllW_cons hsh
  obtain rfl := hasAllW_nil h2
  obtain ⟨xs, rfl, h3⟩ := hasW_list h1
  obtain ⟨ns, rfl⟩ := items_int h3
  have hlen : ns.length ≤ n := by
    unfold OpenLaw.pre at hc
    have h4 : (WTm.not (.lt (.lit (.int (n : Int))) (.len (.arg 0)))).holds [] { args := [.list (ns.map .int)] } = true := by
      have h4 := (holds_andW hc).1
      rw [hn] at h4
      exact h4
    have h5 := condW_of h4 (w_not (w_lt w_lit (w_len_list (w_arg rfl))))
    rw [List.length_map] at h5
    refine Nat.le_of_not_lt fun q => ?_
    have q' : (n : Int) < ((ns.length : Nat) : Int) := by omega
    first
      | (rw [decide_eq_true q'] at h5; exact absurd h5 (by decide))
      | (simp at h5; omega)
  cases hwl with
  | cons w1 w2 =>
    cases w2
    cases w1 with
    | list ho hall => exact ⟨_, _, ns, rfl, rfl, ho, ints_of_wellAll ns _ hall, hlen⟩

theorem post_true (l : OpenLaw) (args : List WData) : l.row.toRowW.claim.post args (.bool true) args = true :=
  postW_of (r := l.row.toRowW) (X := (true == true))
    (show WShape.has [] (.bool true) .bool = true by first | rfl | decide | simp [WShape.has, WShape.arms, WShape.armsAll])
    (show (WTm.eq .res (.lit (.bool true))).value [] { args := args, res := some (.bool true), after := args } = some (.bool (true == true)) from w_eq_bool (w_res rfl) w_lit) rfl


theorem attach_call {l : OpenLaw} {n : Nat} {q : Program} {loose : List Str} {XP : (Str → Option Value) → Heap → Prop} {YP : World → Heap → Prop} {d : DefRec}
    (hn : l.most = some n) (hdf : d.params.defaults = [])
    (call : ∀ (w : World) (s₀ s₁ : Shared) (mg mb : Str → Option Value) (fa : Addr) (o : Obj) (pm cd doc : Value) (a : Addr) (vs : List Value) (ns : List Int),
      Ground q loose [] XP w s₀ mg mb s₁.heap → YP w s₁.heap →
      s₁.heap.get? fa = some o → o.data = .func (docDef d.name d.params d.body d.scope pm cd doc) → s₁.heap.CodeRec cd d.name → mg d.name = some (.ref fa) →
      s₁.heap.get? a = some { cls := .type "list", data := .seq vs.toArray } → IntsAre vs ns → ns.length ≤ n → s₁.gens = #[] →
      codeAny (model l.prog w) callerA (.call (.ref fa) ⟨[.ref a], []⟩) (fun r s' => r = .ok (.ret (.bool true)) ∧ OldK s₁.heap s'.heap ∧ s'.os = s₁.os ∧ AllBare s'.gens) s₁) :
    WalkO q loose XP YP l.row.toRowW d [] (fun f vs => PySem.call f vs) := by
  intro w s₀ s₁ mg mb G Y fa o pm cd doc dV kV ho hd hcd hD hmg hg args vals as hpre hlay hrd hwl hlo
  obtain rfl : dV = .none := Dflts.none hD hdf
  obtain rfl : kV = .none := Dflts.noKw hD
  obtain ⟨a, vs, ns, rfl, rfl, hobj, hints, hlen⟩ := script_of hn hpre hwl
  refine enter_call (codeAny_mono (call w s₀ s₁ mg mb fa o pm cd doc a vs ns G Y ho (fd_plain hd) hcd hmg hobj hints hlen hg) fun r s' hq => ?_)
  obtain ⟨rfl, h2, h3, h4⟩ := hq
  exact ⟨.inl ⟨.bool true, .bool true, [], rfl, fun _ => rfl, .bool true, post_true l _, fun _ => ⟨List.Pairwise.nil, fun _ hm => (nomatch hm)⟩⟩, h2, h3, h4⟩


section
variable {prog : Program} {w : World} {A : Around} {E : Value → Shared → Prop} {s : Shared} {K : Frag}


end
end Att

namespace L2
open PySem PySem.Spec PyProof.Rows

theorem vals_ints : ∀ {vs : List Value} {ns : List Int}, IntsAre vs ns → Vals (ns.map V.int) vs
  | _, _, .nil => .nil
  | _, _, .cons n t h => .cons ⟨t, rfl⟩ (vals_ints h)


def Only (H : Hp) : Prop := ∀ b, H b = none ∨ ∃ o xs, H b = some (.frz o (.lst xs))


theorem law_call {P : Program} {w : World} {K : PySem.W.Frag} {mg mb : Str → Option Value} {CX : CXT} {k : Nat} {fa a : Addr} {fd : FuncData} {x : Str} {sp : Sp} {s₁ : Shared} {vs : List Value} {ns : List Int}
    (KX : K.In s₁.heap) (hns : s₁.heap.Ns mainGlobals mg) (hb : s₁.heap.Ns builtinsNs mb) (hbb : ∀ x : Str, x ≠ "__name__" → mb x = bootBuiltins x) (hlim : s₁.heap.NoLimit) (hg : s₁.gens = #[])
    (ha : s₁.heap.get? a = some { cls := .type "list", data := .seq vs.toArray }) (hi : IntsAre vs ns) (hl : ns.length ≤ sizeLine) (hr : Room k callerA)
    (F : ∀ base : Heap, K.In base → base.Ns mainGlobals mg → FnOk P w K mg base CX k fa fd [x] sp) (hbind : ∀ (s : Shared) (u : Value), BindsTo s fd ⟨[u], []⟩ [(x, u)])
    (hsp : ∀ H : Hp, Only H → SqL K H a (ns.map V.int) → sp [.ref a] H (fun v _ => v = .bl true) fun _ _ _ => False)
    (hCX : ∀ H e s', CX [] H s₁ (fun _ _ _ => False) e s' → False) :
    codeAny (model P w) callerA (.call (.ref fa) ⟨[.ref a], []⟩) (fun r s' => r = .ok (.ret (.bool true)) ∧ OldK s₁.heap s'.heap ∧ s'.os = s₁.os ∧ AllBare s'.gens) s₁ := by
  have rv := vals_ints hi
  have lenV := hi.length
  -- from an abstract heap in which nothing but the script may be tracked
  have core : ∀ H : Hp, Only H → SqL K H a (ns.map V.int) → HOk P w H s₁.heap → (∀ b, H b ≠ none → b = a) → (H a ≠ none → K.lookup a = none) →
      codeAny (model P w) callerA (.call (.ref fa) ⟨[.ref a], []⟩) (fun r s' => r = .ok (.ret (.bool true)) ∧ OldK s₁.heap s'.heap ∧ s'.os = s₁.os ∧ AllBare s'.gens) s₁ := by
    intro H hO hS hok hA hK
    have base_of : ∀ {b : Addr} {o : Obj}, s₁.heap.get? b = some o → H b = none → (hidT s₁.heap H).get? b = some o := fun e n => hidT_get e n
    have noA : ∀ {b : Addr} {o : Obj} {es : Array DictEntry} {ep : Nat}, s₁.heap.get? b = some o → o.data = .dict es ep → H b = none := fun {b o es ep} e d => by
      cases q : H b with
      | none => rfl
      | some u =>
        have e' : b = a := hA b (by rw [q]; simp)
        subst e'
        rw [ha] at e; cases e
        have d' : Data.seq vs.toArray _ = Data.dict es ep := d
        cases d'
    have nsK : ∀ {b : Addr} {m : Str → Option Value}, s₁.heap.Ns b m → (hidT s₁.heap H).Ns b m := fun {b m} ⟨o, es, ep, e, d, r⟩ => ⟨o, es, ep, base_of e (noA e d), d, r⟩
    have hKb : K.In (hidT s₁.heap H) := fun b o e => base_of (KX b o e) (by
      cases q : H b with
      | none => rfl
      | some u =>
        have e' : b = a := hA b (by rw [q]; simp)
        subst e'
        rw [hK (by rw [q]; simp)] at e; cases e)
    have hM : Mod K mg (hidT s₁.heap H) := ⟨hKb, nsK hns, ⟨mb, nsK hb, hbb⟩, let ⟨mc, h1, h2⟩ := hlim; ⟨mc, nsK h1, h2⟩⟩
    have e0 : Env0 P w K mg (hidT s₁.heap H) callerA [] s₁ H := ⟨rfl, hM, fun b o e => of_hidT e, Nat.le_of_eq (hidT_size _ _), trivial, fun b hb => absurd (show b ∈ ([] : List Addr) from hb) (by simp), hok, .of_eq hg⟩
    refine codeAny_mono ((F _ hKb (nsK hns)).run callerA [] s₁ H ⟨[.ref a], []⟩ [.ref a] [.ref a] _ _ hr e0 (hbind s₁ (.ref a)) (.cons rfl .nil) (hsp H hO hS)) fun r s' h => ?_
    cases r with
    | error e => exact (hCX H e s' h).elim
    | ok fl =>
      cases fl with
      | next => exact False.elim h
      | brk => exact False.elim h
      | cont => exact False.elim h
      | ret u =>
        obtain ⟨v, H', os, bare, un, hok', r', q⟩ := h
        have q' : v = .bl true := q
        subst q'
        obtain rfl : u = Value.bool true := r'
        refine ⟨rfl, OldK.of_keep fun b o e => ?_, os, bare⟩
        cases q : H b with
        | none => exact un.keep b o e q (by intro z; exact absurd (show b ∈ ([] : List Addr) from z) (by simp)) (by simp)
        | some u =>
          rcases hO b with z | ⟨ob, xs, z⟩
          · rw [q] at z; cases z
          · have z2 := un.frzs b ob _ z
            obtain ⟨e1, _⟩ := hok b _ z
            obtain ⟨e2, _⟩ := hok' b _ z2
            rw [e] at e1; cases e1
            exact e2
  cases hk : K.lookup a with
  | some o =>
    -- the script is one of the module's own objects
    have e := KX a o hk
    rw [ha] at e
    cases e
    refine core (fun _ => none) (fun _ => .inl rfl) (.inr ⟨_, vs.toArray, _, hk, rfl, rfl, rfl, by rw [List.size_toArray, lenV]; exact hl, by simpa using rv⟩) (fun b u z => by have z' : (none : Option HO) = some u := z; cases z') (fun b z => absurd rfl z) fun z => absurd rfl z
  | none =>
    refine core (fun b => if b = a then some (.frz { cls := .type "list", data := .seq vs.toArray } (.lst (ns.map V.int))) else none) (fun b => ?_) (.inl (.inr ⟨{ cls := .type "list", data := .seq vs.toArray }, if_pos rfl⟩)) (fun b u z => ?_) (fun b z => ?_) fun _ => hk
    · by_cases hb : b = a
      · exact .inr ⟨_, _, if_pos hb⟩
      · exact .inl (if_neg hb)
    · by_cases hb : b = a
      · have z' := (if_pos hb).symm.trans z
        cases z'
        subst hb
        exact ⟨ha, by rw [List.length_map]; exact hl, vs, _, rv, ha⟩
      · have z' := (if_neg hb).symm.trans z
        cases z'
    · by_cases hb : b = a
      · exact hb
      · exact absurd (if_neg hb) z
end L2

namespace L2
open PySem PySem.Spec PyProof.Rows

theorem walk_of {l : PySem.W.OpenLaw} {n k : Nat} {q : Program} {loose : List Str} {XP : (Str → Option Value) → Heap → Prop} {YP : World → Heap → Prop} {d : DefRec} {K : Params → PySem.W.Frag} {CX : World → CXT} {sp : World → Sp} {x : Str}
    (hn : l.most = some n) (hn2 : n ≤ sizeLine) (hdf : d.params.defaults = []) (hr : Room k callerA)
    (hY : ∀ (w : World) (h : Heap), YP w h → (K w.params).In h)
    (F : ∀ (w : World) (mg : Str → Option Value) (fa : Addr) (h : Heap), (K w.params).In h → h.Ns mainGlobals mg → mg d.name = some (.ref fa) →
      ∃ fd : FuncData, (∀ (s : Shared) (u : Value), BindsTo s fd ⟨[u], []⟩ [(x, u)]) ∧
        ∀ base : Heap, (K w.params).In base → base.Ns mainGlobals mg → FnOk l.prog w (K w.params) mg base (CX w) k fa fd [x] (sp w))
    (hsp : ∀ (w : World) (H : Hp) (a : Addr) (ns : List Int), ns.length ≤ n → Only H → SqL (K w.params) H a (ns.map V.int) → sp w [.ref a] H (fun v _ => v = .bl true) fun _ _ _ => False)
    (hCX : ∀ (w : World) (H : Hp) (s : Shared) (e : Value) (s' : Shared), CX w [] H s (fun _ _ _ => False) e s' → False) :
    PySem.W.WalkO q loose XP YP l.row.toRowW d [] (fun f vs => PySem.call f vs) := by
  refine Att.attach_call hn hdf fun w s₀ s₁ mg mb fa o pm cd doc a vs ns G Y ho hd hcd hmg hobj hints hlen hg => ?_
  have KX := hY w _ Y
  obtain ⟨fd, hb, hF⟩ := F w mg fa _ KX G.T.g hmg
  exact law_call KX G.T.g G.T.b G.T.builtins G.T.nolimit hg hobj hints (Nat.le_trans hlen hn2) hr hF hb (fun H hO hS => hsp w H a ns hlen hO hS) fun H e s' => hCX w H s₁ e s'

end L2




namespace L2
open PySem PySem.Spec PyProof.Rows



def defArgs (s : Stmt) : Arguments := match s with
  | .FunctionDef _ a _ _ _ _ _ _ _ _ => a
  | _ => { posonlyargs := [], args := [], vararg := none, kwonlyargs := [], kw_defaults := [], kwarg := none, defaults := [] }
def defBody (s : Stmt) : List Stmt := match s with
  | .FunctionDef _ _ b _ _ _ _ _ _ _ => b
  | _ => []
def defScope (s : Stmt) : Scope := match s with
  | .FunctionDef _ _ _ _ _ _ sc _ _ _ => sc
  | _ => { kind := .function, names := [], isGenerator := false, isCoroutine := false }


abbrev CX0 : CXT := fun _ _ _ _ _ _ => False
abbrev E0 : XK := fun _ _ _ => False
structure Fun (K : PySem.W.Frag) (x qual : Str) (st : Stmt) (f : Addr) (fd : FuncData) : Prop where
  ex : ∃ (oc : Value) (od : Option Addr) (kV doc pm : Value) (an : Option Addr) (cdv ct : Value) (osl : Array (Option Value)),
    fd = PySem.W.fnOf x qual (defArgs st) (defBody st) (defScope st) .none kV doc pm an cdv ct ∧ K.lookup f = some ⟨oc, od, .func fd, osl⟩ ∧ PySem.W.codeIn K cdv qual = true
  kp : PySem.W.keepIn K (.ref f) = true
section
variable {P : Program} {w : World} {K : PySem.W.Frag} {mg : Str → Option Value} {base : Heap}

theorem Fun.ok {x qual : Str} {st : Stmt} {f : Addr} {fd : FuncData} {N ps : List Str} {k : Nat} {sp : Sp} (F : Fun K x qual st f fd) (S : FnScope N ps (defScope st)) (len : ∀ vs H Q E, sp vs H Q E → vs.length = ps.length)
    (hbody : ∀ (cdv : Value) (A : Around) (outer : List Env) (s : Shared) (H : Hp) (vs : List V) (Q : VK) (E : XK), Room k (A.deeper (envOfC qual (defScope st) s.heap.objs.size f cdv)) → sp vs H Q E →
      ∃ t, PSs (cxOf CX0 P w K mg base N qual (defScope st) f cdv A outer s H E).nox (defBody st) t ∧ t { nx := fun _ H' => Q .non H', rt := Q } (start N vs) H) : FnOk P w K mg base CX0 (k + 1) f fd ps sp := by
  obtain ⟨oc, od, kV, doc, pm, an, cdv, ct, osl, rfl, lk, hcd⟩ := F.ex
  refine fn_of lk hcd S len fun A outer s H vs Q E hr hsp => ?_
  obtain ⟨t, h, q⟩ := hbody cdv A outer s H vs Q E hr hsp
  exact ⟨t, h.nox, q⟩

theorem Fun.binds {x qual : Str} {st : Stmt} {f : Addr} {fd : FuncData} {ps : List Str} (F : Fun K x qual st f fd)
    (h : ∀ (kV doc pm : Value) (an : Option Addr) (cdv ct : Value) (us : List Value), us.length = ps.length → bindArgs (PySem.W.fnOf x qual (defArgs st) (defBody st) (defScope st) .none kV doc pm an cdv ct) ⟨us, []⟩ = pure (ps.zip us)) : Binds K fd ps [] := by
  obtain ⟨oc, od, kV, doc, pm, an, cdv, ct, osl, rfl, lk, hcd⟩ := F.ex
  exact .all (h kV doc pm an cdv ct)
theorem fun_mk {x qual : Str} {st : Stmt} {f : Addr} {oc : Value} {od an : Option Addr} {osl : Array (Option Value)} {kV doc pm cdv ct : Value} (l : K.lookup f = some ⟨oc, od, .func (PySem.W.fnOf x qual (defArgs st) (defBody st) (defScope st) .none kV doc pm an cdv ct), osl⟩)
    (c : PySem.W.codeIn K cdv qual = true) (k : PySem.W.keepIn K (.ref f) = true) : Fun K x qual st f (PySem.W.fnOf x qual (defArgs st) (defBody st) (defScope st) .none kV doc pm an cdv ct) := ⟨⟨oc, od, kV, doc, pm, an, cdv, ct, osl, rfl, l, c⟩, k⟩
end
section
variable {X : Cx}
theorem pv (i : Nat) {x : Str} {pos : Pos} (hN : X.N[i]? = some x := by rfl) (hv : Vis X.env.scope x := by first | exact Or.inl rfl | exact Or.inr (Or.inl rfl) | exact Or.inr (Or.inr rfl)) (hd : (x == ("__debug__" : Str)) = false := by decide)
    (hcd : (x == ("__classdict__" : Str)) = false := by decide) : PE X (.Name x pos) (tVar i) := pe_var hN hv hd hcd
end


theorem ite2 {c A B : Prop} [Decidable c] (h1 : c → A) (h2 : ¬ c → B) : if c then A else B := by
  by_cases h : c
  · rw [if_pos h]
    exact h1 h
  · rw [if_neg h]
    exact h2 h
def Same (H H' : Hp) : Prop := ∀ b o, H b = some o → H' b = some o
theorem Same.refl (H : Hp) : Same H H := fun _ _ h => h
theorem Same.trans {H H1 H2 : Hp} (a : Same H H1) (b : Same H1 H2) : Same H H2 := fun c o h => b c o (a c o h)
theorem Same.free {H H' : Hp} (e : Same H H') {l : Addr} (h : H' l = Option.none) : H l = Option.none := by
  cases q : H l with
  | none => rfl
  | some o =>
    rw [e l o q] at h
    cases h
theorem Same.seq {K : PySem.W.Frag} {H H' : Hp} {a : Addr} {xs : List V} (e : Same H H') (h : SqL K H a xs) : SqL K H' a xs := by
  rcases h with (h | ⟨o, h⟩) | h
  · exact .inl (.inl (e _ _ h))
  · exact .inl (.inr ⟨o, e _ _ h⟩)
  · exact .inr h

end L2


set_option Elab.async false
set_option linter.all false
set_option maxRecDepth 100000
set_option maxHeartbeats 1000000
namespace L2
open PySem PySem.Spec PyProof.Rows


theorem closure_in {env : Env} : ∀ (names : List (Str × NameKind)) (cs0 : List (Str × Addr)), (∀ y ∈ names, y.2 = .free → ∃ c, env.cells.lookup y.1 = some c) →
    ∃ cl, (forIn names cs0 (fun (x : Str × NameKind) r => (do
      match x with
      | (name, kind) => if (kind == NameKind.free) = true then do let a ← cellOf env name; pure (ForInStep.yield ((name, a) :: r)) else pure (ForInStep.yield r)) : _ → _ → Sem (ForInStep (List (Str × Addr))))) = pure cl ∧
      (∀ p ∈ cl, p ∈ cs0 ∨ env.cells.lookup p.1 = some p.2) ∧ (∀ p ∈ cs0, p ∈ cl) ∧ (∀ y ∈ names, y.2 = .free → ∃ c, (y.1, c) ∈ cl)
  | [], cs0, _ => ⟨cs0, rfl, fun p h => .inl h, fun p h => h, fun y h => by cases h⟩
  | (n, k) :: r, cs0, h => by
    by_cases hk : k = .free
    · subst hk
      obtain ⟨c, hc⟩ := h (n, .free) (.head _) rfl
      obtain ⟨cl, e, h1, h2, h3⟩ := closure_in r ((n, c) :: cs0) fun y hy => h y (.tail _ hy)
      refine ⟨cl, ?_, fun p hp => ?_, fun p hp => h2 p (.tail _ hp), fun y hy hf => ?_⟩
      · rw [List.forIn_cons]
        have e1 : cellOf env n = pure c := by unfold cellOf; rw [hc]
        simp only [beq_self_eq_true, if_true, e1, pure_bind]
        exact e
      · rcases h1 p hp with q | q
        · rcases List.mem_cons.mp q with q | q
          · subst q; exact .inr hc
          · exact .inl q
        · exact .inr q
      · rcases List.mem_cons.mp hy with q | q
        · subst q; exact ⟨c, h2 _ (.head _)⟩
        · exact h3 y q hf
    · obtain ⟨cl, e, h1, h2, h3⟩ := closure_in r cs0 fun y hy => h y (.tail _ hy)
      refine ⟨cl, ?_, h1, h2, fun y hy hf => ?_⟩
      · rw [List.forIn_cons]
        have e1 : (k == NameKind.free) = false := by cases k <;> first | rfl | exact absurd rfl hk
        simp only [e1, Bool.false_eq_true, if_false, pure_bind]
        exact e
      · rcases List.mem_cons.mp hy with q | q
        · subst q; exact absurd hf hk
        · exact h3 y q hf
theorem lookup_relabel_inv {env : Env} : ∀ {names : List (Str × NameKind)} {x : Str} {k : NameKind}, (names.map fun (n, k) => if (k == NameKind.free && env.scope.kind == .function && env.kindOf n == some .cell) then (n, NameKind.cell) else (n, k)).lookup x = some k →
    ∃ k', names.lookup x = some k' ∧ (k = k' ∨ (k' = .free ∧ k = .cell))
  | [], _, _, h => by simp at h
  | (n, k0) :: r, x, k, h => by
    by_cases hx : x = n
    · subst hx
      refine ⟨k0, by simp, ?_⟩
      simp only [List.map_cons] at h
      split at h
      · rename_i hc
        simp only [Bool.and_eq_true, beq_iff_eq] at hc
        simp only [List.lookup_cons_self, Option.some.injEq] at h
        exact .inr ⟨hc.1.1, h.symm⟩
      · simp only [List.lookup_cons_self, Option.some.injEq] at h
        exact .inl h.symm
    · have hb : (x == n) = false := by simpa using hx
      simp only [List.map_cons] at h
      have e2 : ∀ k1, ((n, k1) :: r).lookup x = r.lookup x := fun k1 => by simp [List.lookup_cons, hb]
      split at h <;> (simp only [List.lookup_cons, hb] at h; obtain ⟨k', h1, h2⟩ := lookup_relabel_inv h; exact ⟨k', by rw [e2]; exact h1, h2⟩)


def compCx (X : Cx) (Nc : List Str) (scope : Scope) (cl : List (Str × Addr)) (C : Addr) (s2 : Shared) (H2 : Hp) (fp : List Addr) : Cx where
  prog := X.prog
  w := X.w
  K := X.K
  mg := X.mg
  base := X.base
  A := X.A
  N := Nc
  s₀ := s2
  H₀ := H2
  env := compEnvC scope cl C X.env
  outer := X.stack
  stack := X.stack
  ex := fp
  fn := fun _ => false
  calm := X.calm
  pn := []
  xe := fun _ _ => False

def iniC (js : List (Option Nat)) (σ : St) : St := js.map fun j => match j with
  | none => none
  | some i => (σ[i]?).join

def takesC (N Nc : List Str) (scope : Scope) : List (Option Nat) → Nat → Bool
  | [], i => i == Nc.length
  | none :: r, i => takesC N Nc scope r (i + 1)
  | some j :: r, i => (match Nc[i]?, N[j]? with
    | some x, some y => x == y && scope.names.lookup x == some .free
    | _, _ => false) && takesC N Nc scope r (i + 1)
theorem takesC_len {N Nc : List Str} {scope : Scope} : ∀ {js : List (Option Nat)} {i : Nat}, takesC N Nc scope js i = true → i + js.length = Nc.length
  | [], i, h => by simpa [takesC] using h
  | none :: r, i, h => by
    have := takesC_len (js := r) (i := i + 1) (by simpa [takesC] using h)
    simp only [List.length_cons]; omega
  | some j :: r, i, h => by
    simp only [takesC, Bool.and_eq_true] at h
    have := takesC_len (js := r) (i := i + 1) h.2
    simp only [List.length_cons]; omega
theorem takesC_at {N Nc : List Str} {scope : Scope} : ∀ {js : List (Option Nat)} {i k j : Nat}, takesC N Nc scope js i = true → js[k]? = some (some j) → ∃ x, Nc[i + k]? = some x ∧ N[j]? = some x ∧ scope.names.lookup x = some .free
  | [], i, k, j, h, e => by simp at e
  | none :: r, i, 0, j, h, e => by simp at e
  | none :: r, i, k + 1, j, h, e => by
    obtain ⟨x, h1, h2, h3⟩ := takesC_at (js := r) (i := i + 1) (k := k) (j := j) (by simpa [takesC] using h) (by simpa using e)
    exact ⟨x, by rw [← h1]; congr 1; omega, h2, h3⟩
  | some j0 :: r, i, 0, j, h, e => by
    simp only [takesC, Bool.and_eq_true] at h
    simp only [List.getElem?_cons_zero, Option.some.injEq] at e
    subst e
    cases e1 : Nc[i]? with
    | none => rw [e1] at h; simp at h
    | some x =>
      cases e2 : N[j0]? with
      | none => rw [e1, e2] at h; simp at h
      | some y =>
        rw [e1, e2] at h
        simp only [Bool.and_eq_true, beq_iff_eq] at h
        exact ⟨x, by simpa using e1, by rw [h.1.1], h.1.2⟩
  | some j0 :: r, i, k + 1, j, h, e => by
    simp only [takesC, Bool.and_eq_true] at h
    obtain ⟨x, h1, h2, h3⟩ := takesC_at (js := r) (i := i + 1) (k := k) (j := j) h.2 (by simpa using e)
    exact ⟨x, by rw [← h1]; congr 1; omega, h2, h3⟩

section
variable {X : Cx}
theorem lookup_mem {names : List (Str × NameKind)} {x : Str} {k : NameKind} (h : names.lookup x = some k) : (x, k) ∈ names := PySem.mem_of_lookup h


theorem codeAny_compLoop_all {prog : Program} {w : World} {A : Around} {R : Result → Shared → Prop} {s : Shared} {elt target iter : Expr} {ifs : List Expr} {scope : Scope} {pos : Pos} {it acc : Value} {env : Env} (I : Nat → Shared → Prop)
    (turn : ∀ n s, I n s → wpAny (model prog w) A (pyNext it) (fun r s₁ => match r with
      | none => R (.ok .next) s₁
      | some v => wpAny (model prog w) A (letOwnedTupleGo target it v) (fun _ s₁ => wpAny (model prog w) A (assign target env v) (fun _ s₂ =>
          wpAny (model prog w) A (forIn ifs true fun c r => if r = true then do let ok ← isTrue c env (eval c env); pure (ForInStep.yield ok) else pure (ForInStep.yield r)) (fun ok s₃ =>
            if ok = true then wpAny (model prog w) A (eval elt env) (fun x s₄ =>
              wpAny (model prog w) A (call (.builtin "list.append") [acc, x]) (fun _ s₅ => ∃ m, m < n ∧ I m s₅) (fun _ _ => False) s₄) (fun _ _ => False) s₃
            else ∃ m, m < n ∧ I m s₃) (fun _ _ => False) s₂) (fun _ _ => False) s₁) (fun _ _ => False) s₁) (fun _ _ => False) s)
    (n : Nat) (h : I n s) :
    codeAny (model prog w) A (.compLoop (.ListComp elt [⟨target, iter, ifs, 0⟩] scope pos) 0 it acc env) R s := by
  refine codeAny_loop rfl I (fun n s hI => ?_) n h
  show wpAny _ A ((compTurn (.ListComp elt [⟨target, iter, ifs, 0⟩] scope pos) 0 it acc env).onRaise (fun x => do noteFrame x env; theTreesLotGoes x)) _ _ s
  refine wpAny_noted ?_
  rw [compTurn_list]
  refine wpAny_bind (wpAny_standAt (wpAny_bind (wpAny_mono (turn n s hI) (fun r s₁ h₁ => ?_) fun _ _ h' => h'.elim)))
  cases r with
  | none => exact wpAny_pure h₁
  | some v =>
    refine wpAny_bind (wpAny_mono h₁ (fun _ s₁' h₁ => ?_) fun _ _ h' => h'.elim)
    refine wpAny_bind (wpAny_mono h₁ (fun _ s₂ h₂ => wpAny_bind (wpAny_mono h₂ (fun ok s₃ h₃ => ?_) fun _ _ h' => h'.elim)) fun _ _ h' => h'.elim)
    cases ok with
    | false => exact wpAny_pure ⟨rfl, h₃⟩
    | true =>
      exact wpAny_bind (wpAny_bind (wpAny_mono h₃ (fun x s₄ h₄ => wpAny_bind (wpAny_mono h₄ (fun _ s₅ h₅ => wpAny_pure (wpAny_pure ⟨rfl, h₅⟩)) fun _ _ h' => h'.elim)) fun _ _ h' => h'.elim))


def PIfs (X : Cx) (ifs : List Expr) (t : TT) : Prop :=
  ∀ (pins : List (Addr × Obj)) (s : Shared) (σ : St) (H : Hp) (Q : Bool → Hp → Prop), Inv X pins σ H s → t σ H Q →
    wpAny (model X.prog X.w) X.A (forIn ifs true fun c r => if r = true then do let ok ← isTrue c X.env (eval c X.env); pure (ForInStep.yield ok) else pure (ForInStep.yield r)) (TP X pins σ Q) X.xe s
def tYes : TT := fun _ H Q => Q true H
theorem pifs_nil : PIfs X [] tYes := fun pins s σ H Q I h => wpAny_tests_nil ⟨H, I, h⟩
theorem pifs_one {c : Expr} {t : TT} (h : PT X c t) : PIfs X [c] t := fun pins s σ H Q I hq => wpAny_tests_one (h pins s σ H Q I hq)


def KeepOn (L : List Nat) (σ σ' : St) : Prop := σ'.length = σ.length ∧ ∀ k, k ∉ L → σ'[k]? = σ[k]?
def OnlyG (g : TG) (L : List Nat) : Prop := ∀ v σ H (Q Q' : St → Hp → Prop), (∀ σ' H', KeepOn L σ σ' → Q σ' H' → Q' σ' H') → g v σ H Q → g v σ H Q'
theorem KeepOn.refl {L : List Nat} {σ : St} : KeepOn L σ σ := ⟨rfl, fun _ _ => rfl⟩
theorem KeepOn.trans {L L' : List Nat} {a b c : St} (x : KeepOn L a b) (y : KeepOn L' b c) : KeepOn (L ++ L') a c :=
  ⟨y.1.trans x.1, fun k hk => (y.2 k fun z => hk (List.mem_append_right _ z)).trans (x.2 k fun z => hk (List.mem_append_left _ z))⟩
theorem only_name {i : Nat} : OnlyG (gName i) [i] := fun v σ H Q Q' hq h => hq _ _ ⟨by simp, fun k hk => by
  rw [List.getElem?_set_ne]
  intro z; subst z; exact hk (by simp)⟩ h
def tComp (wi : TI) (g : TG) (tt : TT) (te : TE) (js : List (Option Nat)) : TE := fun σ H Q => wi σ H fun J H1 => ∃ W : Nat → Nat → List V → Hp → Prop, (∃ m, W 0 m [] H1) ∧ ∀ i m acc H, W i m acc H →
  (J.stop i H ∧ acc.length ≤ sizeLine ∧ ∀ p, H p = none → Q (.ref p) (upd H p (.lst acc))) ∨
  (J.go i H ∧ acc.length < sizeLine ∧ ∀ x H', J.yld i H x H' → g x (iniC js σ) H' fun σ2 H2 => tt σ2 H2 fun b H3 => if b = true then te σ2 H3 fun v H4 => ∃ m', m' < m ∧ W (i + 1) m' (acc ++ [v]) H4 else ∃ m', m' < m ∧ W (i + 1) m' acc H3)


theorem sameBut_refl {C : Addr} {h : Heap} : Heap.SameBut C h h := by
  first | exact Heap.SameBut.refl | exact ⟨rfl, fun _ _ => rfl⟩

end
end L2


set_option Elab.async false
set_option linter.all false
set_option maxRecDepth 100000
set_option maxHeartbeats 1000000
namespace L2
open PySem PySem.Spec PyProof.Rows PySem.W PySem.Builtin.ObjectAttr PySem.Builtin.Getset_descriptor


def ExAt (x C : Addr) (h : Heap) : Prop := ∃ o, h.get? x = some o ∧ o.cls = .ref C

structure ExK (K : Frag) (C : Addr) : Prop where
  dk : hasDictIn K C = true
  ga : findIn K (.ref C) "__getattribute__" = some (some (.builtin "BaseException.__getattribute__"))
  gt : findIn K (.ref C) "__getattr__" = some none
  cl : findIn K (.ref C) "__class__" = some (some (.builtin "object.__class__"))
  gg : specialIn K (.builtin "object.__class__") "__get__" = some (some (.builtin "getset_descriptor.__get__"))
  tk : takesIn K (.builtin "object.__class__") = some true
  mo : mroIn K C (.type "object") = some true
  mb : mroIn K C (.type "BaseException") = some true
section
variable {K : Frag} {x C : Addr}
theorem ExAt.type {M : Model} {h : Heap} (I : ExAt x C h) : Looks M h (typeOf (.ref x)) (.ref C) := by
  obtain ⟨o, e, c⟩ := I
  exact c ▸ (Looks.ld e).andThen .now
theorem exa_find {M : Model} {h : Heap} (X : K.In h) (Z : ExK K C) : Looks M h (find (.ref x) (.ref C) "__class__") (.bind (.builtin "getset_descriptor.__get__") (.builtin "object.__class__")) := by
  have L3 := looks_takesIn (M := M) X Z.tk
  exact (looks_findIn (M := M) X Z.cl).andThen ((looks_specialIn X Z.gg).andThen
    ((show Looks M h (dataDescriptor? (some (.builtin "object.__class__")) (some (.builtin "getset_descriptor.__get__"))) (some (.builtin "getset_descriptor.__get__", .builtin "object.__class__")) from L3.andThen .now).andThen (Looks.tag .now)))
theorem exa_get {prog : Program} {w : World} {A : Around} {R : Result → Shared → Prop} {s : Shared} {tp : Value} (X : K.In s.heap) (I : ExAt x C s.heap) (Z : ExK K C) (hR : R (.ok (.ret (.ref C))) s) :
    codeAny (model prog w) A (.call (.builtin "getset_descriptor.__get__") ⟨[.builtin "object.__class__", .ref x, tp], []⟩) R s := by
  obtain ⟨hp, gn, dw, tk, os⟩ := s
  have L0 := I.type (M := model prog w)
  have L1 := looks_mroIn (M := model prog w) X Z.mo
  refine codeAny_call_builtin KF.slot_gs.plain KF.entry_gs (KF.slot_gs.check _ _ _ _ _ _ _ _ KF.type_class (KF.args_gs _ _ _) ?_)
  unfold Builtin.«getset_descriptor.__get__» descrGet; rw [dga_obj]; refine wpAny_bind (wpAny_pure ?_)
  unfold descrGetter descrCheckInstance descrNameAndClass isInstance; simp only [KF.owner_class]
  repeat lk
  refine ⟨Code.quiet_builtin _ (by decide +kernel), codeAny_builtin KF.entry_class ?_⟩; unfold Builtin.«object.__class__» shownTypeOf
  repeat lk
  exact hR
theorem exa_entry {prog : Program} {w : World} {A : Around} {E : Value → Shared → Prop} {s : Shared} {tk : Tok} {Q : Fin → Shared → Prop} (X : K.In s.heap) (I : ExAt x C s.heap) (Z : ExK K C) (hQ : Q (.done (.ret (.ref C))) s) :
    wpAny (model prog w) A (Builtin.«object.__getattribute__» ⟨[.ref x, .str "__class__" tk], []⟩) Q E s := by
  obtain ⟨hp, gn, dw, t, os⟩ := s
  have L0 := I.type (M := model prog w)
  have L2 := exa_find (M := model prog w) (x := x) X Z
  unfold Builtin.«object.__getattribute__»
  refine wpAny_bind (wpAny_pure (wpAny_bind (wpAny_pure (wpAny_bind (L0.at (wpAny_bind (L2.at ?_)))))))
  show wpAny _ _ (holding _ (call _ _) >>= ret) _ _ _
  exact wpAny_bind (wpAny_holding (wpAny_call (exa_get (s := ⟨hp, gn, dw, t, os⟩) X I Z (wpAny_pure hQ))))
theorem exa_check {M : Model} {A : Around} {E : Value → Shared → Prop} {s : Shared} {nameV : Value} {Q : Unit → Shared → Prop} (X : K.In s.heap) (I : ExAt x C s.heap) (Z : ExK K C) (hq : Q () s) :
    wpAny M A (checkBuiltinCall "BaseException.__getattribute__" ⟨[.ref x, nameV], []⟩) Q E s := by
  obtain ⟨hp, gn, dw, t, os⟩ := s
  have hk : builtinKind "BaseException.__getattribute__" = some .slot := by decide +kernel
  have hsplit : splitId "BaseException.__getattribute__" = some ("BaseException", "__getattribute__") := by decide +kernel
  have L0 := I.type (M := M)
  have L1 := looks_mroIn (M := M) X Z.mb
  have ha := F.args_bexc_ga (.ref x) nameV
  simp only [checkBuiltinCall, hk, hsplit]
  refine wpAny_bind ?_
  unfold isInstance
  refine wpAny_bind (L0.at (L1.at ?_))
  repeat (first | assumption | wp_step)
theorem exa_class {prog : Program} {w : World} {A : Around} {E : Value → Shared → Prop} {s : Shared} {Q : Option Value → Shared → Prop} (X : K.In s.heap) (I : ExAt x C s.heap) (Z : ExK K C) (hQ : Q (some (.ref C)) { s with toks := s.toks + 1 }) :
    wpAny (model prog w) A (getAttr? (.ref x) "__class__") Q E s := by
  obtain ⟨hp, gn, dw, tk, os⟩ := s
  have L0 := I.type (M := model prog w)
  have L1 := looks_findIn (M := model prog w) X Z.ga
  have L3 := looks_findIn (M := model prog w) X Z.gt
  have hb := (F.attrBase_ValueError.ga).bind (.ref x)
  unfold getAttr? getAttrBy? getAttrBy; refine wpAny_bind (wpAny_mkText (wpAny_bind (wpAny_attempt (wpAny_holding (wpAny_bind (L0.at (wpAny_bind (L1.at ?_))))))))
  show wpAny _ _ (getAttrByItsOwn _ _ _ _ _ _) _ _ _
  unfold getAttrByItsOwn hookBefore
  refine wpAny_bind (L3.at ?_)
  refine wpAny_bind (wpAny_attempt (wpAny_holding ?_))
  unfold callGetattribute
  show wpAny _ _ (boundAndCalled _ _ _) _ _ _
  unfold boundAndCalled
  rw [hb]
  refine wpAny_bind (wpAny_pure ?_)
  refine wpAny_call ?_
  refine codeAny_call_builtin F.attrBase_ValueError.ga.plain F.entry_bexc_ga (exa_check (s := ⟨hp, gn, dw, tk + 1, os⟩) X I Z (exa_entry (s := ⟨hp, gn, dw, tk + 1, os⟩) X I Z ?_))
  exact handed_on rfl (wpAny_pure hQ)
theorem exa_kit (Z : ExK K C) : KitX K (.ref x) (.ref C) (ExAt x C) where
  ty := fun _ _ _ I => I.type
  it := fun _ _ X _ => by
    obtain ⟨cdD, hcD, _⟩ := any_some Z.dk
    unfold clsIn at hcD
    split at hcD
    · rename_i c' d' cd' sl' ho
      intro A' Q' E' s' k q
      unfold isType loadHead; exact wpAny_bind (wpAny_loadPart (k _ _ (X _ _ ho)) (wpAny_pure q))
    · cases hcD
  ne := fun h tp dd its n sl X htp => by
    obtain ⟨cdD, hcD, _⟩ := any_some Z.dk
    refine Bool.eq_false_iff.mpr fun q => ?_
    have e : C = tp := Value.ref.inj (beq_iff_eq.mp q); subst e
    unfold clsIn at hcD
    split at hcD
    · rename_i c' d' cd' sl' ho
      have z := (X _ _ ho).symm.trans htp; cases z
    · cases hcD
  ca := fun X I k => exa_class X I Z k
end


def ExcO (e C : Addr) : HO := .ext (ExAt e C)

def tyIs (K : Frag) (H : Hp) (x : V) (c : Value) (b : Bool) : Prop :=
  (∃ t, TyOf K H x t ∧ kitOne K t c = some b) ∨ ∃ e C, x = .ref e ∧ H e = some (ExcO e C) ∧ ExK K C ∧ kitOne K (.ref C) c = some b

def cOf : V → Option Value
  | .ref a => some (.ref a)
  | .ty n => some (.type n)
  | _ => none
section
variable {X : Cx}
def rIsi (K : Frag) : List V → Hp → VK → Prop := fun xs H Q => ∃ x v c b, xs = [x, v] ∧ cOf v = some c ∧ tyIs K H x c b ∧ Q (.bl b) H
theorem call_isi : CallR X (.builtin "isinstance") (rIsi X.K) := by
  intro pins s σ H xs us Q I r h
  obtain ⟨x, v, c, b, rfl, hc, ht, q⟩ := h
  obtain ⟨u, u2, rfl, ru, ru2⟩ := r.two
  have e2 : u2 = c := by
    cases v with
    | ref a => have := (show u2 = Value.ref a from ru2); cases hc; exact this
    | ty n => have := (show u2 = Value.type n from ru2); cases hc; exact this
    | _ => cases hc
  subst e2
  have fin : ∀ tk, EP X pins σ Q (.bool b) { s with toks := tk } := fun tk => ⟨.bl b, H, I.tok tk, rfl, q⟩
  rcases ht with ⟨t, ty, e⟩ | ⟨e, C, rfl, hH, Z, e1⟩
  · exact isinst_ok I ru ty e fin
  · cases (show u = Value.ref e from ru)
    obtain ⟨p, _, _⟩ := (show ObjOk X.prog X.w H s.heap e (ExcO e C) from I.hok e _ hH)
    exact kia_one (exa_kit Z) I.kIn p e1 (fun z => nomatch z) fin
end
end L2


set_option Elab.async false
set_option linter.all false
set_option maxRecDepth 100000
set_option maxHeartbeats 1000000
namespace L2
open PySem PySem.Spec PyProof.Rows


theorem ObjOk.has {P : Program} {w : World} {H : Hp} {h : Heap} {a : Addr} {o : HO} (x : ObjOk P w H h a o) : ∃ u, h.get? a = some u := by
  induction o with
  | lst xs => obtain ⟨_, _, _, _, e⟩ := x; exact ⟨_, e⟩
  | tup xs => obtain ⟨_, _, _, o, e, _⟩ := x; exact ⟨_, e⟩
  | dK kvs => obtain ⟨_, _, _, _, o, _, _, e, _⟩ := x; exact ⟨_, e⟩
  | dT kvs => obtain ⟨_, _, _, _, o, _, _, e, _⟩ := x; exact ⟨_, e⟩
  | set S n => obtain ⟨o, _, _, _, e, _⟩ := x; exact ⟨_, e⟩
  | ins C dx fs => obtain ⟨_, _, _, e, _⟩ := x; exact ⟨_, e⟩
  | own y => exact x
  | xd fs => obtain ⟨_, ⟨_, _, _, e, _⟩, _⟩ := x; exact ⟨_, e⟩
  | rng lo hi => obtain ⟨_, _, _, e⟩ := x; exact ⟨_, e⟩
  | frz ob u _ => obtain ⟨e, _⟩ := x; exact ⟨_, e⟩
  | tbl ps => exact ⟨_, x⟩
  | met f y => exact ⟨_, x⟩
  | ext φ => obtain ⟨_, e, _⟩ := x; exact e


structure Fly (P : Program) (w : World) (outer : List Env) (H : Hp) (s : Shared) (H' : Hp) (B : Heap) (e : Addr) (C a0 : Value) (s' : Shared) : Prop where
  os : s'.os = s.os
  bare : AllBare s'.gens
  fly : Heap.FlyingW B outer e C a0 s'.heap
  hok : HOk P w H' B
  keep : ∀ b o, s.heap.get? b = some o → H b = none → b ∉ frs outer → B.get? b = some o
  slot : ∀ b o, s.heap.get? b = some o → b ∈ frs outer → (∀ vs, o.data ≠ .fields vs) → ∃ sl, s'.heap.get? b = some { o with slots := sl }
  free : ∀ b o, s.heap.get? b = some o → H b = none → H' b = none
  there : ∀ b o, s.heap.get? b = some o → b ∉ frs outer → ∃ o', B.get? b = some o'
  tups : ∀ b xs, H b = some (.tup xs) → H' b = some (.tup xs)
  frzs : ∀ b o u, H b = some (.frz o u) → H' b = some (.frz o u)
  tbls : ∀ b ps, H b = some (.tbl ps) → ∃ more, H' b = some (.tbl (ps ++ more))
def CXE (P : Program) (w : World) : CXT := fun outer H s E ev s' => ∃ e C a0 H' B, ev = .ref e ∧ Fly P w outer H s H' B e C a0 s' ∧ E C none H'
theorem passE {P : Program} {w : World} {X : Cx} : Passes (CXE P w) X E0 := fun _ _ _ _ _ _ _ ⟨_, _, _, _, _, _, _, z⟩ => z.elim

section
variable {P : Program} {w : World} {K : PySem.W.Frag} {mg : Str → Option Value} {base : Heap} {N : List Str} {qual : Str} {scope : Scope} {f : Addr} {cd : Value} {A : Around} {outer : List Env} {s : Shared} {H : Hp} {E : XK}

theorem raise_leaves {pins : List (Addr × Obj)} {σ : St} {H1 : Hp} {s1 : Shared} {h' : Heap} {e : Addr} {C : Value} {vs : List Value} (I : Inv (cxOf (CXE P w) P w K mg base N qual scope f cd A outer s H E) pins σ H1 s1)
    (hx : Heap.MadeExcOf s1.heap h' e C vs) (hE : E C none H1) : (cxOf (CXE P w) P w K mg base N qual scope f cd A outer s H E).xe (.ref e) { s1 with heap := h' } := by
  let env := envOfC qual scope s.heap.objs.size f cd
  let B := PySem.W.hideAll s1.heap (frs (env :: outer))
  have hin : ∀ en ∈ (env :: outer), ∀ b, en.frame = some b → b ∈ frs (env :: outer) := fun en he b hb => List.mem_filterMap.mpr ⟨en, he, hb⟩
  have st : s1.heap.FunFrames base (env :: outer) := I.stack
  have loc : ∀ b, b ∈ frs (env :: outer) → b = s.heap.objs.size ∨ b ∈ frs outer := fun b hb => List.mem_cons.mp (I.stkSub b hb)
  have old : ∀ b o, s.heap.get? b = some o → b ∉ frs outer → b ∉ frs (env :: outer) := fun b o q nb hb => by
    rcases loc b hb with z | z
    · exact absurd (Heap.lt_size q) (by rw [z]; exact Nat.lt_irrefl _)
    · exact nb z
  have un : Un (frs outer) [] H H1 s.heap s1.heap := I.base
  have hokB : HOk P w H1 B := fun a o q => by
    have nf : ∀ b o, H1 b = some o → b ∉ frs (env :: outer) := fun b o z hb => by
      have := I.stkFree b hb
      rw [this] at z; cases z
    refine (I.hok a o q).stay (fun b u hb z => ?_) (fun _ z => z) fun _ _ z => z
    rcases hb with hb | hb
    · rw [hb] at z ⊢; exact PySem.W.hideAll_get _ z (nf a o q)
    · exact PySem.W.hideAll_get _ z (nf b _ hb)
  refine wpAny_leaves_madeW (base := B) (h := s1.heap) (env := env) (outer := outer) (L := s.heap.objs.size) I.ok.frames rfl (fun b o q => PySem.W.of_hideAll _ q) (PySem.W.funFrames_hide st hin) hx fun h2 t x1 x2 x3 x4 => ?_
  refine ⟨e, C, .ref t, H1, B, rfl, ⟨I.os, I.bare, x1, hokB, fun b o q n nb => ?_, fun b o q hb hd => ?_, fun b o q n => un.free b o q n (by simp), fun b o q nb => ?_, un.tups, un.frzs, un.tbls⟩, hE⟩
  · exact PySem.W.hideAll_get _ (un.keep b o q n nb (by simp)) (old b o q nb)
  · obtain ⟨sl, z⟩ := un.slot b o q (I.ok.frf b hb) hb (by simp)
    obtain ⟨sl2, z2⟩ := x4 b _ (hx.keeps _ _ z) hd
    exact ⟨sl2, z2⟩
  · obtain ⟨o', z⟩ := un.there b o q (by simp)
    exact ⟨o', PySem.W.hideAll_get _ z (old b o q nb)⟩

theorem pass_on : Passes (CXE P w) (cxOf (CXE P w) P w K mg base N qual scope f cd A outer s H E) E := by
  intro pins σ H1 s1 ev s2 I h
  obtain ⟨e, C, a0, H', B, rfl, F, hE⟩ := h
  let env := envOfC qual scope s.heap.objs.size f cd
  have un : Un (frs outer) [] H H1 s.heap s1.heap := I.base
  have loc : ∀ b, b ∈ frs (env :: outer) → b = s.heap.objs.size ∨ b ∈ frs outer := fun b hb => List.mem_cons.mp (I.stkSub b hb)
  have old : ∀ b o, s.heap.get? b = some o → b ∉ frs outer → b ∉ frs (env :: outer) := fun b o q nb hb => by
    rcases loc b hb with z | z
    · exact absurd (Heap.lt_size q) (by rw [z]; exact Nat.lt_irrefl _)
    · exact nb z
  refine wpAny_leaves_onW (env := env) (outer := outer) (L := s.heap.objs.size) I.ok.frames rfl F.fly fun h2 x1 x2 => ?_
  refine ⟨e, C, a0, H', B, rfl, ⟨F.os.trans I.os, F.bare, x1, F.hok, fun b o q n nb => F.keep b o (un.keep b o q n nb (by simp)) (un.free b o q n (by simp)) (old b o q nb), fun b o q hb hd => ?_, fun b o q n => ?_, fun b o q nb => ?_, fun b xs z => F.tups b xs (un.tups b xs z), fun b o u z => F.frzs b o u (un.frzs b o u z), fun b ps z => ?_⟩, hE⟩
  · obtain ⟨sl, z⟩ := un.slot b o q (I.ok.frf b hb) hb (by simp)
    obtain ⟨en, he, hf⟩ := List.mem_filterMap.mp hb
    obtain ⟨sl2, z2⟩ := F.slot b _ z (List.mem_filterMap.mpr ⟨en, .tail _ he, hf⟩) hd
    obtain ⟨sl3, z3⟩ := x2 b _ z2 hd
    exact ⟨sl3, z3⟩
  · by_cases hb : b ∈ frs outer
    · have h1 : H1 b = none := un.free b o q n (by simp)
      obtain ⟨sl, z⟩ := un.slot b o q n hb (by simp)
      exact F.free b _ z h1
    · exact F.free b o (un.keep b o q n hb (by simp)) (un.free b o q n (by simp))
  · obtain ⟨o', z⟩ := un.there b o q (by simp)
    exact F.there b o' z (old b o q nb)
  · obtain ⟨m1, z1⟩ := un.tbls b ps z
    obtain ⟨m2, z2⟩ := F.tbls b _ z1
    exact ⟨m1 ++ m2, by rw [← Array.append_assoc]; exact z2⟩
end


abbrev bmV : List Value := [.type "ValueError", .type "Exception", .type "BaseException", .type "object"]
abbrev newV : String := "ValueError.__new__"
theorem own_mk {K : PySem.W.Frag} {h : Heap} {mg : Str → Option Value} {x : Str} {C : Addr} (X : K.In h) (hm : mg x = some (.ref C)) (q : PySem.W.excIn K C bmV newV = true) : OwnCls x C bmV newV mg h := by
  refine ⟨hm, ?_⟩
  unfold PySem.W.excIn at q; split at q
  · rename_i dd cd sl ho
    split at q
    · rename_i C' bm k0 k1 k2 k3 n k5 hmm hs
      simp only [Bool.and_eq_true, beq_iff_eq, Bool.not_eq_true'] at q; obtain ⟨⟨⟨⟨⟨rfl, rfl⟩, hdel⟩, ht⟩, hok⟩, hni⟩ := q
      obtain ⟨nm, bs, mro, ns, qn, hd, sn, sub, ab, col, del⟩ := cd; dsimp only at hmm hdel hok hni; subst hmm hdel
      have hsl : sl = #[k0, k1, k2, k3, some (.builtin newV), k5] := by obtain ⟨l⟩ := sl; simp only at hs; rw [hs]
      subst hsl; exact ⟨bm, ns, nm, qn, bs, hd, sn, sub, ab, col, dd, k0, k1, k2, k3, k5, _, X _ _ ho, .of_isNs (PySem.W.isNs_of_in X hok), PySem.W.nsMap_none_of_in X hok hni, PySem.W.tail_of_in X ht⟩
    · cases q
  · cases q
section
variable {X : Cx}
def tRaise (C : Addr) (E : XK) (t : TA) : TS := fun _ σ H => t σ H fun vs H1 => vs.length ≤ sizeLine ∧ E (.ref C) none H1
theorem ps_raise {x : Str} {C : Addr} {np cpos pos : Pos} {e0 : Expr} {es : List Expr} {t : TA} {E : XK} (hc : X.calm = true) (hg : Gl X x) (hm : X.mg x = some (.ref C)) (q : PySem.W.excIn X.K C bmV newV = true) (ha : PA X (e0 :: es) t)
    (hx : ∀ pins σ H s h' e vs, Inv X pins σ H s → Heap.MadeExcOf s.heap h' e (.ref C) vs → E (.ref C) none H → X.xe (.ref e) { s with heap := h' })
    (he : starEach (e0 :: es) X.env = (false, eval e0 X.env) :: starEach es X.env := by rfl) (hpl : (backTo cpos (starEach es X.env)).any (·.1) = false := by rfl) (hd : (x == ("__debug__" : Str)) = false := by decide) :
    PS X (.Raise (some (.Call (.Name x np) (e0 :: es) [] cpos)) none pos) (tRaise C E t) := by
  intro pins s σ H D I h
  obtain ⟨tl, Nn, nm, qn, bs, hdct, sn, sub, ab, col, dd, k0, k1, k2, k3, k5, mN, hC, hN, hni, T⟩ := (own_mk (x := x) I.mod.kin hm q).obj
  refine wpAny_Raise_call_subT (C := C) (nm := nm) (q := qn) (N := Nn) (bs := bs) (bm := tl) (hdct := hdct) (sn := sn) (sub := sub) (ab := ab) (col := col) (dd := dd) (k0 := k0) (k1 := k1) (k2 := k2) (k3 := k3) (k5 := k5)
    PySem.F.excBase_ValueError (mN := mN) (T.hasType PySem.F.excBase_ValueError.hasBase) (I.ok.hd hc) (by rw [he]; show (false || (backTo cpos (starEach es X.env)).any (·.1)) = false; rw [hpl]; rfl) hni (ld_glob I hg hm ⟨rfl, ?_⟩ hd)
  have h2 := ha cpos pins s σ H _ I h
  rw [he] at h2 ⊢
  exact Calls.evalArgs_plain (thn h2 fun us s2 ⟨vs, H2, I2, r, z, q2⟩ => ⟨rfl, by rw [← r.length]; exact z, I2.bk _ _ hC, hN.keeps I2.bk, T.keeps I2.bk, fun h' e hm' => hx pins σ H2 s2 h' e us I2 hm' q2⟩)
end
end L2


set_option Elab.async false
set_option linter.all false
set_option maxRecDepth 100000
set_option maxHeartbeats 1000000
namespace L2
open PySem PySem.Spec PyProof.Rows



def Cx.tries (X : Cx) (Ec : St → XK) (pl : List (Addr × Obj)) : Cx := { X with pn := X.pn ++ pl, xe := fun ev s' => ∃ σ H s, Inv X pl σ H s ∧ CXE X.prog X.w X.stack H s (Ec σ) ev s' }

def Cx.suite (X : Cx) (A' : Around) : Cx := { X with A := A', calm := false, xe := fun _ _ => False }
section
variable {X : Cx}
theorem Inv.tries {pins : List (Addr × Obj)} {σ : St} {H : Hp} {s : Shared} (I : Inv X pins σ H s) (Ec : St → XK) : Inv (X.tries Ec pins) [] σ H s :=
  ⟨⟨I.ok.mod, I.ok.kind, I.ok.glob, I.ok.blt, I.ok.above, I.ok.inj, I.ok.has, I.ok.cab, I.ok.hd, I.ok.frames, I.ok.stk, I.ok.exf, I.ok.bs, I.ok.bsz, I.ok.noex, I.ok.exfs, I.ok.funs, I.ok.frf⟩, I.os, I.bare, I.base, I.loc, I.cell, I.free, I.freeC,
    fun p hp => I.pin p (by simpa [Cx.tries] using hp), I.hok, I.len⟩
theorem Inv.untries {pins pl : List (Addr × Obj)} {σ : St} {H : Hp} {s : Shared} {Ec : St → XK} (I : Inv (X.tries Ec pl) pins σ H s) : Inv X pl σ H s :=
  ⟨⟨I.ok.mod, I.ok.kind, I.ok.glob, I.ok.blt, I.ok.above, I.ok.inj, I.ok.has, I.ok.cab, I.ok.hd, I.ok.frames, I.ok.stk, I.ok.exf, I.ok.bs, I.ok.bsz, I.ok.noex, I.ok.exfs, I.ok.funs, I.ok.frf⟩, I.os, I.bare, I.base, I.loc, I.cell, I.free, I.freeC,
    fun p hp => I.pin p (List.mem_append_left _ (by simpa [Cx.tries] using hp)), I.hok, I.len⟩
theorem Inv.suite {pins : List (Addr × Obj)} {σ : St} {H : Hp} {s : Shared} {A' : Around} (I : Inv X pins σ H s) (hA : A'.frames = X.A.frames) : Inv (X.suite A') pins σ H s :=
  ⟨⟨I.ok.mod, I.ok.kind, I.ok.glob, I.ok.blt, I.ok.above, I.ok.inj, I.ok.has, I.ok.cab, (fun z => nomatch z), hA.trans I.ok.frames, I.ok.stk, I.ok.exf, I.ok.bs, I.ok.bsz, I.ok.noex, I.ok.exfs, I.ok.funs, I.ok.frf⟩, I.os, I.bare, I.base, I.loc, I.cell, I.free, I.freeC, I.pin, I.hok, I.len⟩
theorem Inv.unsuite {pins : List (Addr × Obj)} {σ : St} {H : Hp} {s : Shared} {A' : Around} (ok : X.Ok) (I : Inv (X.suite A') pins σ H s) : Inv X pins σ H s :=
  ⟨ok, I.os, I.bare, I.base, I.loc, I.cell, I.free, I.freeC, I.pin, I.hok, I.len⟩


def tCallX (sp : Sp) (E : St → XK) (t : TA) : TE := fun σ H Q => t σ H fun vs H1 => sp vs H1 Q (E σ)
theorem pe_callX {f : Addr} {fd : FuncData} {ps : List Str} {sp : Sp} {k : Nat} {x : Str} {p pos : Pos} {e : Expr} {es : List Expr} {t : TA} {E : St → XK} (F : FnOk X.prog X.w X.K X.mg X.base (CXE X.prog X.w) k f fd ps sp) (hr : Room k X.A) (hg : Gl X x) (hm : X.mg x = some (.ref f)) (hk : PySem.W.keepIn X.K (.ref f) = true) (hb : Binds X.K fd ps [])
    (hx : ∀ pins σ H s ev s', Inv X pins σ H s → CXE X.prog X.w X.stack H s (E σ) ev s' → X.xe ev s') (ha : PA X (e :: es) t)
    (hdb : (x == ("__debug__" : Str)) = false := by decide) (he : starEach (e :: es) X.env = (false, eval e X.env) :: starEach es X.env := by rfl) (hpl : (backTo pos (starEach es X.env)).any (·.1) = false := by rfl) :
    PE X (.Call (.Name x p) (e :: es) [] pos) (tCallX sp E t) := by
  intro pins s σ H Q I h
  refine wpAny_Call_Name_kw (ld_glob I hg hm ?_ hdb)
  refine PySem.W.callWith_K (h₀ := X.base) I.ok.mod.kin hk (thn (ha pos pins s σ H _ I h) fun us s1 ⟨vs, H1, I1, r, q⟩ => ⟨I1.kIn, ?_⟩) he hpl
  have hl : us.length = ps.length := by rw [← r.length]; exact F.len _ _ _ _ q
  have hbb := hb s1 us I1.kIn (by simpa using hl)
  rw [List.append_nil] at hbb
  refine wpAny_call (codeAny_mono (F.run X.A X.stack s1 H1 ⟨us, []⟩ us vs Q (E σ) hr I1.env0 hbb r q) fun r s' hq => ?_)
  cases r with
  | error ev => exact hx pins σ H1 s1 ev s' I1 hq
  | ok fl =>
    cases fl with
    | ret u => exact I1.after hq
    | next => exact False.elim hq
    | brk => exact False.elim hq
    | cont => exact False.elim hq
theorem passT {Ec : St → XK} {pl : List (Addr × Obj)} : ∀ pins σ H s ev s', Inv (X.tries Ec pl) pins σ H s → CXE X.prog X.w X.stack H s (Ec σ) ev s' → (X.tries Ec pl).xe ev s' := fun pins σ H s ev s' I h => ⟨σ, H, s, I.untries, h⟩

theorem excMatches_up {M : Model} {A : Around} {E : Value → Shared → Prop} {C D : Addr} {nm' q' : Str} {N' : Addr} {bs' bm' : List Value} {hdct' : Bool} {sn' : List Str} {sub' : List Value} {ab' : Bool} {col' : Option Bool} {dd' : Option Addr} {k0' k1' k2' k3' k5' : Option Value} {newId' : String}
    {h : Heap} {g : Array GenState} {d : Drawn} {t : Nat} {os : OsState} {e : Addr} {oe : Obj} {Q : Bool → Shared → Prop}
    (LC : PySem.W.Looks M h (isSubtype (.ref C) (.ref D)) true) (hD : h.get? D = some (excClassObj nm' q' D N' bs' bm' hdct' sn' sub' ab' col' dd' k0' k1' k2' k3' k5' newId'))
    (he : h.get? e = some oe) (hcls : oe.cls = .ref C) (hbase : bm'.contains (.type "BaseException") = true)
    (hq : Q true ⟨h, g, d, t, os⟩) : wpAny M A (excMatches (.ref e) (.ref D)) Q E ⟨h, g, d, t, os⟩ := by
  have hcB : (Value.ref D :: bm').contains (.type "BaseException") = true := by rw [List.contains_cons, hbase, Bool.or_true]
  have f := tc_notTuple
  unfold excMatches
  repeat (first | (with_reducible refine wpAny_loadPart_at he ?_; rw [hcls]) | with_reducible refine wpAny_loadPart_at hD ?_ | (with_reducible refine wpAny_isSubtype_exc hD ?_; rw [hcB]) | (with_reducible refine LC.at ?_) | wp_step)
  exact hq


theorem Fly.land {pins : List (Addr × Obj)} {σ : St} {H1 H' : Hp} {s1 s2 : Shared} {B h5 : Heap} {e C : Addr} {a0 : Value} (I : Inv X pins σ H1 s1) (F : Fly X.prog X.w X.stack H1 s1 H' B e (.ref C) a0 s2)
    (fl : Heap.FlyingW B X.stack e (.ref C) a0 h5) (sm : s2.heap.UpToSlots h5) : H' e = none ∧ Inv X pins σ (upd H' e (ExcO e C)) { s2 with heap := h5 } := by
  obtain ⟨oe, vs, hoe, hoc, hod, _⟩ := fl.first
  have nB : B.get? e = none := fl.2.1
  have trk : ∀ b o, H' b = some o → b ≠ e := fun b o q z => by
    obtain ⟨u, hu⟩ := (F.hok b o q).has
    rw [z, nB] at hu; cases hu
  have hHe : H' e = none := by
    cases q : H' e with
    | none => rfl
    | some o => exact absurd rfl (trk e o q)
  have nfr : e ∉ frs X.stack := fun hb => by
    obtain ⟨_, o, ho, hd⟩ := fl.2.2.1.mem hb
    rw [hoe] at ho; cases ho
    exact hd _ hod
  have frd : ∀ b o, s1.heap.get? b = some o → b ∈ frs X.stack → ∀ vs, o.data ≠ .fields vs := fun b o q hb => by
    obtain ⟨_, o', ho, hd⟩ := I.stack.mem hb
    rw [q] at ho; cases ho
    exact hd
  refine ⟨hHe, I.call' (s' := { s2 with heap := h5 }) (ch := []) F.os ⟨fun b o q n nb _ => fl.1 b o (F.keep b o q n nb), fun b o q n hb _ => ?_, fun b o q n _ => ?_, fun b o q _ => ?_, fun b xs q => ?_, fun b o u q => ?_, fun b ps q => ?_⟩ (fun a o q => ?_) F.bare fun b z => absurd z (by simp)⟩
  · obtain ⟨sl, z⟩ := F.slot b o q hb (frd b o q hb)
    obtain ⟨sl2, z2⟩ := sm b _ z (frd b o q hb)
    exact ⟨sl2, z2⟩
  · rw [upd_ne]
    · exact F.free b o q n
    · intro z
      by_cases hb : b ∈ frs X.stack
      · exact nfr (z ▸ hb)
      · have := F.keep b o q n hb
        rw [z, nB] at this; cases this
  · by_cases hb : b ∈ frs X.stack
    · obtain ⟨sl, z⟩ := F.slot b o q hb (frd b o q hb)
      obtain ⟨sl2, z2⟩ := sm b _ z (frd b o q hb)
      exact ⟨_, z2⟩
    · obtain ⟨o', z⟩ := F.there b o q hb
      exact ⟨o', fl.1 b o' z⟩
  · have z := F.tups b xs q; rw [upd_ne (trk b _ z)]; exact z
  · have z := F.frzs b o u q; rw [upd_ne (trk b _ z)]; exact z
  · obtain ⟨m, z⟩ := F.tbls b ps q
    exact ⟨m, by rw [upd_ne (trk b _ z)]; exact z⟩
  · by_cases ha : a = e
    · subst ha
      rw [upd_same] at q; cases q
      exact ⟨⟨oe, hoe, hoc⟩, ⟨oe, hoe⟩, fun h1 h2 ⟨o, z1, z2⟩ k => ⟨o, k o z1, z2⟩⟩
    · rw [upd_ne ha] at q
      exact (F.hok a o q).stay (fun b u _ z => fl.1 b u z) (fun b z => by rw [upd_ne (trk b _ z)]; exact z) fun b xs z => by rw [upd_ne (trk b _ z)]; exact z


theorem Inv.forget {pins : List (Addr × Obj)} {σ : St} {H : Hp} {s : Shared} {h' : Heap} {j : Nat} {n : Str} {m : Str → Option Value} {u : Option Value} (I : Inv X pins σ H s) (hj : X.N[j]? = some n) (hN : X.N.Nodup)
    (hl : ∀ (i : Nat) (x : Str) (v : V), X.N[i]? = some x → σ[i]? = some (some v) → Vis X.env.scope x → ∃ u, RelV v u ∧ Look X.env s.heap m x u)
    (hn : h'.Ns X.env.locals (fun x => if x = n then u else m x)) (hs : Heap.SameBut X.env.locals s.heap h') : Inv X pins (σ.set j none) H { s with heap := h' } := by
  have same : ∀ b o, b ≠ X.env.locals → s.heap.get? b = some o → h'.get? b = some o := fun b o hb e => hs.extBut b o hb e
  have old : ∀ b o, X.s₀.heap.get? b = some o → b ≠ X.env.locals := fun b o e => Nat.ne_of_lt (Nat.lt_of_lt_of_le (Heap.lt_size e) I.ok.above)
  have trk : ∀ b o, H b = some o → b ≠ X.env.locals := fun b o e z => by rw [z, I.free] at e; cases e
  refine ⟨I.ok, I.os, I.bare, ⟨fun b o e n hb hx => same _ _ (old b o e) (I.base.keep b o e n hb hx), fun b o e n hb hx => ?_, I.base.free, fun b o e hx => ?_, I.base.tups, I.base.frzs, I.base.tbls⟩, ⟨_, hn, fun i x v e1 e2 e3 => ?_⟩, fun x c e => ?_, I.free, I.freeC, fun p hp => ?_, fun a o e => ?_, by rw [List.length_set]; exact I.len⟩
  · obtain ⟨sl, z⟩ := I.base.slot b o e n hb hx
    exact ⟨sl, same _ _ (old b o e) z⟩
  · obtain ⟨o', z⟩ := I.base.there b o e hx
    exact ⟨o', same _ _ (old b o e) z⟩
  · have hij : i ≠ j := fun z => by
      subst z
      rw [List.getElem?_set] at e2
      split at e2
      · split at e2 <;> cases e2
      · rename_i hh; exact hh rfl
    rw [List.getElem?_set_ne (Ne.symm hij)] at e2
    obtain ⟨w, r, l⟩ := hl i x v e1 e2 e3
    refine ⟨w, r, ?_⟩
    have hxn : x ≠ n := fun z => by subst z; exact hij (nodup_ix hN e1 hj)
    rcases l with ⟨l1, l2⟩ | ⟨l1, c, l2, l3⟩
    · exact .inl ⟨l1, by show (if x = n then u else m x) = _; rw [if_neg hxn]; exact l2⟩
    · obtain ⟨oc, z1, z2⟩ := l3
      exact .inr ⟨l1, c, l2, oc, same _ _ (I.cne x c l2) z1, z2⟩
  · obtain ⟨v, oc, z1, z2⟩ := I.cell x c e
    exact ⟨v, oc, same _ _ (I.cne x c e) z1, z2⟩
  · obtain ⟨z1, z2, z3, z4, z5⟩ := I.pin p hp
    exact ⟨same _ _ z3 z1, z2, z3, z4, z5⟩
  · refine (I.hok a o e).stay (fun b u hb z => same b u ?_ z) (fun _ z => z) fun _ _ z => z
    rcases hb with hb | hb
    · rw [hb]; exact trk a o e
    · exact trk b _ hb


def tTry (K : PySem.W.Frag) (D : Addr) (tb : (St → XK) → TS) (ts : TS) (j : Nat) : TS := fun De σ H => ∃ Ec : St → XK, tb Ec De σ H ∧ ∀ σ1 C H1, Ec σ1 C none H1 → ∃ C', C = .ref C' ∧ PySem.W.mroIn K C' (.ref D) = some true ∧
  ∀ e, H1 e = none → ts { nx := fun σ2 H2 => De.nx (σ2.set j none) H2, rt := fun _ _ => False } (σ1.set j (some (.ref e))) (upd H1 e (ExcO e C'))
theorem ps_try {body : List Stmt} {n x : Str} {np hpos pos : Pos} {b0 : Stmt} {suite : List Stmt} {D : Addr} {tb : (St → XK) → TS} {ts : TS} {j : Nat}
    (hst : X.stack = X.env :: X.outer ∧ X.env.frame = some X.env.locals) (hN : X.N.Nodup) (hj : X.N[j]? = some n) (hn : X.env.scope.names.lookup n = some .local)
    (hg : Gl X x) (hm : X.mg x = some (.ref D)) (qD : PySem.W.excIn X.K D bmV newV = true) (hb : ∀ Ec pl, PSs (X.tries Ec pl) body (tb Ec)) (hs : ∀ A', PSs (X.suite A') (b0 :: suite) ts)
    (hd : (x == ("__debug__" : Str)) = false := by decide) :
    PS X (.Try body [.ExceptHandler (some (.Name x np)) (some n) (b0 :: suite) hpos] [] [] pos) (tTry X.K D tb ts j) := by
  intro pins s σ H De I h
  obtain ⟨Ec, hb1, hx⟩ := h
  refine wpAny_Try_except (wpAny_mono (hb Ec pins [] s σ H De (I.tries Ec) hb1) (fun fl s1 q => ?_) fun ev s1 q => ?_)
  · cases fl with
    | next => obtain ⟨σ', H', I', q⟩ := q; exact wpAny_execs_nil ⟨σ', H', I'.untries, q⟩
    | brk => obtain ⟨σ', H', I', q⟩ := q; exact ⟨σ', H', I'.untries, q⟩
    | cont => obtain ⟨σ', H', I', q⟩ := q; exact ⟨σ', H', I'.untries, q⟩
    | ret u => obtain ⟨v, σ', H', I', r, q⟩ := q; exact ⟨v, σ', H', I'.untries, r, q⟩
  · obtain ⟨σ1, H1, s0, I1, e, C, a0, H', B, rfl, F, hE⟩ := q
    obtain ⟨C', rfl, hup, hx⟩ := hx σ1 C H' hE
    refine wpAny_looks_onW (by rw [I.ok.frames, hst.1]) hst.2 (hst.1 ▸ F.fly) fun h4 held sm4 => ?_
    refine wpAny_landsW held fun h5 fl5 sm5 => ?_
    have fl5' : Heap.FlyingW B X.stack e (.ref C') a0 h5 := by rw [hst.1]; exact fl5
    obtain ⟨hHe, I5⟩ := F.land I1 fl5' (sm4.trans sm5)
    refine wpAny_handleBy_cons (codeAny_handlers_test ?_) (by intro q; cases q)
    have I5s := I5.suite (A' := X.A.mark (some (.ref e))) rfl
    refine ld_glob (X := X.suite (X.A.mark (some (.ref e)))) I5s hg hm ?_ hd
    obtain ⟨tl, Nn, nm, qn, bs, hdct, sn, sub, ab, col, dd, k0, k1, k2, k3, k5, mN, hC, _, _, T⟩ := (own_mk (x := x) I5.kIn hm qD).obj
    obtain ⟨oe, hoe, hoc⟩ := fl5.there
    refine excMatches_up (PySem.W.looks_mroIn I5.kIn hup) hC hoe hoc (T.hasType PySem.F.excBase_ValueError.hasBase) ?_
    refine codeAny_handlers_suite_as ?_
    refine lands_againW fl5 fun h6 fl6 sm6 => ?_
    obtain ⟨_, I6⟩ := F.land I1 (h5 := h6) (by rw [hst.1]; exact fl6) ((sm4.trans sm5).trans sm6)
    refine store_ok I6 hN hj (Or.inl hn) (v := .ref e) rfl (fun s7 I7 => ?_) (.inr hn)
    refine wpAny_mono (hs _ pins s7 _ _ _ (I7.suite rfl) (hx e hHe)) (fun fl s8 q => ?_) fun _ _ z => z.elim
    cases fl with
    | brk => obtain ⟨_, _, _, q⟩ := q; exact q.elim
    | cont => obtain ⟨_, _, _, q⟩ := q; exact q.elim
    | ret u => obtain ⟨_, _, _, _, _, q⟩ := q; exact q.elim
    | next =>
      obtain ⟨σ8, H8, I8, q8⟩ := q
      have I8' := I8.unsuite I.ok
      refine wpAny_bind (wpAny_bindName (store_ok I8' hN hj (Or.inl hn) (v := .non) (u := .none) rfl (fun s9 I9 => ?_) (.inr hn)))
      unfold unbindBehindTheSuite
      refine wpAny_onRaise ?_
      obtain ⟨m9, hn9, hl9⟩ := I9.loc
      have hlen : j < σ8.length := by
        have e1 := I8'.len
        have e2 := (List.getElem?_eq_some_iff.mp hj).1
        omega
      obtain ⟨u9, r9, l9⟩ := hl9 j n .non hj (by rw [List.getElem?_set_self hlen]) (Or.inl hn)
      have hm9 : m9 n = some u9 := by
        rcases l9 with ⟨_, z⟩ | ⟨z, _⟩
        · exact z
        · rcases z with z | z
          · rw [show X.env.kindOf n = some .local from hn] at z; cases z
          · rw [show X.env.kindOf n = some .local from hn] at z; cases z
      refine wpAny_unbindName_local hn hn9 hm9 (by rw [I.ok.kind]; rfl) fun h' u hns hsb => ?_
      have J := I9.forget hj hN hl9 hns hsb
      rw [List.set_set] at J
      exact ⟨_, _, J, q8⟩
end


section
variable {P : Program} {w : World} {K : PySem.W.Frag} {mg : Str → Option Value} {base : Heap}
theorem Fun.okX {x qual : Str} {st : Stmt} {f : Addr} {fd : FuncData} {N ps : List Str} {k : Nat} {sp : Sp} (F : Fun K x qual st f fd) (S : FnScope N ps (defScope st)) (len : ∀ vs H Q E, sp vs H Q E → vs.length = ps.length)
    (hbody : ∀ (cdv : Value) (A : Around) (outer : List Env) (s : Shared) (H : Hp) (vs : List V) (Q : VK) (E : XK), Room k (A.deeper (envOfC qual (defScope st) s.heap.objs.size f cdv)) → sp vs H Q E →
      ∃ t, PSs (cxOf (CXE P w) P w K mg base N qual (defScope st) f cdv A outer s H E) (defBody st) t ∧ t { nx := fun _ H' => Q .non H', rt := Q } (start N vs) H) : FnOk P w K mg base (CXE P w) (k + 1) f fd ps sp := by
  obtain ⟨oc, od, kV, doc, pm, an, cdv, ct, osl, rfl, lk, hcd⟩ := F.ex
  exact fn_of lk hcd S len fun A outer s H vs Q E hr hsp => hbody cdv A outer s H vs Q E hr hsp
end
end L2


set_option Elab.async false
set_option linter.all false
set_option maxRecDepth 100000
set_option maxHeartbeats 1000000
namespace L2
open PySem PySem.Spec PyProof.Rows PySem.W



theorem ints_of : ∀ {ns : List Int} {us : List Value}, Vals (ns.map V.int) us → ∃ xs : Array (Int × Tok), us.toArray = intItems xs ∧ xs.toList.map (·.1) = ns
  | [], _, .nil => ⟨#[], by simp [intItems], rfl⟩
  | n :: ns, _, .cons (b := u) r t => by
    obtain ⟨tk, rfl⟩ := (show ∃ t, u = Value.int n t from r)
    obtain ⟨xs, e1, e2⟩ := ints_of t
    refine ⟨#[(n, tk)] ++ xs, ?_, by simp [e2]⟩
    have : ∀ (l : List Value), (Value.int n tk :: l).toArray = #[Value.int n tk] ++ l.toArray := fun l => by simp
    rw [this, e1]
    simp [intItems]
section
variable {X : Cx}
theorem op_mulX : OpR X (binaryOp .Mult) (rI IntMulOk fun i j => .int (i * j)) := opI fun _ _ _ _ _ _ _ hc q => mul_int q hc
def rSum (K : Frag) : List V → Hp → VK → Prop := fun xs H Q => ∃ (p : Addr) (ns : List Int), xs = [.ref p] ∧ SqL K H p (ns.map V.int) ∧ Q (.int ns.sum) H
theorem call_sum (hc : X.calm = true) : CallR X (.builtin "sum") (rSum X.K) := by
  intro pins s σ H xs us Q I r h
  obtain ⟨p, ns, rfl, hp, q⟩ := h
  obtain ⟨u, rfl, ru⟩ := r.one
  cases (show u = Value.ref p from ru)
  obtain ⟨its, rv, pl, hz⟩ := I.list hp
  obtain ⟨ys, e1, e2⟩ := ints_of rv
  refine sum_intListG (xs := ys) (I.ok.hd hc) (e1 ▸ pl.isList) fun h' tk t' k => ⟨.int ns.sum, H, I.kept k, ⟨t', ?_⟩, q⟩
  congr 1
  rw [preSum_eq, ← e2, List.take_of_length_le (by simp)]
def rCount : V → List V → Hp → VK → Prop := fun x vs H Q => ∃ l xs y, x = .ref l ∧ vs = [y] ∧ H l = some (.lst xs) ∧ (∃ b, y = .bl b) ∧ (∀ z ∈ xs, ∃ b, z = .bl b) ∧ Q (.int (xs.countP fun z => decide (z = y))) H
theorem eqG_bool (a b : Bool) : PySem.MeetsSeq.EqGives (.bool a) (.bool b) (a == b) := fun prog w A E s Q h => SeqAt.EqAt.bool_bool a b prog w E Q h
theorem mt_count : MtM X "list.count" rCount := by
  intro pins s σ H x vs v us Q I rx rv h
  obtain ⟨l, xs, y, rfl, rfl, hH, ⟨b, rfl⟩, hall, q⟩ := h
  cases rx
  obtain ⟨u, rfl, ru⟩ := rv.one
  cases (show u = Value.bool b from ru)
  obtain ⟨z, its, n, r, hl, e⟩ := I.lstM hH
  have key : ∀ {xs : List V} {its : List Value}, Vals xs its → (∀ z ∈ xs, ∃ b, z = .bl b) → (∀ y ∈ its, ∃ c, y = Value.bool c) ∧ its.countP (fun y => y == Value.bool b) = xs.countP fun z => decide (z = .bl b) := by
    intro xs its r
    induction r with
    | nil => intro _; exact ⟨fun y hy => by simp at hy, rfl⟩
    | @cons a u l1 l2 ra rt ih =>
      intro hb
      obtain ⟨c, rfl⟩ := hb a (.head _)
      obtain rfl : u = Value.bool c := ra
      obtain ⟨i1, i2⟩ := ih fun z hz => hb z (.tail _ hz)
      refine ⟨fun y hy => ?_, ?_⟩
      · rcases List.mem_cons.mp hy with rfl | hy
        · exact ⟨c, rfl⟩
        · exact i1 y hy
      · rw [List.countP_cons, List.countP_cons, i2]
        congr 1
        cases c <;> cases b <;> simp
  obtain ⟨k1, k2⟩ := key r hall
  refine call_meets F.slot_list_count ⟨_, e, rfl⟩ F.entry_list_count (F.args_list_count_2 _ _) (PySem.MeetsSeq.list_count l its.toArray n (.bool b) (fun y => y == Value.bool b) (fun y hy => ?_)) ⟨e, ?_⟩
  · obtain ⟨c, rfl⟩ := k1 y (by simpa using hy)
    have := eqG_bool c b
    have e2 : (Value.bool c == Value.bool b) = (c == b) := by cases c <;> cases b <;> rfl
    rw [e2]; exact this
  · refine ⟨.int _, H, I.tok _, ⟨_, rfl⟩, ?_⟩
    simp only [List.countP_toArray, k2]
    exact q


def Itv (K : Frag) (a : Addr) (n : Nat) : It :=
  ⟨fun i H => i < n ∧ ∃ xs, SqL K H a xs ∧ xs.length = n, fun i H x H' => H' = H ∧ ∀ xs, SqL K H a xs → xs[n - 1 - i]? = some x, fun i _ => n ≤ i⟩
def iRev (K : Frag) (ta : TA) : TI := fun σ H R => ta σ H fun vs H1 => ∃ a xs, vs = [.ref a] ∧ SqL K H1 a xs ∧ R (Itv K a xs.length) H1
def PJ (X : Cx) (es : List (Sem Value)) (t : St → Hp → (Hp → Prop) → Prop) : Prop :=
  ∀ (out : Str) (pins : List (Addr × Obj)) (s : Shared) (σ : St) (H : Hp) (Q : Hp → Prop), out.length + 2000 * es.length ≤ 100000 → Inv X pins σ H s → t σ H Q →
    wpAny (model X.prog X.w) X.A (joinParts out es) (fun u s' => ∃ y tk H', u = .str y tk ∧ Inv X pins σ H' s' ∧ Q H') X.xe s
theorem pj_nil : PJ X [] (fun _ H Q => Q H) := fun out pins s σ H Q hl I h =>
  joinParts_nil ⟨out, _, H, rfl, I.tok _, h⟩ (by simp at hl; exact Nat.le_trans hl (by decide))
theorem pj_text {x : Str} {j : Nat} {pos : Pos} {es : List (Sem Value)} {t : St → Hp → (Hp → Prop) → Prop} (hx : x.length ≤ 2000) (h : PJ X es t) : PJ X (eval (.Constant (.str x) j pos) X.env :: es) t := by
  intro out pins s σ H Q hl I hq
  have hl' : (out ++ x).length + 2000 * es.length ≤ 100000 := by rw [PySem.strLen_append]; simp at hl; omega
  refine joinParts_cons (Calls.Constant_str ⟨Nat.le_trans (Nat.le_trans (Nat.le_add_right _ _) hl') (by decide), ?_⟩)
  exact h _ pins _ σ H Q hl' (I.tok _) hq

theorem log_small {i : Int} (h0 : 0 ≤ i) (h1 : i < 10 ^ 18) : i.natAbs.log2 < 1920 := by
  by_cases hz : i.natAbs = 0
  · rw [hz]; decide
  · have h3 : i.natAbs < 2 ^ 60 := by
      have : (2 : Nat) ^ 60 = 1152921504606846976 := by decide
      have h2 : (10 : Int) ^ 18 = 1000000000000000000 := by decide
      omega
    exact Nat.lt_of_lt_of_le ((Nat.log2_lt hz).mpr h3) (by decide)
theorem pj_int {e : Expr} {pos : Pos} {es : List (Sem Value)} {te : TE} {t : St → Hp → (Hp → Prop) → Prop} (he : PE X e te) (h : PJ X es t) : PJ X (eval (.FormattedValue e (-1) none pos) X.env :: es) (fun σ H Q => te σ H fun x H1 => ∃ i : Int, x = .int i ∧ (0 ≤ i ∧ i < 10 ^ 18) ∧ t σ H1 Q) := by
  intro out pins s σ H Q hl I hq
  refine joinParts_cons (FormattedValue_plain (thn (he pins s σ H _ I hq) fun u s1 ⟨x, H1, I1, r1, i, ex, ⟨h0, h1⟩, q⟩ => ?_))
  subst ex
  obtain ⟨tk, rfl⟩ := (show ∃ t, u = Value.int i t from r1)
  refine wpAny_formatField_int (log_small h0 h1) ?_
  have hx : (Str.ofString (toString i)).length ≤ 18 := toString_length_le h0 (by decide) h1
  have hl' : (out ++ Str.ofString (toString i)).length + 2000 * es.length ≤ 100000 := by rw [PySem.strLen_append]; simp at hl; omega
  refine ⟨Nat.le_trans (Nat.le_trans (Nat.le_add_right _ _) hl') (by decide), ?_⟩
  exact h _ pins _ σ H1 Q hl' (I1.tok _) q
theorem each_len (env : Env) : ∀ l : List Expr, (evalEach l env).length = l.length
  | [] => rfl
  | e :: r => by
    have : evalEach (e :: r) env = eval e env :: evalEach r env := rfl
    rw [this, List.length_cons, List.length_cons, each_len env r]
theorem pe_joined {e1 e2 : Expr} {rest : List Expr} {pos : Pos} {t : St → Hp → (Hp → Prop) → Prop} (h : PJ X (eval e1 X.env :: eval e2 X.env :: evalEach rest X.env) t) (hn : rest.length ≤ 20 := by decide) :
    PE X (.JoinedStr (e1 :: e2 :: rest) pos) (fun σ H Q => t σ H fun H1 => ∀ y, Q (.str y) H1) := by
  intro pins s σ H Q I hq
  have hle := each_len X.env rest
  refine JoinedStr_many (thn (h Str.empty pins s σ H _ (by simp only [List.length_cons, hle]; show 0 + _ ≤ _; omega) I hq) fun u s' ⟨y, tk, H', e, I', q⟩ => ?_)
  subst e
  exact ⟨.str y, H', I', ⟨tk, rfl⟩, q y⟩
end
end L2


set_option Elab.async false
set_option linter.all false
set_option maxRecDepth 100000
set_option maxHeartbeats 1000000
namespace L2
open PySem PySem.Spec PyProof.Rows PySem.W


def clsAt (mg : Str → Option Value) (x : Str) : Addr := match mg x with
  | some (.ref C) => C
  | _ => 0
def tokAt (mg : Str → Option Value) (x : Str) : Tok := match mg x with
  | some (.int _ t) => t
  | _ => default
def Callee (P : Program) (w : World) (K : Frag) (mg : Str → Option Value) (base : Heap) (x : Str) (k : Nat) (ps : List Str) (sp : Sp) : Prop :=
  ∃ f fd, mg x = some (.ref f) ∧ keepIn K (.ref f) = true ∧ Binds K fd ps [] ∧ FnOk P w K mg base (CXE P w) k f fd ps sp
section
variable {X : Cx}
theorem ps_nox {st : Stmt} {t : TS} (h : PS X.nox st t) : PS X st t := fun pins s σ H D I hw =>
  wpAny_mono (h pins s σ H D (I.wish _) hw) (fun _ _ q => q.unwish) fun _ _ z => False.elim z
theorem pe_callF {x : Str} {k : Nat} {ps : List Str} {sp : Sp} {E : XK} {e : Expr} {es : List Expr} {t : TA} {p pos : Pos} (C : Callee X.prog X.w X.K X.mg X.base x k ps sp) (hr : Room k X.A) (hg : Gl X x) (hx : Passes (CXE X.prog X.w) X E)
    (ha : PA X (e :: es) t) (hdb : (x == ("__debug__" : Str)) = false := by decide) (he : starEach (e :: es) X.env = (false, eval e X.env) :: starEach es X.env := by rfl) (hpl : (backTo pos (starEach es X.env)).any (·.1) = false := by rfl) :
    PE X (.Call (.Name x p) (e :: es) [] pos) (tCall sp [] E t) := by
  obtain ⟨f, fd, hm, hk, hb, F⟩ := C
  exact pe_call F hr hg hm hk hb .nil hx ha hdb he hpl
theorem pe_callFX {x : Str} {k : Nat} {ps : List Str} {sp : Sp} {E : St → XK} {e : Expr} {es : List Expr} {t : TA} {p pos : Pos} (C : Callee X.prog X.w X.K X.mg X.base x k ps sp) (hr : Room k X.A) (hg : Gl X x)
    (hx : ∀ pins σ H s ev s', Inv X pins σ H s → CXE X.prog X.w X.stack H s (E σ) ev s' → X.xe ev s')
    (ha : PA X (e :: es) t) (hdb : (x == ("__debug__" : Str)) = false := by decide) (he : starEach (e :: es) X.env = (false, eval e X.env) :: starEach es X.env := by rfl) (hpl : (backTo pos (starEach es X.env)).any (·.1) = false := by rfl) :
    PE X (.Call (.Name x p) (e :: es) [] pos) (tCallX sp E t) := by
  obtain ⟨f, fd, hm, hk, hb, F⟩ := C
  exact pe_callX F hr hg hm hk hb hx ha hdb he hpl
theorem raisesE {P : Program} {w : World} {K : Frag} {mg : Str → Option Value} {base : Heap} {N : List Str} {qual : Str} {scope : Scope} {f : Addr} {cd : Value} {A : Around} {outer : List Env} {s0 : Shared} {H0 : Hp} {E : XK} {C : Addr} :
    ∀ pins σ H s h' e vs, Inv (cxOf (CXE P w) P w K mg base N qual scope f cd A outer s0 H0 E) pins σ H s → Heap.MadeExcOf s.heap h' e (.ref C) vs → E (.ref C) none H → (cxOf (CXE P w) P w K mg base N qual scope f cd A outer s0 H0 E).xe (.ref e) { s with heap := h' } :=
  fun _ _ _ _ _ _ _ I hx hE => raise_leaves I hx hE
end
theorem bt_max : bootBuiltins "max" = some (.builtin "max") := by decide +kernel
theorem bt_min : bootBuiltins "min" = some (.builtin "min") := by decide +kernel
theorem bt_sum : bootBuiltins "sum" = some (.builtin "sum") := by decide +kernel
theorem bt_isinstance : bootBuiltins "isinstance" = some (.builtin "isinstance") := by decide +kernel
theorem bt_tuple : bootBuiltins "tuple" = some (.type "tuple") := by decide +kernel
theorem bt_int : bootBuiltins "int" = some (.type "int") := by decide +kernel
theorem bt_ValueError : bootBuiltins "ValueError" = some (.type "ValueError") := by decide +kernel
end L2


set_option Elab.async false
set_option linter.all false
set_option maxRecDepth 100000
set_option maxHeartbeats 1000000
namespace L2
open PySem PySem.Spec PyProof.Rows PySem.W


section
variable {X : Cx} {pins : List (Addr × Obj)} {σ : St} {H : Hp} {s : Shared} {h' : Heap}

theorem Inv.turnedL {t' : Nat} {fp : List Addr} (I : Inv X pins σ H s) (k : ∀ b o, b ∉ fp → s.heap.get? b = some o → h'.get? b = some o) (hf : ∀ b ∈ fp, FpOk X pins H b) : Inv X pins σ H { s with heap := h', toks := t' } := by
  have nit : ∀ b u, H b = some u → b ∉ fp := fun b u e z => by rw [(hf b z).1] at e; cases e
  refine I.step (g' := s.gens) (d' := s.drawn) (ch := fp) (fun b hb => ?_) (fun b o _ _ hc e _ => k b o hc e) (fun b o _ _ hc e _ => ⟨o.slots, k b o hc e⟩) (fun _ _ _ _ n => n)
    (fun b o hc e => ⟨o, k b o hc e⟩) (fun _ _ e => e) (fun _ _ _ e => e) (fun b ps e => ⟨#[], by rw [e]; simp⟩) (fun m hm => ?_) (fun b u e => ?_) I.bare
  · obtain ⟨_, f1, _, f3, f4, f5⟩ := hf b hb
    exact ⟨f3, f1, f4, f5⟩
  · obtain ⟨o, es, ep, ho, r⟩ := hm
    exact ⟨o, es, ep, k _ o (fun z => (hf _ z).2.1 rfl) ho, r⟩
  · refine (I.hok b u e).stay (fun c v hc q => k c v ?_ q) (fun _ q => q) fun _ _ q => q
    rcases hc with z | z
    · rw [z]; exact nit b u e
    · exact nit c _ z

def Itz (K : Frag) (a b : Addr) : It :=
  ⟨fun i H => ∃ xs ys x y, SqL K H a xs ∧ SqL K H b ys ∧ xs[i]? = some x ∧ ys[i]? = some y,
   fun i H v H' => ∃ p x y, H p = none ∧ v = .ref p ∧ H' = upd H p (.tup [x, y]) ∧ (∀ xs, SqL K H a xs → xs[i]? = some x) ∧ ∀ ys, SqL K H b ys → ys[i]? = some y,
   fun i H => ∃ xs ys, SqL K H a xs ∧ SqL K H b ys ∧ (xs.length ≤ i ∨ ys.length ≤ i)⟩
def iZip (K : Frag) (ta : TA) : TI := fun σ H R => ta σ H fun vs H1 => ∃ a b xs ys, vs = [.ref a, .ref b] ∧ SqL K H1 a xs ∧ SqL K H1 b ys ∧ R (Itz K a b) H1
end
end L2


set_option Elab.async false
set_option linter.all false
set_option maxRecDepth 100000
set_option maxHeartbeats 1000000
namespace L2
open PySem PySem.Spec PyProof.Rows PySem.W


theorem cxK {CX : CXT} {P : Program} {w : World} {K : Frag} {mg : Str → Option Value} {base : Heap} {N : List Str} {qual : Str} {scope : Scope} {f : Addr} {cd : Value} {A : Around} {outer : List Env} {s : Shared} {H : Hp} {E : XK} :
    (cxOf CX P w K mg base N qual scope f cd A outer s H E).K = K := rfl
theorem Same.upd {H H1 : Hp} {p : Addr} {o : HO} (h : H p = none) (e : Same H H1) : Same H (upd H1 p o) := fun b u z => by
  rw [upd_ne (ne_of_none z h)]; exact e b u z
theorem Same.upd' {H H1 : Hp} {p : Addr} {o : HO} (e : Same H H1) (h : H1 p = none) : Same H (L2.upd H1 p o) := e.upd (e.free h)
def LoopR (J : It) (g : TG) (tb : TS) (D : Ends) (σ : St) (H1 : Hp) : Prop := ∃ W : Nat → Nat → St → Hp → Prop, (∃ m, W 0 m σ H1) ∧ ∀ i m σ H, W i m σ H →
  (J.stop i H ∧ D.nx σ H) ∨ (J.go i H ∧ ∃ N : St → Hp → Prop, (∀ σ' H', N σ' H' → ∃ m', m' < m ∧ W (i + 1) m' σ' H') ∧ ∀ x H', J.yld i H x H' → g x σ H' fun σ2 H2 => tb { D with nx := N, ct := N, bk := D.nx } σ2 H2)
theorem tFor_eq {wi : TI} {g : TG} {tb : TS} {D : Ends} {σ : St} {H : Hp} : tFor wi g tb D σ H = wi σ H fun J H1 => LoopR J g tb D σ H1 := rfl
def WhileR (c : TT) (tb : TS) (D : Ends) (σ : St) (H : Hp) : Prop := tWhile c tb D σ H
theorem tWhile_eq {c : TT} {tb : TS} {D : Ends} {σ : St} {H : Hp} : tWhile c tb D σ H = WhileR c tb D σ H := rfl
def CompR (J : It) (g : TG) (tt : TT) (te : TE) (σ0 : St) (Q : VK) (H1 : Hp) : Prop := ∃ W : Nat → Nat → List V → Hp → Prop, (∃ m, W 0 m [] H1) ∧ ∀ i m acc H, W i m acc H →
  (J.stop i H ∧ acc.length ≤ sizeLine ∧ ∀ p, H p = none → Q (.ref p) (upd H p (.lst acc))) ∨
  (J.go i H ∧ acc.length < sizeLine ∧ ∀ x H', J.yld i H x H' → g x σ0 H' fun σ2 H2 => tt σ2 H2 fun b H3 => if b = true then te σ2 H3 fun v H4 => ∃ m', m' < m ∧ W (i + 1) m' (acc ++ [v]) H4 else ∃ m', m' < m ∧ W (i + 1) m' acc H3)
theorem tComp_eq {wi : TI} {g : TG} {tt : TT} {te : TE} {js : List (Option Nat)} {σ : St} {H : Hp} {Q : VK} : tComp wi g tt te js σ H Q = wi σ H fun J H1 => CompR J g tt te (iniC js σ) Q H1 := rfl

def CW (n : Nat) (vals : Nat → V) (H1 : Hp) (i m : Nat) (acc : List V) (H : Hp) : Prop := m = n - i ∧ i ≤ n ∧ acc = (List.range i).map vals ∧ Same H1 H
theorem CW.next {n : Nat} {vals : Nat → V} {H1 H : Hp} {i : Nat} {v : V} (hi : i < n) (hv : v = vals i) (s : Same H1 H) : ∃ m', m' < n - i ∧ CW n vals H1 (i + 1) m' ((List.range i).map vals ++ [v]) H :=
  ⟨n - (i + 1), by omega, rfl, hi, by rw [List.range_succ, List.map_append, hv]; rfl, s⟩
theorem comp_map {J : It} {n : Nat} {H1 : Hp} {g : TG} {tt : TT} {te : TE} {σ0 : St} {Q : VK} (vals : Nat → V) (hn : n < sizeLine) (hgo : ∀ i H, Same H1 H → i < n → J.go i H) (hstop : ∀ H, Same H1 H → J.stop n H)
    (hb : ∀ i x H H', i < n → Same H1 H → J.yld i H x H' → g x σ0 H' fun σ2 H2 => tt σ2 H2 fun b H3 => if b = true then te σ2 H3 fun v H4 => ∃ m', m' < n - i ∧ CW n vals H1 (i + 1) m' ((List.range i).map vals ++ [v]) H4 else ∃ m', m' < n - i ∧ CW n vals H1 (i + 1) m' ((List.range i).map vals) H3)
    (hk : ∀ l H', Same H1 H' → H' l = none → Q (.ref l) (upd H' l (.lst ((List.range n).map vals)))) :
    CompR J g tt te σ0 Q H1 := by
  refine ⟨CW n vals H1, ⟨n, rfl, Nat.zero_le _, rfl, Same.refl _⟩, ?_⟩
  rintro i m acc H ⟨rfl, hi, rfl, s⟩
  by_cases h : i < n
  · refine .inr ⟨hgo i H s h, by simpa using Nat.lt_trans h hn, fun x H' y => hb i x H H' h s y⟩
  · have e : i = n := by omega
    subst e
    exact .inl ⟨hstop H s, by simpa using Nat.le_of_lt hn, fun p hp => hk p H s hp⟩
theorem atI_at {α : Type} {xs : List α} {i : Int} {j : Nat} (h : i = (j : Int)) (hj : j < xs.length) : atI xs i = some xs[j] := by
  subst h
  unfold atI ixN
  rw [if_pos (by omega), if_pos (by omega)]
  simp
theorem atI_all {α : Type} {xs : List α} {i : Int} (C : α → Prop) (h0 : 0 ≤ i) (h1 : i < xs.length) (h : ∀ x ∈ xs, C x) : ∃ v, atI xs i = some v ∧ C v := by
  obtain ⟨j, rfl⟩ := Int.eq_ofNat_of_zero_le h0
  have hj : j < xs.length := by omega
  exact ⟨xs[j], atI_at rfl hj, h _ (List.getElem_mem hj)⟩
theorem mul_r {a b : Int} (h1 : -(2 ^ 64) < b) (h2 : b < 2 ^ 64) : IntMulOk a b := IntMulOk.of_right (intBits_le_64 h1 h2)
theorem mul_l {a b : Int} (h1 : -(2 ^ 64) < a) (h2 : a < 2 ^ 64) : IntMulOk a b := IntMulOk.of_left (intBits_le_64 h1 h2)
theorem big_mul {a b : Int} (ha : Builtin.Int.intBits a ≤ 2 ^ 20) (hb : Builtin.Int.intBits b ≤ 2 ^ 20) : IntMulOk a b := IntMulOk.of_bits ha hb
theorem cp64 : CPow 10 64 := by unfold CPow; decide
theorem cp18 : CPow 10 18 := by unfold CPow; decide
theorem pm1 : IntMulOk (10 ^ Int.toNat 64) (10 ^ Int.toNat 64) := big_mul (by decide +kernel) (by decide +kernel)
theorem pm2 : IntMulOk (10 ^ Int.toNat 64 * 10 ^ Int.toNat 64) (10 ^ Int.toNat 64) := big_mul (by decide +kernel) (by decide +kernel)
theorem pm3 : IntMulOk (10 ^ Int.toNat 64 * 10 ^ Int.toNat 64 * 10 ^ Int.toNat 64) (10 ^ Int.toNat 64) := big_mul (by decide +kernel) (by decide +kernel)
theorem pm4 : (0 : Int) < 10 ^ Int.toNat 64 * 10 ^ Int.toNat 64 * 10 ^ Int.toNat 64 * 10 ^ Int.toNat 64 := by decide +kernel
theorem pm5 : (0 : Int) < 2147483629 := by decide
theorem pm6 : (0 : Int) < 2147483647 := by decide
theorem pm7 : 0 + 1 + 1 ≤ sizeLine := by decide

def PoolAt (H : Hp) (p : Addr) : Prop := ∃ x y : Int, H p = some (.lst [.int x, .int y]) ∧ 0 ≤ x ∧ 0 ≤ y ∧ y < 2147483647
def Exc (p : Addr) (H H' : Hp) : Prop := ∀ b o, b ≠ p → H b = some o → H' b = some o
theorem Same.exc {H H1 H2 : Hp} {p : Addr} (s : Same H H1) (h : H p = none) (e : Exc p H1 H2) : Same H H2 := fun b o z => e b o (ne_of_none z h) (s b o z)
theorem Same.toExc {H H' : Hp} {p : Addr} (s : Same H H') : Exc p H H' := fun b o _ z => s b o z
theorem Exc.upd {H : Hp} {p : Addr} {o : HO} : Exc p H (L2.upd H p o) := fun b u n z => by rw [upd_ne n]; exact z
theorem PoolAt.ne {H : Hp} {p q : Addr} (P : PoolAt H p) (h : H q = none) : q ≠ p := by
  obtain ⟨x, y, e, _⟩ := P
  exact (ne_of_none e h).symm
theorem PoolAt.same {H H' : Hp} {p : Addr} (P : PoolAt H p) (s : Same H H') : PoolAt H' p := by
  obtain ⟨x, y, e, r⟩ := P
  exact ⟨x, y, s _ _ e, r⟩
theorem PoolAt.upd {H : Hp} {p q : Addr} {o : HO} (P : PoolAt H p) (h : H q = none) : PoolAt (L2.upd H q o) p := P.same ((Same.refl H).upd h)
theorem range_getD {α β : Type} (xs : List α) (d : α) (f : α → β) (n : Nat) (h : n = xs.length) : (List.range n).map (fun j => f (xs.getD j d)) = xs.map f := by
  subst h
  refine List.ext_getElem (by simp) fun j h1 h2 => ?_
  have hj : j < xs.length := by simpa using h1
  simp [List.getD_eq_getElem?_getD, hj]
theorem tyV_list {K : Frag} {H : Hp} {p : Addr} {xs : List V} (h : H p = some (.lst xs)) : tyV K "list" (.ref p) H := .inl ⟨rfl, _, SqL.of h⟩
theorem scal_ii {i j : Int} : scal (.int i) (.int j) = true := rfl
theorem scal_bb {i j : Bool} : scal (.bl i) (.bl j) = true := rfl
theorem scal_ss {i j : Str} : scal (.str i) (.str j) = true := rfl
theorem scal_nn : scal .non .non = true := rfl
theorem scal_ni {i : Int} : scal .non (.int i) = true := rfl
theorem scal_in {i : Int} : scal (.int i) .non = true := rfl
section
variable {X : Cx}
def rLen (K : Frag) : List V → Hp → VK → Prop := fun xs H Q => ∃ p ys, xs = [.ref p] ∧ (SqL K H p ys ∨ SqT K H p ys) ∧ Q (.int ys.length) H
theorem call_lenK {K : Frag} (hK : X.K = K) : CallR X (.builtin "len") (rLen K) := by subst hK; exact call_len_seq
def rLof (K : Frag) : List V → Hp → VK → Prop := fun xs H Q => ∃ p ys, xs = [.ref p] ∧ (SqL K H p ys ∨ SqT K H p ys) ∧ ∀ l, H l = none → Q (.ref l) (upd H l (.lst ys))
def rTof (K : Frag) : List V → Hp → VK → Prop := fun xs H Q => ∃ p ys, xs = [.ref p] ∧ ((SqL K H p ys ∧ ∀ l, H l = none → Q (.ref l) (upd H l (.tup ys))) ∨ (SqT K H p ys ∧ Q (.ref p) H))
theorem call_tupK {K : Frag} (hK : X.K = K) : CallR X (.type "tuple") (rTof K) := by subst hK; exact call_tuple_of
theorem call_isiK {K : Frag} (hK : X.K = K) : CallR X (.builtin "isinstance") (rIsi K) := by subst hK; exact call_isi
end
theorem tyE {K : Frag} {H : Hp} {e C : Addr} {c : Value} {b : Bool} (he : H e = some (ExcO e C)) (Z : ExK K C) (k : kitOne K (.ref C) c = some b) : tyIs K H (.ref e) c b := .inr ⟨e, C, rfl, he, Z, k⟩
theorem kit_self {K : Frag} {t : Value} : kitOne K t t = some true := by unfold kitOne; simp
theorem kit_ref {K : Frag} {A C : Addr} {b : Bool} (ne : A ≠ C) (h1 : hasDictIn K C = true) (h2 : typeIn K (.ref C) = some (.type "type")) (h3 : subIn K (.ref A) (.ref C) = some b) : kitOne K (.ref A) (.ref C) = some b := by
  obtain ⟨cd, hc, _⟩ := any_some h1
  unfold kitOne
  rw [if_neg (by intro z; exact ne (Value.ref.inj (beq_iff_eq.mp z)))]
  unfold kitCls
  dsimp only
  rw [if_pos (by rw [hc, h2]; rfl)]
  exact h3
theorem kit_V {K : Frag} {A : Addr} {b : Bool} (h : subIn K (.ref A) (.type "ValueError") = some b) : kitOne K (.ref A) (.type "ValueError") = some b := by
  unfold kitOne
  rw [if_neg (by intro z; cases beq_iff_eq.mp z)]
  unfold kitCls
  dsimp only
  rw [if_pos (by decide +kernel)]
  exact h
theorem cOf_ref {a : Addr} {x : Value} : (cOf (.ref a) = some x) = (.ref a = x) := by simp [cOf]
theorem cOf_ty {n : String} {x : Value} : (cOf (.ty n) = some x) = (.type n = x) := by simp [cOf]
end L2


set_option Elab.async false
set_option linter.all false
set_option maxRecDepth 100000
set_option maxHeartbeats 1000000
namespace L2
open PySem PySem.Spec PyProof.Rows PySem.W


theorem fm_map {α : Type} {f : Nat → Option α} {g : Nat → α} : ∀ {l : List Nat}, (∀ k ∈ l, f k = some (g k)) → l.filterMap f = l.map g
  | [], _ => rfl
  | k :: r, h => by
    rw [List.filterMap_cons, h k (List.mem_cons_self ..), List.map_cons, fm_map fun j hj => h j (List.mem_cons_of_mem _ hj)]
theorem pick_rev (its : List Value) : slicePick its.toArray none none (some (-1)) = its.reverse.toArray := by
  have e := PyProof.Rows.picked_rev its.length
  unfold Builtin.Str.strSliceIndices at e
  have e2 : sliceRange ((its.length : Int) - 1) (-1) (-1) = (List.range its.length).map fun k => its.length - 1 - k := by
    rw [← e]; rfl
  unfold slicePick
  congr 1
  show ((sliceRange ((its.toArray.size : Int) - 1) (-1) (-1)).filterMap (its.toArray[·]?)) = _
  rw [List.size_toArray, e2, List.filterMap_map, fm_map (g := fun k => (its.reverse[k]?).getD .none)]
  · refine List.ext_getElem (by simp) fun j h1 h2 => ?_
    have hj : j < its.length := by simpa using h1
    simp [hj]
  · intro k hk
    have hk' : k < its.length := List.mem_range.mp hk
    have h3 : its.length - 1 - k < its.length := by omega
    simp [hk', h3]
section
variable {X : Cx} {e st : Expr} {te ts : TE} {pos p2 : Pos}
def tRev (K : Frag) (te ts : TE) : TE := fun σ H Q => te σ H fun x H1 => ts σ H1 fun z H2 => ∃ a xs, x = .ref a ∧ z = .int (-1) ∧ SqL K H2 a xs ∧ ∀ p, H2 p = none → Q (.ref p) (upd H2 p (.lst xs.reverse))
theorem Vals.rev : ∀ {xs : List V} {us : List Value}, Vals xs us → Vals xs.reverse us.reverse := by
  intro xs us h
  induction h with
  | nil => exact .nil
  | cons r _ ih => rw [List.reverse_cons, List.reverse_cons]; exact ih.append (.cons r .nil)
theorem pe_sliceR {K : Frag} (hK : X.K = K) (he : PE X e te) (hs : PE X st ts) : PE X (.Subscript e (.Slice none none (some st) p2) pos) (tRev K te ts) := by
  subst hK
  intro pins s σ H Q I h
  refine Subscript_ (thn (he pins s σ H _ I h) fun v s1 ⟨x, H1, I1, r1, q1⟩ => ?_)
  refine wpAny_Slice ?_
  rw [evalPart_none]
  refine wpAny_pure ?_
  refine wpAny_pure ?_
  rw [evalPart_some]
  refine thn (hs pins s1 σ H1 _ I1 q1) fun vs s2 ⟨z, H2, I2, r2, a, xs, e1, e2, hx, q⟩ => ?_
  subst e1 e2
  obtain ⟨tk, rfl⟩ := r2
  cases r1
  have I4 : Inv X pins σ H2 { s2 with heap := s2.heap.push { cls := .type "slice", data := .fields #[.none, .none, .int (-1) tk] } } := I2.kept (t' := s2.toks) fun b ob q => Heap.get?_push_of_some _ q
  show wpAny (model X.prog X.w) X.A (subscriptTail e (.Slice none none (some st) p2) (.ref a) (.ref s2.heap.objs.size)) (EP X pins σ Q) X.xe { s2 with heap := s2.heap.push { cls := .type "slice", data := .fields #[.none, .none, .int (-1) tk] } }
  obtain ⟨its, r, ht, hz⟩ := I4.list hx
  have hlen := r.length
  refine tail_any (ops := [.ref a, .ref s2.heap.objs.size]) ht.isList.typeIs slot_list_getitem.lookup ?_ (by with_unfolding_all rfl)
  refine wpAny_getItem_list_slice (s := { s2 with heap := s2.heap.push { cls := .type "slice", data := .fields #[.none, .none, .int (-1) tk] } }) ht.isList (Heap.IsSliceOf.new ..) .none .none (.int (-1) tk) (by simp) ?_ (by rw [List.size_toArray] <;> omega)
  rw [pick_rev]
  refine ⟨.ref _, _, I4.laid (t' := s2.toks) (o := .lst xs.reverse) (fun b ob q => Heap.get?_push_of_some _ q) (Nat.le_refl _) ?_, rfl, q _ (I4.hok.fresh (Nat.le_refl _))⟩
  exact ⟨by rw [List.length_reverse]; exact hz, _, 0, r.rev, Heap.get?_push_size _ rfl⟩
end
end L2


set_option Elab.async false
set_option linter.all false
set_option maxRecDepth 100000
set_option maxHeartbeats 1000000
namespace L2
open PySem PySem.Spec PyProof.Rows PySem.W


def sumsFrom (t : Int) : List Int → List Int
  | [] => []
  | x :: r => (t + x) :: sumsFrom (t + x) r
theorem sumsFrom_append (t : Int) (l r : List Int) : sumsFrom t (l ++ r) = sumsFrom t l ++ sumsFrom (t + l.sum) r := by
  induction l generalizing t with
  | nil => simp [sumsFrom]
  | cons x l ih => simp only [List.cons_append, sumsFrom, ih, List.sum_cons, Int.add_assoc]
theorem sumsFrom_length (t : Int) (l : List Int) : (sumsFrom t l).length = l.length := by
  induction l generalizing t with
  | nil => rfl
  | cons x l ih => simp [sumsFrom, ih]

def suf : List Int → List Int
  | [] => []
  | x :: r => (x + r.sum) :: suf r
theorem suf_length (l : List Int) : (suf l).length = l.length := by
  induction l with
  | nil => rfl
  | cons x l ih => simp [suf, ih]
theorem suf_rev (l : List Int) : (sumsFrom 0 l.reverse).reverse = suf l := by
  induction l with
  | nil => rfl
  | cons x l ih =>
    rw [List.reverse_cons, sumsFrom_append, List.reverse_append, ih]
    simp [sumsFrom, suf, Int.add_comm]
theorem suf_zeros (l : List Int) (z : Nat) : suf (l ++ List.replicate z 0) = suf l ++ List.replicate z 0 := by
  induction l with
  | nil =>
    simp only [List.nil_append, suf]
    induction z with
    | zero => rfl
    | succ z ih => rw [List.replicate_succ, suf, ih]; simp
  | cons x l ih => simp [suf, ih]

def grow (l : List Int) : List Int := l.sum :: suf l
theorem grow_length (l : List Int) : (grow l).length = l.length + 1 := by simp [grow, suf_length]

def stepW (m : Nat) (l : List Int) : List Int := (grow l).take (min m l.length + 1)
theorem stepW_length (m : Nat) (l : List Int) : (stepW m l).length = min m l.length + 1 := by
  unfold stepW; rw [List.length_take, grow_length]; omega
def ways (m : Nat) : Nat → List Int
  | 0 => [1]
  | t + 1 => stepW m (ways m t)
theorem ways_length (m t : Nat) : (ways m t).length = min m t + 1 := by
  induction t with
  | zero => simp [ways]
  | succ t ih => rw [ways, stepW_length, ih]; omega

def stepE (l : List Int) : List Int := (grow l).take l.length
def endsW (m : Nat) : Nat → List Int
  | 0 => 1 :: List.replicate m 0
  | t + 1 => stepE (endsW m t)
theorem endsW_eq (m t : Nat) : endsW m t = ways m t ++ List.replicate (m - min m t) 0 := by
  induction t with
  | zero => simp [endsW, ways]
  | succ t ih =>
    rw [endsW, ih]
    have hl := ways_length m t
    unfold stepE
    have hg : grow (ways m t ++ List.replicate (m - min m t) 0) = grow (ways m t) ++ List.replicate (m - min m t) 0 := by
      unfold grow; rw [suf_zeros]; simp
    rw [hg, List.length_append, List.length_replicate, hl, List.take_append, grow_length, hl, ways, stepW, hl, List.take_replicate]
    by_cases h : t < m
    · have e1 : min m t = t := by omega
      have e2 : min m (t + 1) = t + 1 := by omega
      rw [e1, e2]
      have e3 : (grow (ways m t)).take (t + 1 + (m - t)) = grow (ways m t) := List.take_of_length_le (by rw [grow_length, hl]; omega)
      have e4 : (grow (ways m t)).take (t + 1 + 1) = grow (ways m t) := List.take_of_length_le (by rw [grow_length, hl]; omega)
      rw [e3, e4]
      congr 2
      omega
    · have e1 : min m t = m := by omega
      have e2 : min m (t + 1) = m := by omega
      have e3 : min m (m + 1) = m := by omega
      rw [e1, e2, e3]
      congr 1
      · congr 1; omega
      · congr 1; omega
theorem endsW_length (m t : Nat) : (endsW m t).length = m + 1 := by
  rw [endsW_eq, List.length_append, ways_length, List.length_replicate]; omega
theorem cut_to1 (xs : List V) : cutV xs none (some 1) = xs.take 1 := by
  unfold cutV HT.sIx
  cases xs <;> simp
theorem cut_but1 (xs : List V) : cutV xs none (some (-1)) = xs.take (xs.length - 1) := by
  unfold cutV HT.sIx
  cases xs <;> simp
  omega
theorem last_at {xs : List Int} {z : Int} (h : xs.getLast? = some z) : atI (xs.map V.int) (-1) = some (V.int z) := by
  unfold atI ixN
  cases xs with
  | nil => cases h
  | cons x r =>
    have hl : ((x :: r).map V.int).length = r.length + 1 := by simp
    rw [hl, if_neg (by omega), if_pos (by omega)]
    have e : (-1 + ((r.length + 1 : Nat) : Int)).toNat = r.length := by omega
    rw [List.getLast?_eq_getElem?] at h
    show ((x :: r).map V.int)[(-1 + ((r.length + 1 : Nat) : Int)).toNat]? = _
    rw [e, List.getElem?_map]
    have e2 : (x :: r).length - 1 = r.length := by simp
    rw [e2] at h
    rw [h]; rfl
def Rows (H : Hp) (l : Addr) (rs : List (List Int)) : Prop := ∃ as : List Addr, H l = some (.lst (as.map V.ref)) ∧ l ∉ as ∧ as.length = rs.length ∧ ∀ i (h1 : i < as.length) (h2 : i < rs.length), H as[i] = some (.lst (rs[i].map V.int))
theorem Rows.same {H H' : Hp} {l : Addr} {rs : List (List Int)} (R : Rows H l rs) (s : Same H H') : Rows H' l rs := by
  obtain ⟨as, e, n, hl, h⟩ := R
  exact ⟨as, s _ _ e, n, hl, fun i h1 h2 => s _ _ (h i h1 h2)⟩
theorem Rows.at {K : Frag} {H : Hp} {l : Addr} {rs : List (List Int)} (R : Rows H l rs) {i : Nat} (h : i < rs.length) : ∃ xs a, SqL K H l xs ∧ atI xs (i : Int) = some (.ref a) ∧ H a = some (.lst (rs[i].map V.int)) := by
  obtain ⟨as, e, n, hl, hh⟩ := R
  have hi : i < as.length := by omega
  refine ⟨_, as[i], SqL.of e, ?_, hh i hi h⟩
  rw [atI_at rfl (by simpa using hi)]; simp
theorem Rows.push {H : Hp} {l p : Addr} {rs : List (List Int)} {r : List Int} {as : List Addr} (e : H l = some (.lst (as.map V.ref))) (n : l ∉ as) (hl : as.length = rs.length) (h : ∀ i (h1 : i < as.length) (h2 : i < rs.length), H as[i] = some (.lst (rs[i].map V.int)))
    (hp : H p = some (.lst (r.map V.int))) (np : p ≠ l) : Rows (upd H l (.lst (as.map V.ref ++ [.ref p]))) l (rs ++ [r]) := by
  refine ⟨as ++ [p], by rw [upd_same]; simp, ?_, by simp [hl], fun i h1 h2 => ?_⟩
  · simp only [List.mem_append, List.mem_singleton, not_or]
    exact ⟨n, fun z => np z.symm⟩
  · by_cases hi : i < as.length
    · have e1 : (as ++ [p])[i] = as[i] := List.getElem_append_left hi
      have e2 : (rs ++ [r])[i] = rs[i]'(by omega) := List.getElem_append_left (by omega)
      rw [e1, e2, upd_ne]
      · exact h i hi (by omega)
      · intro z; exact n (z ▸ List.getElem_mem hi)
    · have e1 : (as ++ [p])[i] = p := by rw [List.getElem_append_right (by omega)]; simp
      have e2 : (rs ++ [r])[i] = r := by rw [List.getElem_append_right (by omega)]; simp
      rw [e1, e2, upd_ne np]; exact hp
theorem stepE_cut {ns : List Int} (h : ns ≠ []) : (suf ns).take 1 ++ (suf ns).take (ns.length - 1) = stepE ns := by
  cases ns with
  | nil => exact absurd rfl h
  | cons x r => simp [stepE, grow, suf]
end L2


set_option Elab.async false
set_option linter.all false
set_option maxRecDepth 100000
set_option maxHeartbeats 1000000
namespace L2
open PySem PySem.Spec PyProof.Rows PySem.W


inductive EqD (K : Frag) (H : Hp) : Nat → V → V → Bool → Prop
  | flat {n : Nat} {x y : V} (fx : flatV x = true) (fy : flatV y = true) : EqD K H n x y (eqV x y)
  | lst {n : Nat} {a b : Addr} {xs ys : List V} (e : Nat → Bool) (hx : SqL K H a xs) (hy : SqL K H b ys) (hl : xs.length = ys.length) (h : ∀ j x y, xs[j]? = some x → ys[j]? = some y → EqD K H n x y (e j)) : EqD K H (n + 1) (.ref a) (.ref b) ((List.range xs.length).all e)
  | len {n : Nat} {a b : Addr} {xs ys : List V} (hx : SqL K H a xs) (hy : SqL K H b ys) (hl : xs.length ≠ ys.length) : EqD K H (n + 1) (.ref a) (.ref b) false
  | tup {n : Nat} {a b : Addr} {xs ys : List V} (e : Nat → Bool) (hx : SqT K H a xs) (hy : SqT K H b ys) (h : ∀ j x y, xs[j]? = some x → ys[j]? = some y → EqD K H n x y (e j)) : EqD K H (n + 1) (.ref a) (.ref b) ((List.range (min xs.length ys.length)).all e && xs.length == ys.length)
theorem eqV_refl {x : V} (h : flatV x = true) : eqV x x = true := by
  cases x <;> first
    | rfl
    | (simp [eqV]; done)
    | cases h
section
variable {X : Cx} {pins : List (Addr × Obj)} {σ : St} {H : Hp} {s : Shared}
theorem eqd_refl (I : Inv X pins σ H s) {n : Nat} {x y : V} {b : Bool} (h : EqD X.K H n x y b) : x = y → b = true := by
  induction h with
  | flat fx fy => rintro rfl; exact eqV_refl fx
  | lst e hx hy hl h ih =>
    intro z
    cases z
    have := I.list_inj hx hy
    subst this
    refine List.all_eq_true.mpr fun j hj => ?_
    have hj' := List.mem_range.mp hj
    exact ih j _ _ (List.getElem?_eq_getElem hj') (List.getElem?_eq_getElem hj') rfl
  | len hx hy hl =>
    intro z
    cases z
    have := I.list_inj hx hy
    subst this
    exact absurd rfl hl
  | tup e hx hy h ih =>
    intro z
    cases z
    have := I.tuple_inj hx hy
    subst this
    rw [Nat.min_self]
    have : (List.range _).all e = true := List.all_eq_true.mpr fun j hj => by
      have hj' := List.mem_range.mp hj
      exact ih j _ _ (List.getElem?_eq_getElem hj') (List.getElem?_eq_getElem hj') rfl
    rw [this]; simp
theorem eqd_at (I : Inv X pins σ H s) {n : Nat} {x y : V} {b : Bool} (h : EqD X.K H n x y b) : ∀ (A : Around) (u v : Value), A.units + n < cLine → RelV x u → RelV y v → SeqAt.EqAt A s u v b := by
  induction h with
  | flat fx fy => intro A u v _ ru rv; exact eqAt_V ru rv fx fy
  | @lst n a b xs ys e hx hy hl h ih =>
    intro A u v hu ru rv
    have hb := eqd_refl I (.lst e hx hy hl h)
    cases ru
    cases rv
    by_cases hab : a = b
    · subst hab
      rw [hb rfl]; exact SeqAt.EqAt.same _
    · obtain ⟨is1, r1, p1, _⟩ := I.list hx
      obtain ⟨is2, r2, p2, _⟩ := I.list hy
      have e1 := r1.length
      have e2 := r2.length
      have key := SeqAt.RcAt.lists (A := A) (s := s) (e := e) p1.isList p2.isList (by simp; omega) (by omega) fun j h1 h2 => by
        have h1' : j < xs.length := by simpa [e1] using h1
        have h2' : j < ys.length := by simpa [e2] using h2
        obtain ⟨u, hu1, ru⟩ := r1.get (List.getElem?_eq_getElem h1')
        obtain ⟨v, hv1, rv⟩ := r2.get (List.getElem?_eq_getElem h2')
        have eu : is1.toArray[j] = u := by simpa using (List.getElem?_eq_some_iff.mp hu1).2
        have ev : is2.toArray[j] = v := by simpa using (List.getElem?_eq_some_iff.mp hv1).2
        rw [eu, ev]
        exact ih j _ _ (List.getElem?_eq_getElem h1') (List.getElem?_eq_getElem h2') A.in1 u v (by show A.units + 1 + n < cLine; omega) ru rv
      have e3 : is1.toArray.size = xs.length := by simp [e1]
      rw [e3] at key
      exact SeqAt.EqAt.of_refs hab key
  | @len n a b xs ys hx hy hl =>
    intro A u v hu ru rv
    cases ru
    cases rv
    have hab : a ≠ b := fun z => by subst z; exact hl (congrArg List.length (I.list_inj hx hy))
    obtain ⟨is1, r1, p1, _⟩ := I.list hx
    obtain ⟨is2, r2, p2, _⟩ := I.list hy
    have e1 := r1.length
    have e2 := r2.length
    exact SeqAt.EqAt.of_refs hab (SeqAt.RcAt.lists_lengths p1.isList p2.isList (by simp; omega) (by omega))
  | @tup n a b xs ys e hx hy h ih =>
    intro A u v hu ru rv
    have hb := eqd_refl I (.tup e hx hy h)
    cases ru
    cases rv
    by_cases hab : a = b
    · subst hab
      rw [hb rfl]; exact SeqAt.EqAt.same _
    · obtain ⟨is1, r1, p1, _⟩ := I.tuple hx
      obtain ⟨is2, r2, p2, _⟩ := I.tuple hy
      have e1 := r1.length
      have e2 := r2.length
      have key := SeqAt.RcAt.tuples (A := A) (s := s) (e := e) p1 p2 (by omega) fun j h1 h2 => by
        have h1' : j < xs.length := by simpa [e1] using h1
        have h2' : j < ys.length := by simpa [e2] using h2
        obtain ⟨u, hu1, ru⟩ := r1.get (List.getElem?_eq_getElem h1')
        obtain ⟨v, hv1, rv⟩ := r2.get (List.getElem?_eq_getElem h2')
        have eu : is1.toArray[j] = u := by simpa using (List.getElem?_eq_some_iff.mp hu1).2
        have ev : is2.toArray[j] = v := by simpa using (List.getElem?_eq_some_iff.mp hv1).2
        rw [eu, ev]
        exact ih j _ _ (List.getElem?_eq_getElem h1') (List.getElem?_eq_getElem h2') A.in1 u v (by show A.units + 1 + n < cLine; omega) ru rv
      have e3 : is1.toArray.size = xs.length := by simp [e1]
      have e4 : is2.toArray.size = ys.length := by simp [e2]
      rw [e3, e4] at key
      exact SeqAt.EqAt.of_refs hab key
end
def rEqD (K : Frag) (neg : Bool) : R2 := fun x y H Q => ∃ a b k, x = .ref a ∧ y = .ref b ∧ EqD K H 3 x y k ∧ Q (.bl (if neg then !k else k)) H
section
variable {X : Cx}
theorem op_eqD {K : Frag} (hK : X.K = K) {k : Nat} (hr : Room k X.A) : OpR X (compareOp .Eq) (rEqD K false) := by
  subst hK
  have hu0 := hr.un
  intro pins s σ H x y v u Q I rx ry h
  obtain ⟨a, b, k, rfl, rfl, h, q⟩ := h
  cases rx
  cases ry
  cases h with
  | flat fx fy => cases fx
  | @lst n _ _ xs ys e hx hy hl h =>
    obtain ⟨is1, r1, p1, _⟩ := I.list hx
    obtain ⟨is2, r2, p2, _⟩ := I.list hy
    have e1 := r1.length
    have e2 := r2.length
    have e3 : is1.toArray.size = xs.length := by simp [e1]
    refine SeqAt.eq_listAt (e := e) p1.isList p2.isList (by simp; omega) (by omega) (fun j h1 h2 => ?_) ⟨.bl _, H, I, rfl, by rw [e3]; exact q⟩
    have h1' : j < xs.length := by simpa [e1] using h1
    have h2' : j < ys.length := by simpa [e2] using h2
    obtain ⟨u, hu1, ru⟩ := r1.get (List.getElem?_eq_getElem h1')
    obtain ⟨v, hv1, rv⟩ := r2.get (List.getElem?_eq_getElem h2')
    have eu : is1.toArray[j] = u := by simpa using (List.getElem?_eq_some_iff.mp hu1).2
    have ev : is2.toArray[j] = v := by simpa using (List.getElem?_eq_some_iff.mp hv1).2
    rw [eu, ev]
    exact eqd_at I (h j _ _ (List.getElem?_eq_getElem h1') (List.getElem?_eq_getElem h2')) X.A.in1 u v (by show X.A.units + 1 + 2 < cLine; omega) ru rv
  | @len n _ _ xs ys hx hy hl =>
    obtain ⟨is1, r1, p1, _⟩ := I.list hx
    obtain ⟨is2, r2, p2, _⟩ := I.list hy
    have e1 := r1.length
    have e2 := r2.length
    exact SeqAt.eq_list_lengthsAt p1.isList p2.isList (by simp; omega) (by omega) ⟨.bl _, H, I, rfl, q⟩
  | @tup n _ _ xs ys e hx hy h =>
    obtain ⟨is1, r1, p1, _⟩ := I.tuple hx
    obtain ⟨is2, r2, p2, _⟩ := I.tuple hy
    have e1 := r1.length
    have e2 := r2.length
    have e3 : is1.toArray.size = xs.length := by simp [e1]
    have e4 : is2.toArray.size = ys.length := by simp [e2]
    refine SeqAt.eq_tupleAt (e := e) p1 p2 (by omega) (fun j h1 h2 => ?_) ⟨.bl _, H, I, rfl, by rw [e3, e4]; exact q⟩
    have h1' : j < xs.length := by simpa [e1] using h1
    have h2' : j < ys.length := by simpa [e2] using h2
    obtain ⟨u, hu1, ru⟩ := r1.get (List.getElem?_eq_getElem h1')
    obtain ⟨v, hv1, rv⟩ := r2.get (List.getElem?_eq_getElem h2')
    have eu : is1.toArray[j] = u := by simpa using (List.getElem?_eq_some_iff.mp hu1).2
    have ev : is2.toArray[j] = v := by simpa using (List.getElem?_eq_some_iff.mp hv1).2
    rw [eu, ev]
    exact eqd_at I (h j _ _ (List.getElem?_eq_getElem h1') (List.getElem?_eq_getElem h2')) X.A.in1 u v (by show X.A.units + 1 + 2 < cLine; omega) ru rv
theorem op_neD {K : Frag} (hK : X.K = K) {k : Nat} (hr : Room k X.A) : OpR X (compareOp .NotEq) (rEqD K true) := by
  subst hK
  have hu0 := hr.un
  intro pins s σ H x y v u Q I rx ry h
  obtain ⟨a, b, k, rfl, rfl, h, q⟩ := h
  cases rx
  cases ry
  cases h with
  | flat fx fy => cases fx
  | @lst n _ _ xs ys e hx hy hl h =>
    obtain ⟨is1, r1, p1, _⟩ := I.list hx
    obtain ⟨is2, r2, p2, _⟩ := I.list hy
    have e1 := r1.length
    have e2 := r2.length
    have e3 : is1.toArray.size = xs.length := by simp [e1]
    refine SeqAt.RcNeAt.lists (e := e) p1.isList p2.isList (by simp; omega) (by omega) (fun j h1 h2 => ?_) _ _ _ _ ⟨.bl _, H, I, rfl, by rw [e3]; exact q⟩
    have h1' : j < xs.length := by simpa [e1] using h1
    have h2' : j < ys.length := by simpa [e2] using h2
    obtain ⟨u, hu1, ru⟩ := r1.get (List.getElem?_eq_getElem h1')
    obtain ⟨v, hv1, rv⟩ := r2.get (List.getElem?_eq_getElem h2')
    have eu : is1.toArray[j] = u := by simpa using (List.getElem?_eq_some_iff.mp hu1).2
    have ev : is2.toArray[j] = v := by simpa using (List.getElem?_eq_some_iff.mp hv1).2
    rw [eu, ev]
    exact eqd_at I (h j _ _ (List.getElem?_eq_getElem h1') (List.getElem?_eq_getElem h2')) X.A.in1 u v (by show X.A.units + 1 + 2 < cLine; omega) ru rv
  | @len n _ _ xs ys hx hy hl =>
    obtain ⟨is1, r1, p1, _⟩ := I.list hx
    obtain ⟨is2, r2, p2, _⟩ := I.list hy
    have e1 := r1.length
    have e2 := r2.length
    exact SeqAt.RcNeAt.lists_lengths p1.isList p2.isList (by simp; omega) (by omega) _ _ _ _ ⟨.bl _, H, I, rfl, q⟩
  | @tup n _ _ xs ys e hx hy h =>
    obtain ⟨is1, r1, p1, _⟩ := I.tuple hx
    obtain ⟨is2, r2, p2, _⟩ := I.tuple hy
    have e1 := r1.length
    have e2 := r2.length
    have e3 : is1.toArray.size = xs.length := by simp [e1]
    have e4 : is2.toArray.size = ys.length := by simp [e2]
    refine SeqAt.RcNeAt.tuples (e := e) p1 p2 (by omega) (fun j h1 h2 => ?_) _ _ _ _ ⟨.bl _, H, I, rfl, by rw [e3, e4]; exact q⟩
    have h1' : j < xs.length := by simpa [e1] using h1
    have h2' : j < ys.length := by simpa [e2] using h2
    obtain ⟨u, hu1, ru⟩ := r1.get (List.getElem?_eq_getElem h1')
    obtain ⟨v, hv1, rv⟩ := r2.get (List.getElem?_eq_getElem h2')
    have eu : is1.toArray[j] = u := by simpa using (List.getElem?_eq_some_iff.mp hu1).2
    have ev : is2.toArray[j] = v := by simpa using (List.getElem?_eq_some_iff.mp hv1).2
    rw [eu, ev]
    exact eqd_at I (h j _ _ (List.getElem?_eq_getElem h1') (List.getElem?_eq_getElem h2')) X.A.in1 u v (by show X.A.units + 1 + 2 < cLine; omega) ru rv
end

def IsI (v : V) (i : Int) : Prop := v = .int i
def IsL (K : Frag) (H : Hp) {α : Type} (P : V → α → Prop) (v : V) (as : List α) : Prop := ∃ a xs, v = .ref a ∧ SqL K H a xs ∧ xs.length = as.length ∧ ∀ (j : Nat) (x : V) (y : α), xs[j]? = some x → as[j]? = some y → P x y
def IsT (K : Frag) (H : Hp) {α : Type} (P : V → α → Prop) (v : V) (as : List α) : Prop := ∃ a xs, v = .ref a ∧ SqT K H a xs ∧ xs.length = as.length ∧ ∀ (j : Nat) (x : V) (y : α), xs[j]? = some x → as[j]? = some y → P x y
def EqP (K : Frag) (H : Hp) (n : Nat) {α : Type} [DecidableEq α] (P : V → α → Prop) : Prop := ∀ x y a b, P x a → P y b → EqD K H n x y (decide (a = b))
theorem eqp_int {K : Frag} {H : Hp} {n : Nat} : EqP K H n IsI := by
  rintro x y a b rfl rfl
  have := EqD.flat (K := K) (H := H) (n := n) (x := .int a) (y := .int b) rfl rfl
  have e : eqV (.int a) (.int b) = decide (a = b) := by simp [eqV, Bool.beq_eq_decide_eq]
  rw [← e]; exact this
theorem all_eq {α : Type} [DecidableEq α] (as bs : List α) (h : as.length = bs.length) : (List.range as.length).all (fun j => decide (as[j]? = bs[j]?)) = decide (as = bs) := by
  rw [Bool.eq_iff_iff, List.all_eq_true, decide_eq_true_iff]
  constructor
  · intro q
    refine List.ext_getElem? fun j => ?_
    by_cases hj : j < as.length
    · simpa using q j (List.mem_range.mpr hj)
    · rw [List.getElem?_eq_none (by omega), List.getElem?_eq_none (by omega)]
  · rintro rfl j _; simp
theorem eqp_lst {K : Frag} {H : Hp} {n : Nat} {α : Type} [DecidableEq α] {P : V → α → Prop} (h : EqP K H n P) : EqP K H (n + 1) (IsL K H P) := by
  rintro x y as bs ⟨a, xs, rfl, hx, lx, px⟩ ⟨b, ys, rfl, hy, ly, py⟩
  by_cases hl : as.length = bs.length
  · rw [← all_eq as bs hl, ← lx]
    refine .lst _ hx hy (by omega) fun j x y h1 h2 => ?_
    have j1 := (List.getElem?_eq_some_iff.mp h1).1
    have j2 := (List.getElem?_eq_some_iff.mp h2).1
    have ha : as[j]? = some as[j] := List.getElem?_eq_getElem (by omega)
    have hb : bs[j]? = some bs[j] := List.getElem?_eq_getElem (by omega)
    have := h x y _ _ (px j _ _ h1 ha) (py j _ _ h2 hb)
    rw [ha, hb]
    simpa using this
  · have e : decide (as = bs) = false := by simp; intro z; exact hl (congrArg List.length z)
    rw [e]
    exact .len hx hy (by omega)
theorem eqp_tup {K : Frag} {H : Hp} {n : Nat} {α : Type} [DecidableEq α] {P : V → α → Prop} (h : EqP K H n P) : EqP K H (n + 1) (IsT K H P) := by
  rintro x y as bs ⟨a, xs, rfl, hx, lx, px⟩ ⟨b, ys, rfl, hy, ly, py⟩
  have key := EqD.tup (K := K) (H := H) (n := n) (fun j => decide (as[j]? = bs[j]?)) hx hy fun j x y h1 h2 => by
    have j1 := (List.getElem?_eq_some_iff.mp h1).1
    have j2 := (List.getElem?_eq_some_iff.mp h2).1
    have ha : as[j]? = some as[j] := List.getElem?_eq_getElem (by omega)
    have hb : bs[j]? = some bs[j] := List.getElem?_eq_getElem (by omega)
    have := h x y _ _ (px j _ _ h1 ha) (py j _ _ h2 hb)
    rw [ha, hb]
    simpa using this
  have e : ((List.range (min xs.length ys.length)).all (fun j => decide (as[j]? = bs[j]?)) && xs.length == ys.length) = decide (as = bs) := by
    rw [lx, ly]
    by_cases hl : as.length = bs.length
    · rw [← hl, Nat.min_self, all_eq as bs hl]; simp
    · have e : decide (as = bs) = false := by simp; intro z; exact hl (congrArg List.length z)
      rw [e]
      simp [hl]
  rw [e] at key
  exact key
theorem isL_ints {K : Frag} {H : Hp} {a : Addr} {ns : List Int} (h : SqL K H a (ns.map V.int)) : IsL K H IsI (.ref a) ns := ⟨a, _, rfl, h, by simp, fun j x y h1 h2 => by
  rw [List.getElem?_map, h2] at h1
  exact (Option.some.inj h1).symm⟩
theorem isT_ints {K : Frag} {H : Hp} {a : Addr} {ns : List Int} (h : SqT K H a (ns.map V.int)) : IsT K H IsI (.ref a) ns := ⟨a, _, rfl, h, by simp, fun j x y h1 h2 => by
  rw [List.getElem?_map, h2] at h1
  exact (Option.some.inj h1).symm⟩
end L2


set_option Elab.async false
set_option linter.all false
set_option maxRecDepth 100000
set_option maxHeartbeats 1000000
namespace L2
open PySem PySem.Spec PyProof.Rows PySem.W


section
variable {X : Cx}
def tRngV (ta : TA) : TE := fun σ H Q => ta σ H fun vs H1 => ∃ j : Int, vs = [.int j] ∧ -(2 ^ 62) ≤ j ∧ j < 2 ^ 62 ∧ ∀ p, H1 p = none → Q (.ref p) (upd H1 p (.rng 0 j))
theorem pe_range1 {a : Expr} {ta : TA} {p pos : Pos} (hg : Gl X "range") (hm : X.mg "range" = none) (ha : PA X [a] ta) (hs : starEach [a] X.env = [(false, eval a X.env)] := by rfl) : PE X (.Call (.Name "range" p) [a] [] pos) (tRngV ta) := by
  intro pins s σ H Q I h
  refine wpAny_Call_Name_kw (ld_blt I hg hm boot_range (PyProof.Rows.callWith_type1 (thn (ha pos pins s σ H _ I h) fun us s1 ⟨vs, H1, I1, r1, q1⟩ => ?_) hs rfl))
  obtain ⟨j, e, q1, q2, q⟩ := q1
  subst e
  obtain ⟨u, rfl, ru⟩ := r1.one
  obtain ⟨t, rfl⟩ := ru
  refine call_range_1 ⟨.ref s1.heap.objs.size, _, I1.laid (fun b o e => Heap.get?_push_of_some _ e) (Nat.le_refl _) ?_, rfl, q _ (I1.hok.fresh (Nat.le_refl _))⟩
  exact ⟨_, _, _, Heap.get?_push_size _ rfl⟩
def rLstR : List V → Hp → VK → Prop := fun xs H Q => ∃ p j, xs = [.ref p] ∧ H p = some (.rng 0 j) ∧ 0 ≤ j ∧ j ≤ 1000 ∧ ∀ l, H l = none → Q (.ref l) (upd H l (.lst ((List.range j.toNat).map fun (i : Nat) => V.int (i : Int))))
def rAll (K : Frag) : List V → Hp → VK → Prop := fun xs H Q => ∃ (p : Addr) (bs : List Bool), xs = [.ref p] ∧ SqL K H p (bs.map V.bl) ∧ Q (.bl (bs.all id)) H
def rAny (K : Frag) : List V → Hp → VK → Prop := fun xs H Q => ∃ (p : Addr) (bs : List Bool), xs = [.ref p] ∧ SqL K H p (bs.map V.bl) ∧ Q (.bl (bs.any id)) H
def ipM : TIp := fun x y H Q => ∃ i j, x = .int i ∧ y = .int j ∧ IntMulOk i j ∧ Q (.int (i * j)) H
def rIxQ (K : Frag) : R2 := fun x y H Q => ∃ p xs i v, x = .ref p ∧ y = .int i ∧ (SqL K H p xs ∨ SqT K H p xs) ∧ atI xs i = some v ∧ Q v H
theorem ix_q {K : Frag} (hK : X.K = K) : IxR X (rIxQ K) := by
  subst hK
  intro value slice pins s σ H x y v u Q I rx ry h hs
  refine (ix_list.or ix_tup) (value := value) (slice := slice) pins s σ H x y v u Q I rx ry ?_ hs
  obtain ⟨p, xs, i, v, rfl, rfl, hq, ha, q⟩ := h
  rcases hq with hq | hq
  · exact .inl ⟨p, xs, i, v, rfl, rfl, hq, ha, q⟩
  · exact .inr ⟨p, xs, i, v, rfl, rfl, hq, ha, q⟩
end
end L2


set_option Elab.async false
set_option linter.all false
set_option maxRecDepth 100000
set_option maxHeartbeats 1000000
namespace L2
open PySem PySem.Spec PyProof.Rows PySem.W


def IsLow (f : Nat → Int) (a b p : Nat) : Prop := a ≤ p ∧ p ≤ b ∧ (∀ q, a ≤ q → q < p → f p < f q) ∧ ∀ q, p < q → q ≤ b → f p ≤ f q
theorem IsLow.unique {f : Nat → Int} {a b p q : Nat} (h : IsLow f a b p) (k : IsLow f a b q) : p = q := by
  obtain ⟨h1, h2, h3, h4⟩ := h
  obtain ⟨k1, k2, k3, k4⟩ := k
  rcases Nat.lt_trichotomy p q with z | z | z
  · have := k3 p h1 z
    have := h4 q z k2
    omega
  · exact z
  · have := h3 q k1 z
    have := k4 p z h2
    omega
theorem IsLow.join {f : Nat → Int} {a m a' b p q : Nat} (h : IsLow f a m p) (k : IsLow f a' b q) (h1 : a ≤ a') (h2 : a' ≤ m + 1) (h3 : m ≤ b) : IsLow f a b (if f q < f p then q else p) := by
  obtain ⟨p1, p2, p3, p4⟩ := h
  obtain ⟨q1, q2, q3, q4⟩ := k
  have pm : ∀ r, a ≤ r → r ≤ m → f p ≤ f r := fun r r1 r2 => by
    rcases Nat.lt_trichotomy r p with z | z | z
    · exact Int.le_of_lt (p3 r r1 z)
    · rw [z]; exact Int.le_refl _
    · exact p4 r z r2
  have qm : ∀ r, a' ≤ r → r ≤ b → f q ≤ f r := fun r r1 r2 => by
    rcases Nat.lt_trichotomy r q with z | z | z
    · exact Int.le_of_lt (q3 r r1 z)
    · rw [z]; exact Int.le_refl _
    · exact q4 r z r2
  split
  · rename_i hlt
    refine ⟨by omega, q2, fun r r1 r2 => ?_, fun r r1 r2 => qm r (by omega) r2⟩
    by_cases z : a' ≤ r
    · exact q3 r z r2
    · have := pm r r1 (by omega); omega
  · rename_i hle
    refine ⟨p1, by omega, p3, fun r r1 r2 => ?_⟩
    by_cases z : r ≤ m
    · exact p4 r r1 z
    · have := qm r (by omega) r2; omega
def lowF (f : Nat → Int) (a : Nat) : Nat → Nat
  | 0 => a
  | c + 1 => if f (a + c + 1) < f (lowF f a c) then a + c + 1 else lowF f a c
theorem isLow_one (f : Nat → Int) (a : Nat) : IsLow f a a a := ⟨Nat.le_refl _, Nat.le_refl _, fun q h1 h2 => by omega, fun q h1 h2 => by omega⟩
theorem lowF_is (f : Nat → Int) (a c : Nat) : IsLow f a (a + c) (lowF f a c) := by
  induction c with
  | zero => exact isLow_one f a
  | succ c ih =>
    rw [lowF]
    exact ih.join (isLow_one f (a + c + 1)) (by omega) (by omega) (by omega)
def nth (ns : List Int) (i : Nat) : Int := ns.getD i 0
theorem nth_at {ns : List Int} {i : Nat} (h : i < ns.length) : atI (ns.map V.int) (i : Int) = some (V.int (nth ns i)) := by
  rw [atI_at rfl (by simpa using h)]
  simp [nth, List.getD_eq_getElem?_getD, h]
theorem lowF_lt (f : Nat → Int) (a c : Nat) : a ≤ lowF f a c ∧ lowF f a c ≤ a + c := ⟨(lowF_is f a c).1, (lowF_is f a c).2.1⟩

def Tall (n i : Nat) : Prop := n < 2 ^ i ∧ ∀ j, j < i → 2 ^ j ≤ n
theorem Tall.unique {n i j : Nat} (h : Tall n i) (k : Tall n j) : i = j := by
  rcases Nat.lt_trichotomy i j with z | z | z
  · have := k.2 i z; have := h.1; omega
  · exact z
  · have := h.2 j z; have := k.1; omega

def WI (N : Nat) (Pv : Nat → St → Hp → Prop) (m : Nat) (σ : St) (H : Hp) : Prop := ∃ i, m = N - i ∧ i ≤ N ∧ Pv i σ H
theorem WI.next {N : Nat} {Pv : Nat → St → Hp → Prop} {i : Nat} : ∀ σ' H', (i + 1 ≤ N ∧ Pv (i + 1) σ' H') → ∃ m', m' < N - i ∧ WI N Pv m' σ' H' := fun σ' H' h => ⟨N - (i + 1), by omega, i + 1, rfl, h.1, h.2⟩
theorem while_i {c : TT} {tb : TS} {D : Ends} {σ : St} {H : Hp} (N : Nat) (Pv : Nat → St → Hp → Prop) (h0 : Pv 0 σ H)
    (hs : ∀ i σ H, i ≤ N → Pv i σ H → c σ H fun b H1 => if b = true then ∃ Nx : St → Hp → Prop, (∀ σ' H', Nx σ' H' → ∃ m', m' < N - i ∧ WI N Pv m' σ' H') ∧ tb { D with nx := Nx, ct := Nx, bk := D.nx } σ H1 else D.nx σ H1) : WhileR c tb D σ H := by
  refine ⟨WI N Pv, ⟨N, 0, rfl, Nat.zero_le _, h0⟩, ?_⟩
  rintro m σ H ⟨i, rfl, hi, p⟩
  exact hs i σ H hi p
theorem Same.seqT {K : Frag} {H H' : Hp} {a : Addr} {xs : List V} (e : Same H H') (h : SqT K H a xs) : SqT K H' a xs := by
  rcases h with (h | ⟨o, h⟩) | h
  · exact .inl (.inl (e _ _ h))
  · exact .inl (.inr ⟨o, e _ _ h⟩)
  · exact .inr h
theorem Same.q {K : Frag} {H H' : Hp} {a : Addr} {xs : List V} (e : Same H H') (h : SqL K H a xs ∨ SqT K H a xs) : SqL K H' a xs ∨ SqT K H' a xs := h.imp e.seq e.seqT
theorem Exc.trans {p : Addr} {H H1 H2 : Hp} (a : Exc p H H1) (b : Exc p H1 H2) : Exc p H H2 := fun c o n z => b c o n (a c o n z)
theorem Exc.free {p q : Addr} {H H' : Hp} (e : Exc p H H') (n : q ≠ p) (h : H' q = none) : H q = none := by
  cases z : H q with
  | none => rfl
  | some o => rw [e q o n z] at h; cases h
theorem Exc.updN {p q : Addr} {H H' : Hp} {o : HO} (e : Exc p H H') (h : H q = none) : Exc p H (L2.upd H' q o) := fun b u n z => by
  rw [upd_ne (ne_of_none z h)]; exact e b u n z
theorem Exc.same {p : Addr} {H H1 H2 : Hp} (a : Exc p H H1) (s : Same H1 H2) : Exc p H H2 := a.trans s.toExc

def RowsN (H0 H : Hp) (l : Addr) (rs : List (List Int)) : Prop := ∃ as : List Addr, H l = some (.lst (as.map V.ref)) ∧ l ∉ as ∧ as.length = rs.length ∧ (∀ i (h1 : i < as.length) (h2 : i < rs.length), H as[i] = some (.lst (rs[i].map V.int))) ∧ H0 l = none ∧ ∀ a ∈ as, H0 a = none
theorem RowsN.same {H0 H H' : Hp} {l : Addr} {rs : List (List Int)} (R : RowsN H0 H l rs) (s : Same H H') : RowsN H0 H' l rs := by
  obtain ⟨as, e, n, hl, h, z⟩ := R
  exact ⟨as, s _ _ e, n, hl, fun i h1 h2 => s _ _ (h i h1 h2), z⟩
theorem RowsN.from {H0 H1 H : Hp} {l : Addr} {rs : List (List Int)} (R : RowsN H1 H l rs) (s : Same H0 H1) : RowsN H0 H l rs := by
  obtain ⟨as, e, n, hl, h, z1, z2⟩ := R
  exact ⟨as, e, n, hl, h, s.free z1, fun a ha => s.free (z2 a ha)⟩
theorem RowsN.push {H0 H : Hp} {l p : Addr} {rs : List (List Int)} {r : List Int} {as : List Addr} (e : H l = some (.lst (as.map V.ref))) (n : l ∉ as) (hl : as.length = rs.length) (h : ∀ i (h1 : i < as.length) (h2 : i < rs.length), H as[i] = some (.lst (rs[i].map V.int)))
    (z1 : H0 l = none) (z2 : ∀ a ∈ as, H0 a = none) (hp : H p = some (.lst (r.map V.int))) (np : p ≠ l) (zp : H0 p = none) : RowsN H0 (upd H l (.lst (as.map V.ref ++ [.ref p]))) l (rs ++ [r]) := by
  obtain ⟨bs, q1, q2, q3, q4⟩ := Rows.push e n hl h hp np
  rw [upd_same] at q1
  have e2 : bs = as ++ [p] := by
    have q1' : (as ++ [p]).map V.ref = bs.map V.ref := by
      have := HO.lst.inj (Option.some.inj q1)
      simpa using this
    have inj : ∀ (u v : List Addr), u.map V.ref = v.map V.ref → u = v := by
      intro u
      induction u with
      | nil => intro v hv; cases v with | nil => rfl | cons _ _ => cases hv
      | cons x u ih =>
        intro v hv
        cases v with
        | nil => cases hv
        | cons y v =>
          rw [List.map_cons, List.map_cons] at hv
          injection hv with h1 h2
          injection h1 with h1
          rw [h1, ih v h2]
    exact (inj _ _ q1').symm
  subst e2
  refine ⟨as ++ [p], upd_same.trans (by simp), q2, q3, q4, z1, fun a ha => ?_⟩
  rcases List.mem_append.mp ha with ha | ha
  · exact z2 a ha
  · have : a = p := by simpa using ha
    rw [this]; exact zp
theorem RowsN.nil {H : Hp} {p : Addr} (hp : H p = none) : RowsN H (upd H p (.lst [])) p [] := ⟨[], upd_same, by simp, rfl, fun i h1 h2 => absurd h1 (by simp), hp, fun a ha => nomatch ha⟩
end L2


set_option Elab.async false
set_option linter.all false
set_option maxRecDepth 100000
set_option maxHeartbeats 1000000
namespace L2
open PySem PySem.Spec PyProof.Rows PySem.W


section
variable {X : Cx} {a b c d : Expr} {ta tb tc td : TE} {pos : Pos}
def tChain3 (r r' r'' : R2) (ta tb tc td : TE) : TE := fun σ H Q => ta σ H fun x H1 => tb σ H1 fun y H2 => r x y H2 fun z H3 => ∃ k, z = .bl k ∧
  (if k = true then tc σ H3 fun y' H4 => r' y y' H4 fun z' H5 => ∃ k', z' = .bl k' ∧ (if k' = true then td σ H5 fun y'' H6 => r'' y' y'' H6 Q else Q (.bl false) H5) else Q (.bl false) H3)
def rBits : V → List V → Hp → VK → Prop := fun x vs H Q => ∃ i, x = .int i ∧ vs = [] ∧ Q (.int (Builtin.Int.intBits i : Nat)) H
def iSeq (K : Frag) (tl : TE) : TI := fun σ H R => tl σ H fun x H1 => ∃ a, x = .ref a ∧ (((∃ xs, SqL K H1 a xs) ∧ R (Itl K a) H1) ∨ ((∃ xs, SqT K H1 a xs) ∧ R (Itt K a) H1))
end

def CA (n : Nat) (Pv : Nat → List V → Hp → Prop) (i m : Nat) (acc : List V) (H : Hp) : Prop := m = n - i ∧ i ≤ n ∧ acc.length ≤ i ∧ Pv i acc H
theorem CA.take {n : Nat} {Pv : Nat → List V → Hp → Prop} {i : Nat} {acc : List V} {v : V} {H : Hp} (hi : i < n) (hl : acc.length ≤ i) (h : Pv (i + 1) (acc ++ [v]) H) : ∃ m', m' < n - i ∧ CA n Pv (i + 1) m' (acc ++ [v]) H := ⟨n - (i + 1), by omega, rfl, hi, by simp; omega, h⟩
theorem CA.skip {n : Nat} {Pv : Nat → List V → Hp → Prop} {i : Nat} {acc : List V} {H : Hp} (hi : i < n) (hl : acc.length ≤ i) (h : Pv (i + 1) acc H) : ∃ m', m' < n - i ∧ CA n Pv (i + 1) m' acc H := ⟨n - (i + 1), by omega, rfl, hi, by omega, h⟩
def IsQ (K : Frag) (H : Hp) {α : Type} (P : V → α → Prop) (v : V) (as : List α) : Prop := ∃ a xs, v = .ref a ∧ (SqL K H a xs ∨ SqT K H a xs) ∧ xs.length = as.length ∧ ∀ (j : Nat) (x : V) (y : α), xs[j]? = some x → as[j]? = some y → P x y
theorem IsQ.mono {K : Frag} {H H' : Hp} {α : Type} {P P' : V → α → Prop} {v : V} {as : List α} (h : IsQ K H P v as) (s : Same H H') (hp : ∀ x y, P x y → P' x y) : IsQ K H' P' v as := by
  obtain ⟨a, xs, e, q, l, r⟩ := h
  exact ⟨a, xs, e, s.q q, l, fun j x y h1 h2 => hp _ _ (r j x y h1 h2)⟩
theorem IsI.list {xs : List V} {ns : List Int} (hl : xs.length = ns.length) (h : ∀ (j : Nat) (x : V) (y : Int), xs[j]? = some x → ns[j]? = some y → IsI x y) : xs = ns.map V.int := by
  refine List.ext_getElem (by simpa using hl) fun j h1 h2 => ?_
  have h2' : j < ns.length := by simpa using h2
  rw [List.getElem_map]
  exact h j _ _ (List.getElem?_eq_getElem h1) (List.getElem?_eq_getElem h2')
theorem IsQ.at {K : Frag} {H : Hp} {α : Type} {P : V → α → Prop} {a : Addr} {as : List α} (h : IsQ K H P (.ref a) as) {j : Nat} (hj : j < as.length) : ∃ xs x, (SqL K H a xs ∨ SqT K H a xs) ∧ atI xs (j : Int) = some x ∧ P x as[j] := by
  obtain ⟨b, xs, e, q, l, r⟩ := h
  cases e
  have hj' : j < xs.length := by omega
  exact ⟨xs, xs[j], q, atI_at rfl hj', r j _ _ (List.getElem?_eq_getElem hj') (List.getElem?_eq_getElem hj)⟩

def ItemsOf2 (F : List V → HO) (H : Hp) (rs : List (List Int)) (acc : List V) : Prop := acc.length = rs.length ∧ ∀ (j : Nat) (x : V) (ns : List Int), acc[j]? = some x → rs[j]? = some ns → ∃ a, x = .ref a ∧ H a = some (F (ns.map V.int))
theorem Rows.walk {K : Frag} {H1 : Hp} {d : Addr} {rs : List (List Int)} (R : Rows H1 d rs) : (∀ i H, Same H1 H → i < rs.length → (Itl K d).go i H) ∧ (∀ H, Same H1 H → (Itl K d).stop rs.length H) ∧
    ∀ i x H H' (h : i < rs.length), Same H1 H → (Itl K d).yld i H x H' → H' = H ∧ ∃ a, x = .ref a ∧ H a = some (.lst (rs[i].map V.int)) := by
  obtain ⟨as, e, n, hl, hh⟩ := R
  refine ⟨fun i H s hi => ⟨_, V.ref (as[i]'(by omega)), SqL.of (s _ _ e), by simp [show i < as.length by omega]⟩, fun H s => ⟨_, SqL.of (s _ _ e), by simp [hl]⟩, fun i x H H' hi s y => ?_⟩
  obtain ⟨e1, y⟩ := y
  have h1 := y _ (SqL.of (s _ _ e))
  have hia : i < as.length := by omega
  rw [List.getElem?_map, List.getElem?_eq_getElem hia] at h1
  exact ⟨e1, as[i], (Option.some.inj h1).symm, s _ _ (hh i hia hi)⟩
theorem IsQ.same {K : Frag} {H H' : Hp} {v : V} {rs : List (List Int)} (h : IsQ K H (IsQ K H IsI) v rs) (s : Same H H') : IsQ K H' (IsQ K H' IsI) v rs := h.mono s fun x y q => q.mono s fun _ _ z => z

theorem IsQ.walk {K : Frag} {H1 : Hp} {l : Addr} {rs : List (List Int)} {R : It → Hp → Prop} (h : IsQ K H1 (IsQ K H1 IsI) (.ref l) rs)
    (hk : ∀ J : It, (∀ i H, Same H1 H → i < rs.length → J.go i H) → (∀ H, Same H1 H → J.stop rs.length H) → (∀ i x H H' (h : i < rs.length), Same H1 H → J.yld i H x H' → H' = H ∧ IsQ K H IsI x rs[i]) → R J H1) :
    ((∃ xs, SqL K H1 l xs) ∧ R (Itl K l) H1) ∨ ((∃ xs, SqT K H1 l xs) ∧ R (Itt K l) H1) := by
  obtain ⟨b, xs, e, q, hl, r⟩ := h
  cases e
  rcases q with q | q
  · refine .inl ⟨⟨_, q⟩, hk _ (fun i H s hi => ⟨xs, xs[i]'(by omega), s.seq q, List.getElem?_eq_getElem (by omega)⟩) (fun H s => ⟨xs, s.seq q, by omega⟩) fun i x H H' hi s y => ?_⟩
    obtain ⟨e1, y⟩ := y
    exact ⟨e1, (r i x _ (y _ (s.seq q)) (List.getElem?_eq_getElem hi)).mono s fun _ _ z => z⟩
  · refine .inr ⟨⟨_, q⟩, hk _ (fun i H s hi => ⟨xs, xs[i]'(by omega), s.seqT q, List.getElem?_eq_getElem (by omega)⟩) (fun H s => ⟨xs, s.seqT q, by omega⟩) fun i x H H' hi s y => ?_⟩
    obtain ⟨e1, y⟩ := y
    exact ⟨e1, (r i x _ (y _ (s.seqT q)) (List.getElem?_eq_getElem hi)).mono s fun _ _ z => z⟩

theorem ItemsOf2.same {F : List V → HO} {H H' : Hp} {rs : List (List Int)} {acc : List V} (h : ItemsOf2 F H rs acc) (s : Same H H') : ItemsOf2 F H' rs acc := ⟨h.1, fun j x ns h1 h2 => by obtain ⟨a, e1, e2⟩ := h.2 j x ns h1 h2; exact ⟨a, e1, s _ _ e2⟩⟩
theorem PoolAt.some {H : Hp} {p : Addr} (P : PoolAt H p) : H p ≠ none := fun z => by obtain ⟨x, y, e, _⟩ := P; rw [z] at e; cases e
end L2


set_option Elab.async false
set_option linter.all false
set_option maxRecDepth 100000
set_option maxHeartbeats 1000000
namespace L2
open PySem PySem.Spec PyProof.Rows PySem.W


section
variable {X : Cx}
def rInsert : V → List V → Hp → VK → Prop := fun x vs H Q => ∃ l xs i y, x = .ref l ∧ vs = [.int i, y] ∧ H l = some (.lst xs) ∧ 0 ≤ i ∧ i < 2 ^ 62 ∧ xs.length < sizeLine ∧ Q .non (upd H l (.lst (xs.take i.toNat ++ y :: xs.drop i.toNat)))
theorem Vals.takeN : ∀ {xs : List V} {us : List Value} (k : Nat), Vals xs us → Vals (xs.take k) (us.take k)
  | _, _, 0, _ => by simp; exact .nil
  | _, _, _ + 1, .nil => .nil
  | _, _, k + 1, .cons r h => .cons r (Vals.takeN k h)
def rIndex (K : Frag) : V → List V → Hp → VK → Prop := fun x vs H Q => ∃ (l : Addr) (ns : List Int) (k : Int), x = .ref l ∧ vs = [.int k] ∧ SqL K H l (ns.map V.int) ∧ ns.length ≤ 100000 ∧ k ∈ ns ∧ Q (.int (ns.idxOf k : Nat)) H
end
def rIntB : List V → Hp → VK → Prop := fun xs H Q => ∃ k, xs = [.bl k] ∧ Q (.int (if k = true then 1 else 0)) H
theorem call_intB {X : Cx} : CallR X (.type "int") rIntB := fun pins s σ H xs us Q I r h => call_int1 pins s σ H xs us Q I r (.inr h)
def PotAt (H : Hp) (p : Addr) : Prop := ∃ x : Int, H p = some (.lst [.int x]) ∧ 0 ≤ x
theorem PotAt.ne {H : Hp} {p q : Addr} (P : PotAt H p) (h : H q = none) : q ≠ p := by
  obtain ⟨x, e, _⟩ := P
  exact (ne_of_none e h).symm
theorem PotAt.same {H H' : Hp} {p : Addr} (P : PotAt H p) (s : Same H H') : PotAt H' p := by
  obtain ⟨x, e, r⟩ := P
  exact ⟨x, s _ _ e, r⟩
theorem PotAt.upd {H : Hp} {p q : Addr} {o : HO} (P : PotAt H p) (h : H q = none) : PotAt (L2.upd H q o) p := P.same ((Same.refl H).upd h)
theorem PotAt.updN {H : Hp} {p q : Addr} {o : HO} (P : PotAt H p) (h : q ≠ p) : PotAt (L2.upd H q o) p := by
  obtain ⟨x, e, r⟩ := P
  exact ⟨x, by rw [upd_ne h.symm]; exact e, r⟩
theorem PotAt.some {H : Hp} {p : Addr} (P : PotAt H p) : H p ≠ none := fun z => by obtain ⟨x, e, _⟩ := P; rw [z] at e; cases e
end L2


set_option Elab.async false
set_option linter.all false
set_option maxRecDepth 100000
set_option maxHeartbeats 1000000
namespace L2


def IsPrev (f : Nat → Int) (p q : Nat) : Prop := q < p ∧ f q ≤ f p ∧ ∀ r, q < r → r < p → f p < f r
def IsNext (f : Nat → Int) (n p r : Nat) : Prop := p < r ∧ r < n ∧ f r < f p ∧ ∀ s, p < s → s < r → f p ≤ f s
def NoPrev (f : Nat → Int) (p : Nat) : Prop := ∀ q, q < p → f p < f q
def NoNext (f : Nat → Int) (n p : Nat) : Prop := ∀ r, p < r → r < n → f p ≤ f r

def ElderIs (f : Nat → Int) (n p : Nat) (e : Int) : Prop :=
  (NoPrev f p ∧ NoNext f n p ∧ e = -1) ∨ (∃ q, IsPrev f p q ∧ NoNext f n p ∧ e = q) ∨ (∃ r, NoPrev f p ∧ IsNext f n p r ∧ e = r) ∨
  ∃ q r, IsPrev f p q ∧ IsNext f n p r ∧ e = if f q ≤ f r then (r : Int) else q
theorem exists_last {P : Nat → Prop} [DecidablePred P] (i : Nat) : ∀ d r, r + d = i → P r → ∃ t, r ≤ t ∧ t ≤ i ∧ P t ∧ ∀ s, t < s → s ≤ i → ¬ P s := by
  intro d
  induction d with
  | zero => intro r e h; exact ⟨r, Nat.le_refl _, by omega, h, fun s h1 h2 => by omega⟩
  | succ d ih =>
    intro r e h
    by_cases hx : ∃ t, r < t ∧ t ≤ i ∧ P t
    · obtain ⟨t, h1, h2, h3⟩ := hx
      -- step to r + 1 by cases
      by_cases h4 : P (r + 1)
      · obtain ⟨u, u1, u2, u3, u4⟩ := ih (r + 1) (by omega) h4
        exact ⟨u, by omega, u2, u3, u4⟩
      · -- go on from the next one
        have gen : ∀ k t, t + k = i → r < t → P t → ∃ u, r ≤ u ∧ u ≤ i ∧ P u ∧ ∀ s, u < s → s ≤ i → ¬ P s := by
          intro k
          induction k with
          | zero => intro t e h1 h3; exact ⟨t, by omega, by omega, h3, fun s h1 h2 => by omega⟩
          | succ k ihk =>
            intro t e h1 h3
            by_cases hy : ∃ s, t < s ∧ s ≤ i ∧ P s
            · -- the last one of the rest
              have key : ∀ m, m ≤ i → (∃ s, t < s ∧ s ≤ m ∧ P s) → ∃ u, t < u ∧ u ≤ m ∧ P u ∧ ∀ s, u < s → s ≤ m → ¬ P s := by
                intro m
                induction m with
                | zero => rintro _ ⟨s, h5, h6, _⟩; omega
                | succ m ihm =>
                  rintro hm ⟨s, h5, h6, h7⟩
                  by_cases hp : P (m + 1)
                  · exact ⟨m + 1, by omega, Nat.le_refl _, hp, fun s h1 h2 => by omega⟩
                  · have hs : s ≤ m := by
                      rcases Nat.lt_or_ge m s with z | z
                      · have : s = m + 1 := by omega
                        rw [this] at h7; exact absurd h7 hp
                      · exact z
                    obtain ⟨u, u1, u2, u3, u4⟩ := ihm (by omega) ⟨s, h5, hs, h7⟩
                    refine ⟨u, u1, by omega, u3, fun s' h1 h2 => ?_⟩
                    by_cases e : s' = m + 1
                    · rw [e]; exact hp
                    · exact u4 s' h1 (by omega)
              obtain ⟨u, u1, u2, u3, u4⟩ := key i (Nat.le_refl _) hy
              exact ⟨u, by omega, u2, u3, u4⟩
            · exact ⟨t, by omega, by omega, h3, fun s h1 h2 h5 => hy ⟨s, h1, h2, h5⟩⟩
        exact gen (i - t) t (by omega) h1 h3
    · exact ⟨r, Nat.le_refl _, by omega, h, fun s h1 h2 h3 => hx ⟨s, h1, h2, h3⟩⟩

theorem last_below {P : Nat → Prop} [DecidablePred P] {n r : Nat} (hr : r < n) (h : P r) : ∃ t, r ≤ t ∧ t < n ∧ P t ∧ ∀ s, t < s → s < n → ¬ P s := by
  obtain ⟨t, h1, h2, h3, h4⟩ := exists_last (P := P) (n - 1) (n - 1 - r) r (by omega) h
  exact ⟨t, h1, by omega, h3, fun s a b => h4 s a (by omega)⟩
def Spine (f : Nat → Int) (i : Nat) (sp : List Nat) : Prop := sp.Pairwise (· < ·) ∧ ∀ q, q ∈ sp ↔ q < i ∧ ∀ r, q < r → r < i → f q ≤ f r
theorem prev_or (f : Nat → Int) (p : Nat) : NoPrev f p ∨ ∃ q, IsPrev f p q := by
  by_cases h : ∃ q, q < p ∧ f q ≤ f p
  · obtain ⟨q, h1, h2⟩ := h
    obtain ⟨t, _, t2, t3, t4⟩ := last_below (P := fun q => f q ≤ f p) h1 h2
    exact .inr ⟨t, t2, t3, fun r a b => by have := t4 r a b; omega⟩
  · exact .inl fun q hq => by
      have : ¬ (f q ≤ f p) := fun z => h ⟨q, hq, z⟩
      omega

theorem prev_open {f : Nat → Int} {i p q : Nat} (hp : p < i) (ho : ∀ r, p < r → r < i → f p ≤ f r) (h : IsPrev f p q) : (∀ r, q < r → r < i → f q ≤ f r) ∧ ∀ s, q < s → s < p → ¬ ∀ r, s < r → r < i → f s ≤ f r := by
  obtain ⟨h1, h2, h3⟩ := h
  refine ⟨fun r a b => ?_, fun s a b z => ?_⟩
  · rcases Nat.lt_trichotomy r p with c | c | c
    · have := h3 r a c; omega
    · rw [c]; exact h2
    · have := ho r c b; omega
  · have := z p b hp
    have := h3 s a b
    omega
theorem spine_step {f : Nat → Int} {i : Nat} {A B : List Nat} (hs : Spine f i (A ++ B)) (hA : ∀ q ∈ A, f q ≤ f i) (hB : ∀ q ∈ B, f i < f q) :
    Spine f (i + 1) (A ++ [i]) ∧ ElderIs f (i + 1) i (match A.getLast? with | some q => (q : Int) | none => -1) ∧ ∀ p e, p < i → ElderIs f i p e → ElderIs f (i + 1) p (if B.head? = some p then (i : Int) else e) := by
  obtain ⟨hso, hm⟩ := hs
  have hAB := List.pairwise_append.mp hso
  have noNx : NoNext f (i + 1) i := fun r a b => by omega
  refine ⟨⟨?_, fun q => ?_⟩, ?_, fun p e hp he => ?_⟩
  · refine List.pairwise_append.mpr ⟨hAB.1, List.pairwise_singleton _ _, fun a ha b hb => ?_⟩
    have : b = i := by simpa using hb
    rw [this]
    exact ((hm a).mp (List.mem_append_left _ ha)).1
  · rw [List.mem_append, List.mem_singleton]
    constructor
    · rintro (h | h)
      · obtain ⟨h1, h2⟩ := (hm q).mp (List.mem_append_left _ h)
        refine ⟨by omega, fun r a b => ?_⟩
        by_cases e : r = i
        · rw [e]; exact hA q h
        · exact h2 r a (by omega)
      · subst h; exact ⟨by omega, fun r a b => by omega⟩
    · rintro ⟨h1, h2⟩
      by_cases e : q = i
      · exact .inr e
      · have hq : q ∈ A ++ B := (hm q).mpr ⟨by omega, fun r a b => h2 r a (by omega)⟩
        rcases List.mem_append.mp hq with h | h
        · exact .inl h
        · have := hB q h
          have := h2 i (by omega) (by omega)
          omega
  · -- the elder of i
    rcases prev_or f i with h | ⟨q, h⟩
    · have hA0 : A = [] := by
        cases A with
        | nil => rfl
        | cons a r =>
          have h1 := ((hm a).mp (by simp)).1
          have := hA a (by simp)
          have := h a h1
          omega
      rw [hA0]
      exact .inl ⟨h, noNx, rfl⟩
    · have ho : ∀ r, q < r → r < i → f q ≤ f r := fun r a b => by have := h.2.2 r a b; have := h.2.1; omega
      have hqA : q ∈ A := by
        rcases List.mem_append.mp ((hm q).mpr ⟨h.1, ho⟩) with z | z
        · exact z
        · have := hB q z; have := h.2.1; omega
      have hlast : A.getLast? = some q := by
        have hne : A ≠ [] := fun z => by rw [z] at hqA; cases hqA
        rw [List.getLast?_eq_some_getLast hne]
        congr 1
        have hl : A.getLast hne ∈ A := List.getLast_mem hne
        -- q ≤ last, and last is not past q
        by_cases e : A.getLast hne = q
        · exact e
        · exfalso
          have hlt : q < A.getLast hne := by
            have hd := List.dropLast_concat_getLast hne
            have hq2 : q ∈ A.dropLast := by
              rw [← hd] at hqA
              rcases List.mem_append.mp hqA with z | z
              · exact z
              · exact absurd (by simpa using z) (Ne.symm e)
            have hp2 := hAB.1
            rw [← hd] at hp2
            exact (List.pairwise_append.mp hp2).2.2 q hq2 _ (by simp)
          have h1 := ((hm (A.getLast hne)).mp (List.mem_append_left _ hl)).1
          have := h.2.2 _ hlt h1
          have := hA _ hl
          omega
      rw [hlast]
      exact .inr (.inl ⟨q, h, noNx, rfl⟩)
  · -- the elder of an earlier place
    have nxt : ∀ r, IsNext f i p r → IsNext f (i + 1) p r := fun r ⟨a, b, c, d⟩ => ⟨a, by omega, c, d⟩
    by_cases hop : NoNext f i p
    · have hmem : p ∈ A ++ B := (hm p).mpr ⟨hp, hop⟩
      by_cases hlt : f i < f p
      · have hnx : IsNext f (i + 1) p i := ⟨hp, by omega, hlt, fun s a b => hop s a b⟩
        have hpB : p ∈ B := by
          rcases List.mem_append.mp hmem with z | z
          · have := hA p z; omega
          · exact z
        obtain ⟨b0, Br, rfl⟩ : ∃ b0 Br, B = b0 :: Br := by
          cases B with
          | nil => cases hpB
          | cons b0 Br => exact ⟨b0, Br, rfl⟩
        have hhead : (b0 :: Br).head? = some b0 := rfl
        rw [hhead]
        rcases prev_or f p with hn | ⟨q, hq⟩
        · -- nothing ahead: p is the first of all
          have e0 : b0 = p := by
            by_cases z : b0 = p
            · exact z
            · exfalso
              have hpr : p ∈ Br := by
                rcases List.mem_cons.mp hpB with y | y
                · exact absurd y.symm z
                · exact y
              have hlt2 : b0 < p := (List.pairwise_cons.mp hAB.2.1).1 p hpr
              have := ((hm b0).mp (by simp)).2 p hlt2 hp
              have := hn b0 hlt2
              omega
          rw [if_pos (by rw [e0])]
          exact .inr (.inr (.inl ⟨i, hn, hnx, rfl⟩))
        · obtain ⟨hq1, hq2⟩ := prev_open hp hop hq
          have hqm : q ∈ A ++ b0 :: Br := (hm q).mpr ⟨Nat.lt_trans hq.1 hp, hq1⟩
          by_cases hqi : f q ≤ f i
          · -- q is kept: p is the first of B
            have e0 : b0 = p := by
              by_cases z : b0 = p
              · exact z
              · exfalso
                have hpr : p ∈ Br := by
                  rcases List.mem_cons.mp hpB with y | y
                  · exact absurd y.symm z
                  · exact y
                have hlt2 : b0 < p := (List.pairwise_cons.mp hAB.2.1).1 p hpr
                have hb0 := (hm b0).mp (by simp)
                have hqA : q ∈ A := by
                  rcases List.mem_append.mp hqm with y | y
                  · exact y
                  · have := hB q y; omega
                have hqb : q < b0 := hAB.2.2 q hqA b0 (by simp)
                exact hq2 b0 hqb hlt2 hb0.2
            rw [if_pos (by rw [e0])]
            refine .inr (.inr (.inr ⟨q, i, hq, hnx, ?_⟩))
            rw [if_pos hqi]
          · -- q goes, too: the elder stays
            have hqB : q ∈ b0 :: Br := by
              rcases List.mem_append.mp hqm with y | y
              · exact absurd (hA q y) hqi
              · exact y
            have hne : b0 ≠ p := by
              intro z
              subst z
              rcases List.mem_cons.mp hqB with y | y
              · have := hq.1; omega
              · have := (List.pairwise_cons.mp hAB.2.1).1 q y
                have := hq.1; omega
            rw [if_neg (by intro z; exact hne (Option.some.inj z))]
            have ee : e = q := by
              rcases he with ⟨h1, _, _⟩ | ⟨q', h1, _, h3⟩ | ⟨r, h1, _, _⟩ | ⟨q', r, _, h2, _⟩
              · have := h1 q hq.1; have := hq.2.1; omega
              · have : q' = q := by
                  rcases Nat.lt_trichotomy q' q with y | y | y
                  · have := h1.2.2 q y hq.1; have := hq.2.1; omega
                  · exact y
                  · have := hq.2.2 q' y h1.1; have := h1.2.1; omega
                rw [h3, this]
              · have := h1 q hq.1; have := hq.2.1; omega
              · have := hop r h2.1 h2.2.1; have := h2.2.2.1; omega
            refine .inr (.inr (.inr ⟨q, i, hq, hnx, ?_⟩))
            rw [if_neg hqi, ee]
      · -- still open: not of B
        have hnn : NoNext f (i + 1) p := fun r a b => by
          by_cases z : r = i
          · rw [z]; omega
          · exact hop r a (by omega)
        have hne : B.head? ≠ some p := fun z => by
          have : p ∈ B := List.mem_of_head? z
          have := hB p this
          omega
        rw [if_neg hne]
        rcases he with ⟨h1, _, h3⟩ | ⟨q, h1, _, h3⟩ | ⟨r, _, h2, _⟩ | ⟨q, r, _, h2, _⟩
        · exact .inl ⟨h1, hnn, h3⟩
        · exact .inr (.inl ⟨q, h1, hnn, h3⟩)
        · have := hop r h2.1 h2.2.1; have := h2.2.2.1; omega
        · have := hop r h2.1 h2.2.1; have := h2.2.2.1; omega
    · -- shut already
      have hne : B.head? ≠ some p := fun z => hop ((hm p).mp (List.mem_append_right _ (List.mem_of_head? z))).2
      rw [if_neg hne]
      rcases he with ⟨_, h2, _⟩ | ⟨q, _, h2, _⟩ | ⟨r, h1, h2, h3⟩ | ⟨q, r, h1, h2, h3⟩
      · exact absurd h2 hop
      · exact absurd h2 hop
      · exact .inr (.inr (.inl ⟨r, h1, nxt r h2, h3⟩))
      · exact .inr (.inr (.inr ⟨q, r, h1, nxt r h2, h3⟩))
end L2


set_option Elab.async false
set_option linter.all false
set_option maxRecDepth 100000
set_option maxHeartbeats 1000000
namespace L2
open PySem PySem.Spec PyProof.Rows PySem.W


theorem fm_congr {α β : Type} {f g : α → Option β} : ∀ {l : List α}, (∀ x ∈ l, f x = g x) → l.filterMap f = l.filterMap g
  | [], _ => rfl
  | x :: r, h => by rw [List.filterMap_cons, List.filterMap_cons, h x (List.mem_cons_self ..), fm_congr fun y hy => h y (List.mem_cons_of_mem _ hy)]
theorem keep_take (its : List Value) (k : Nat) (hk : k ≤ its.length) (start : Nat) : (its.zipIdx start).filterMap (fun xk => if (decide (((start + k : Nat) : Int) ≤ (xk.2 : Int)) && decide ((xk.2 : Int) < ((start + its.length : Nat) : Int)) && (((xk.2 : Int) - ((start + k : Nat) : Int)) % 1 == 0)) = true then none else some xk.1) = its.take k := by
  induction its generalizing k start with
  | nil => simp
  | cons x r ih =>
    rw [List.zipIdx_cons, List.filterMap_cons]
    cases k with
    | zero =>
      have h1 : (decide (((start + 0 : Nat) : Int) ≤ (start : Int)) && decide ((start : Int) < ((start + (x :: r).length : Nat) : Int)) && (((start : Int) - ((start + 0 : Nat) : Int)) % 1 == 0)) = true := by
        simp; omega
      simp only [h1, if_true]
      have := ih 0 (by omega) (start + 1)
      rw [List.take_zero] at this ⊢
      rw [← this]
      refine fm_congr fun xk hxk => ?_
      have hm := List.mem_zipIdx hxk
      have e1 : (decide (((start + 0 : Nat) : Int) ≤ (xk.2 : Int))) = (decide (((start + 1 + 0 : Nat) : Int) ≤ (xk.2 : Int))) := by
        rw [decide_eq_decide]; omega
      have e2 : ((start + (x :: r).length : Nat) : Int) = ((start + 1 + r.length : Nat) : Int) := by simp; omega
      have e3 : (((xk.2 : Int) - ((start + 0 : Nat) : Int)) % 1 == 0) = (((xk.2 : Int) - ((start + 1 + 0 : Nat) : Int)) % 1 == 0) := by simp [Int.emod_one]
      rw [e1, e2, e3]
    | succ k =>
      have h1 : (decide (((start + (k + 1) : Nat) : Int) ≤ (start : Int)) && decide ((start : Int) < ((start + (x :: r).length : Nat) : Int)) && (((start : Int) - ((start + (k + 1) : Nat) : Int)) % 1 == 0)) = false := by
        have : decide (((start + (k + 1) : Nat) : Int) ≤ (start : Int)) = false := decide_eq_false (by omega)
        rw [this]; rfl
      simp only [h1, Bool.false_eq_true, if_false]
      rw [List.take_succ_cons]
      congr 1
      have := ih k (by simpa using hk) (start + 1)
      rw [← this]
      refine fm_congr fun xk hxk => ?_
      have e1 : ((start + (k + 1) : Nat) : Int) = ((start + 1 + k : Nat) : Int) := by omega
      have e2 : ((start + (x :: r).length : Nat) : Int) = ((start + 1 + r.length : Nat) : Int) := by simp; omega
      rw [e1, e2]
section
variable {X : Cx} {e st : Expr} {te ts : TE} {pos pos1 p2 : Pos}
def tDelT (te ts : TE) : TS := fun D σ H => te σ H fun x H1 => ts σ H1 fun z H2 => ∃ (l : Addr) (xs : List V) (k : Nat), x = .ref l ∧ z = .int k ∧ H2 l = some (.lst xs) ∧ k ≤ xs.length ∧ D.nx σ (upd H2 l (.lst (xs.take k)))
theorem ps_delTail (he : PE X e te) (hs : PE X st ts) : PS X (.Delete [.Subscript e (.Slice (some st) none none p2) pos1] pos) (tDelT te ts) := by
  intro pins s σ H D I h
  refine wpAny_Delete (wpAny_deleteEach_cons ?_)
  show wpAny _ _ (eval e X.env >>= fun ov => holding [ov] (eval (.Slice (some st) none none p2) X.env) >>= fun iv => (do standAt pos1; holding [ov, iv] (delItem ov iv); release [ov, iv] [])) _ _ _
  refine wpAny_bind (thn (he pins s σ H _ I h) fun v s1 ⟨x, H1, I1, r1, q1⟩ => ?_)
  refine wpAny_bind (wpAny_holding ?_)
  refine wpAny_Slice ?_
  rw [evalPart_some]
  refine thn (hs pins s1 σ H1 _ I1 q1) fun vs s2 ⟨z, H2, I2, r2, l, xs, k, e1, e2, hx, hk, q⟩ => ?_
  subst e1 e2
  obtain ⟨tk, rfl⟩ := r2
  cases r1
  rw [evalPart_none]
  refine wpAny_pure ?_
  refine wpAny_pure ?_
  have I4 : Inv X pins σ H2 { s2 with heap := s2.heap.push { cls := .type "slice", data := .fields #[.int k tk, .none, .none] } } := I2.kept (t' := s2.toks) fun b ob q => Heap.get?_push_of_some _ q
  have hsl : ({ s2 with heap := s2.heap.push { cls := .type "slice", data := .fields #[.int k tk, .none, .none] } } : Shared).heap.get? s2.heap.objs.size = some { cls := .type "slice", data := .fields #[.int k tk, .none, .none] } := Heap.get?_push_size _ rfl
  obtain ⟨z, its, n, r, hlen, hob⟩ := I4.lstM hx
  generalize ({ s2 with heap := s2.heap.push { cls := .type "slice", data := .fields #[.int k tk, .none, .none] } } : Shared) = s4 at I4 hsl hob ⊢
  have hT : s4.TypeIs (.ref l) "list" := ⟨_, hob, rfl⟩
  have hTs : s4.TypeIs (.ref s2.heap.objs.size) "slice" := ⟨_, hsl, rfl⟩
  refine wpAny_bind (wpAny_standAt (wpAny_bind (wpAny_holding ?_)))
  refine wpAny_delItem_slot hT (by decide) F.slot_list_delitem (wpAny_call_entry F.slot_list_delitem hT F.entry_list_delitem ?_ (F.args_list_delitem_2 _ _))
  show wpAny _ _ (Builtin.List.listSubscript? (.ref s2.heap.objs.size) >>= _) _ _ s4
  refine wpAny_bind ?_; unfold Builtin.List.listSubscript?; refine wpAny_bind (wpAny_specialOf hTs slice_no_index ?_)
  simp only [Option.isNone_none, if_true]; refine wpAny_pure ?_
  show wpAny _ _ (typeOf (.ref s2.heap.objs.size) >>= _) _ _ s4
  refine wpAny_bind (wpAny_typeOf hTs ?_); rw [if_neg (by decide), listSliceParts_eq]
  refine wpAny_bind (wpAny_bind (wpAny_field hsl rfl (x := .none) rfl (wpAny_bind (wpAny_listPart (k := none) .none ?_)))); rw [if_neg (show ¬ ((rawPart none == rawInt 0) = true) from Bool.false_ne_true)]
  refine wpAny_bind (wpAny_field hsl rfl (x := .int k tk) rfl (wpAny_bind (wpAny_listPart (.int (k : Int) tk) ?_)))
  refine wpAny_bind (wpAny_field hsl rfl (x := .none) rfl (wpAny_bind (wpAny_listPart (k := none) .none (wpAny_pure ?_))))
  refine wpAny_bind (m := Builtin.List.listItems (.ref l)) ?_; unfold Builtin.List.listItems
  refine wpAny_bind (wpAny_seqItems hob rfl (wpAny_pure ?_)); refine wpAny_bind (wpAny_of_eq (sliceIndices_raw (some (k : Int)) none none its.toArray.size (by simp)) (wpAny_bind (wpAny_rule ?_)))
  have hb : sliceBounds (some (k : Int)) none none its.toArray.size = ((k : Int), ((its.length : Nat) : Int), 1) := by
    unfold sliceBounds
    simp
    omega
  rw [hb]
  have hf : ∀ f : Array Value → Array Value, (∀ ys : Array Value, f ys = (ys.toList.zipIdx.filterMap fun xk => if (decide ((k : Int) ≤ (xk.2 : Int)) && decide ((xk.2 : Int) < ((its.length : Nat) : Int)) && (((xk.2 : Int) - (k : Int)) % 1 == 0)) = true then none else some xk.1).toArray) → f its.toArray = (its.take k).toArray := fun f h => by
    rw [h]
    congr 1
    have := keep_take its k (by omega) 0
    simpa using this
  refine wpAny_bind (m := updateSeq l _) ?_
  refine wpAny_updateSeq (n := n) hob rfl ?_ (by rw [List.size_toArray]; omega) ?_
  · refine wpAny_bind (wpAny_letGo (wpAny_pure ⟨_, rfl, ?_⟩))
    refine wpAny_release (wpAny_deleteEach_nil ⟨σ, _, I4.lset hx hob (hf _ fun ys => rfl) (r.takeN k) ?_, q⟩)
    rw [List.length_take]; omega
  · rw [List.size_toArray]
    refine Nat.le_trans (List.length_filterMap_le _ _) ?_
    rw [List.length_zipIdx]
    show its.length ≤ sizeLine + 1
    omega
end
end L2


set_option Elab.async false
set_option linter.all false
set_option maxRecDepth 100000
set_option maxHeartbeats 1000000
namespace L2
open PySem PySem.Spec PyProof.Rows PySem.W


theorem IsPrev.unique {f : Nat → Int} {p q q' : Nat} (h : IsPrev f p q) (k : IsPrev f p q') : q = q' := by
  rcases Nat.lt_trichotomy q q' with z | z | z
  · have := h.2.2 q' z k.1; have := k.2.1; omega
  · exact z
  · have := k.2.2 q z h.1; have := h.2.1; omega
theorem IsNext.unique {f : Nat → Int} {n p r r' : Nat} (h : IsNext f n p r) (k : IsNext f n p r') : r = r' := by
  rcases Nat.lt_trichotomy r r' with z | z | z
  · have := k.2.2.2 r h.1 z; have := h.2.2.1; omega
  · exact z
  · have := h.2.2.2 r' k.1 z; have := k.2.2.1; omega
theorem IsPrev.no {f : Nat → Int} {p q : Nat} (h : IsPrev f p q) (k : NoPrev f p) : False := by have := k q h.1; have := h.2.1; omega
theorem IsNext.no {f : Nat → Int} {n p r : Nat} (h : IsNext f n p r) (k : NoNext f n p) : False := by have := k r h.1 h.2.1; have := h.2.2.1; omega
theorem ElderIs.unique {f : Nat → Int} {n p : Nat} {e e' : Int} (h : ElderIs f n p e) (k : ElderIs f n p e') : e = e' := by
  rcases h with ⟨h1, h2, h3⟩ | ⟨q, h1, h2, h3⟩ | ⟨r, h1, h2, h3⟩ | ⟨q, r, h1, h2, h3⟩ <;>
  rcases k with ⟨k1, k2, k3⟩ | ⟨q', k1, k2, k3⟩ | ⟨r', k1, k2, k3⟩ | ⟨q', r', k1, k2, k3⟩
  · rw [h3, k3]
  · exact (k1.no h1).elim
  · exact (k2.no h2).elim
  · exact (k1.no h1).elim
  · exact (h1.no k1).elim
  · rw [h3, k3, h1.unique k1]
  · exact (h1.no k1).elim
  · exact (k2.no h2).elim
  · exact (h2.no k2).elim
  · exact (k1.no h1).elim
  · rw [h3, k3, h2.unique k2]
  · exact (k1.no h1).elim
  · exact (h1.no k1).elim
  · exact (h2.no k2).elim
  · exact (h1.no k1).elim
  · rw [h3, k3, h1.unique k1, h2.unique k2]
def TreeIs (ns : List Int) (es : List Int) : Prop := es.length = ns.length ∧ ∀ p, p < ns.length → ElderIs (nth ns) ns.length p (es.getD p 0)
theorem TreeIs.unique {ns es es' : List Int} (h : TreeIs ns es) (k : TreeIs ns es') : es = es' := by
  refine List.ext_getElem (by rw [h.1, k.1]) fun j h1 h2 => ?_
  have hj : j < ns.length := by rw [← h.1]; exact h1
  have := (h.2 j hj).unique (k.2 j hj)
  simpa [List.getD_eq_getElem?_getD, h1, h2] using this

def GoodS (f : Nat → Int) (n : Nat) (a b e : Int) : Prop := 0 ≤ a ∧ a ≤ b + 1 ∧ b < n ∧ (∀ k : Nat, a = ((k + 1 : Nat) : Int) → ∀ q : Nat, a ≤ q → (q : Int) ≤ b → f k ≤ f q) ∧ (∀ k : Nat, b + 1 = (k : Int) → k < n → ∀ q : Nat, a ≤ q → (q : Int) ≤ b → f k < f q) ∧
  e = (if a = 0 then (if b + 1 = n then -1 else b + 1) else if b + 1 = n then a - 1 else if f (a - 1).toNat ≤ f (b + 1).toNat then b + 1 else a - 1)
theorem GoodS.elder {f : Nat → Int} {n : Nat} {a c : Nat} {e : Int} (h : GoodS f n a ((a + c : Nat) : Int) e) : ElderIs f n (lowF f a c) e := by
  obtain ⟨h0, h1, h2, h3, h4, h5⟩ := h
  obtain ⟨l1, l2, l3, l4⟩ := lowF_is f a c
  generalize lowF f a c = p at l1 l2 l3 l4
  have prevA : ∀ k, a = k + 1 → IsPrev f p k := fun k hk => ⟨by omega, h3 k (by omega) p (by omega) (by omega), fun r r1 r2 => l3 r (by omega) r2⟩
  have prev0 : a = 0 → NoPrev f p := fun z q hq => l3 q (by omega) hq
  have nextB : a + c + 1 < n → IsNext f n p (a + c + 1) := fun z => ⟨by omega, z, h4 (a + c + 1) (by omega) z p (by omega) (by omega), fun s s1 s2 => l4 s s1 (by omega)⟩
  have next0 : a + c + 1 = n → NoNext f n p := fun z r r1 r2 => l4 r r1 (by omega)
  by_cases za : a = 0
  · by_cases zb : a + c + 1 = n
    · refine .inl ⟨prev0 za, next0 zb, ?_⟩
      rw [h5, if_pos (by omega), if_pos (by omega)]
    · refine .inr (.inr (.inl ⟨a + c + 1, prev0 za, nextB (by omega), ?_⟩))
      rw [h5, if_pos (by omega), if_neg (by omega)]; omega
  · obtain ⟨k, hk⟩ : ∃ k, a = k + 1 := ⟨a - 1, by omega⟩
    by_cases zb : a + c + 1 = n
    · refine .inr (.inl ⟨k, prevA k hk, next0 zb, ?_⟩)
      rw [h5, if_neg (by omega), if_pos (by omega)]; omega
    · refine .inr (.inr (.inr ⟨k, a + c + 1, prevA k hk, nextB (by omega), ?_⟩))
      have e1 : ((a : Int) - 1).toNat = k := by omega
      have e2 : (((a + c : Nat) : Int) + 1).toNat = a + c + 1 := by omega
      rw [h5, if_neg (by omega), if_neg (by omega), e1, e2]
      split <;> omega
theorem GoodS.ahead {f : Nat → Int} {n : Nat} {a c : Nat} {e : Int} (h : GoodS f n a ((a + c : Nat) : Int) e) : GoodS f n a ((lowF f a c : Int) - 1) (lowF f a c) := by
  obtain ⟨h0, h1, h2, h3, h4, h5⟩ := h
  obtain ⟨l1, l2, l3, l4⟩ := lowF_is f a c
  generalize lowF f a c = p at l1 l2 l3 l4
  refine ⟨h0, by omega, by omega, fun k hk q q1 q2 => h3 k hk q q1 (by omega), fun k hk hkn q q1 q2 => ?_, ?_⟩
  · have : k = p := by omega
    subst this
    exact l3 q (by omega) (by omega)
  · by_cases za : a = 0
    · rw [if_pos (by omega), if_neg (by omega)]; omega
    · rw [if_neg (by omega), if_neg (by omega)]
      have e2 : ((p : Int) - 1 + 1).toNat = p := by omega
      have := h3 (a - 1) (by omega) p (by omega) (by omega)
      have e1 : ((a : Int) - 1).toNat = a - 1 := by omega
      rw [e1, e2, if_pos this]; omega
theorem GoodS.behind {f : Nat → Int} {n : Nat} {a c : Nat} {e : Int} (h : GoodS f n a ((a + c : Nat) : Int) e) : GoodS f n ((lowF f a c : Int) + 1) ((a + c : Nat) : Int) (lowF f a c) := by
  obtain ⟨h0, h1, h2, h3, h4, h5⟩ := h
  obtain ⟨l1, l2, l3, l4⟩ := lowF_is f a c
  generalize lowF f a c = p at l1 l2 l3 l4
  refine ⟨by omega, by omega, h2, fun k hk q q1 q2 => ?_, fun k hk hkn q q1 q2 => h4 k hk hkn q (by omega) q2, ?_⟩
  · have : k = p := by omega
    subst this
    exact l4 q (by omega) (by omega)
  · rw [if_neg (by omega)]
    by_cases zb : a + c + 1 = n
    · rw [if_pos (by omega)]; omega
    · rw [if_neg (by omega)]
      have e1 : ((p : Int) + 1 - 1).toNat = p := by omega
      have e2 : (((a + c : Nat) : Int) + 1).toNat = a + c + 1 := by omega
      have := h4 (a + c + 1) (by omega) (by omega) p (by omega) (by omega)
      rw [e1, e2, if_neg (by omega)]; omega

theorem elder_lists {f : Nat → Int} {n p : Nat} (hp : p < n) : ElderIs f n p
    (match ((List.range p).filter fun q => decide (f q ≤ f p)).getLast?, ((List.range (n - (p + 1))).filter fun j => decide (f (p + 1 + j) < f p)).head? with
      | none, none => -1
      | none, some j => ((p + 1 + j : Nat) : Int)
      | some q, none => q
      | some q, some j => if f q ≤ f (p + 1 + j) then ((p + 1 + j : Nat) : Int) else q) := by
  have hA : (((List.range p).filter fun q => decide (f q ≤ f p)).getLast? = none ∧ NoPrev f p) ∨ ∃ q, ((List.range p).filter fun q => decide (f q ≤ f p)).getLast? = some q ∧ IsPrev f p q := by
    induction p with
    | zero => exact .inl ⟨rfl, fun q hq => by omega⟩
    | succ p _ =>
      generalize p + 1 = P
      have key : ∀ m, m ≤ P → (((List.range m).filter fun q => decide (f q ≤ f P)).getLast? = none ∧ ∀ q, q < m → f P < f q) ∨ ∃ q, ((List.range m).filter fun q => decide (f q ≤ f P)).getLast? = some q ∧ q < m ∧ f q ≤ f P ∧ ∀ r, q < r → r < m → f P < f r := by
        intro m
        induction m with
        | zero => intro _; exact .inl ⟨rfl, fun q hq => by omega⟩
        | succ m ih =>
          intro hm
          rw [List.range_succ, List.filter_append]
          by_cases hle : f m ≤ f P
          · refine .inr ⟨m, ?_, by omega, hle, fun r r1 r2 => by omega⟩
            simp [hle]
          · have e : List.filter (fun q => decide (f q ≤ f P)) [m] = [] := by simp [hle]
            rw [e, List.append_nil]
            rcases ih (by omega) with ⟨i1, i2⟩ | ⟨q, i1, i2, i3, i4⟩
            · refine .inl ⟨i1, fun q hq => ?_⟩
              by_cases z : q = m
              · rw [z]; omega
              · exact i2 q (by omega)
            · refine .inr ⟨q, i1, by omega, i3, fun r r1 r2 => ?_⟩
              by_cases z : r = m
              · rw [z]; omega
              · exact i4 r r1 (by omega)
      rcases key P (Nat.le_refl _) with ⟨i1, i2⟩ | ⟨q, i1, i2, i3, i4⟩
      · exact .inl ⟨i1, i2⟩
      · exact .inr ⟨q, i1, i2, i3, i4⟩
  have hB : (((List.range (n - (p + 1))).filter fun j => decide (f (p + 1 + j) < f p)).head? = none ∧ NoNext f n p) ∨ ∃ j, ((List.range (n - (p + 1))).filter fun j => decide (f (p + 1 + j) < f p)).head? = some j ∧ IsNext f n p (p + 1 + j) := by
    have key : ∀ m, (((List.range m).filter fun j => decide (f (p + 1 + j) < f p)).head? = none ∧ ∀ j, j < m → f p ≤ f (p + 1 + j)) ∨ ∃ j, ((List.range m).filter fun j => decide (f (p + 1 + j) < f p)).head? = some j ∧ j < m ∧ f (p + 1 + j) < f p ∧ ∀ i, i < j → f p ≤ f (p + 1 + i) := by
      intro m
      induction m with
      | zero => exact .inl ⟨rfl, fun q hq => by omega⟩
      | succ m ih =>
        rw [List.range_succ, List.filter_append]
        rcases ih with ⟨i1, i2⟩ | ⟨j, i1, i2, i3, i4⟩
        · have e0 : List.filter (fun j => decide (f (p + 1 + j) < f p)) (List.range m) = [] := List.head?_eq_none_iff.mp i1
          rw [e0, List.nil_append]
          by_cases hlt : f (p + 1 + m) < f p
          · refine .inr ⟨m, by simp [hlt], by omega, hlt, fun i hi => i2 i hi⟩
          · refine .inl ⟨by simp [hlt], fun j hj => ?_⟩
            by_cases z : j = m
            · rw [z]; omega
            · exact i2 j (by omega)
        · refine .inr ⟨j, ?_, by omega, i3, i4⟩
          rw [List.head?_append, i1]; rfl
    rcases key (n - (p + 1)) with ⟨i1, i2⟩ | ⟨j, i1, i2, i3, i4⟩
    · refine .inl ⟨i1, fun r r1 r2 => ?_⟩
      have := i2 (r - (p + 1)) (by omega)
      have e : p + 1 + (r - (p + 1)) = r := by omega
      rw [e] at this; exact this
    · refine .inr ⟨j, i1, by omega, by omega, i3, fun s s1 s2 => ?_⟩
      have := i4 (s - (p + 1)) (by omega)
      have e : p + 1 + (s - (p + 1)) = s := by omega
      rw [e] at this; exact this
  rcases hA with ⟨a1, a2⟩ | ⟨q, a1, a2⟩ <;> rcases hB with ⟨b1, b2⟩ | ⟨j, b1, b2⟩ <;> rw [a1, b1]
  · exact .inl ⟨a2, b2, rfl⟩
  · exact .inr (.inr (.inl ⟨_, a2, b2, rfl⟩))
  · exact .inr (.inl ⟨_, a2, b2, rfl⟩)
  · exact .inr (.inr (.inr ⟨_, _, a2, b2, rfl⟩))

def StackAt (H : Hp) (l : Addr) (st : List (Int × Int × Int)) : Prop := ∃ qs : List Addr, H l = some (.lst (qs.map V.ref)) ∧ qs.length = st.length ∧ ∀ (j : Nat) (q : Addr) (x : Int × Int × Int), qs[j]? = some q → st[j]? = some x → H q = some (.tup [.int x.1, .int x.2.1, .int x.2.2])
theorem StackAt.same {H H' : Hp} {l : Addr} {st : List (Int × Int × Int)} (S : StackAt H l st) (s : Same H H') : StackAt H' l st := by
  obtain ⟨qs, h1, h2, h3⟩ := S
  exact ⟨qs, s _ _ h1, h2, fun j q x a b => s _ _ (h3 j q x a b)⟩
theorem StackAt.other {H : Hp} {l e : Addr} {st : List (Int × Int × Int)} {zs : List V} {o : HO} (S : StackAt H l st) (hne : e ≠ l) (he : H e = some (.lst zs)) : StackAt (upd H e o) l st := by
  obtain ⟨qs, h1, h2, h3⟩ := S
  refine ⟨qs, by rw [upd_ne hne.symm]; exact h1, h2, fun j q x a b => ?_⟩
  have h := h3 j q x a b
  rw [upd_ne]
  · exact h
  · intro z; subst z; rw [he] at h; cases h
theorem StackAt.push {H : Hp} {l q : Addr} {st : List (Int × Int × Int)} {x : Int × Int × Int} (S : StackAt H l st) (hq : H q = some (.tup [.int x.1, .int x.2.1, .int x.2.2])) : ∃ xs : List V, H l = some (.lst xs) ∧ xs.length = st.length ∧ StackAt (upd H l (.lst (xs ++ [V.ref q]))) l (st ++ [x]) := by
  obtain ⟨qs, h1, h2, h3⟩ := S
  have ql : q ≠ l := fun z => by rw [z, h1] at hq; cases hq
  refine ⟨_, h1, by simp [h2], qs ++ [q], by rw [upd_same]; simp, by simp [h2], fun j p y a b => ?_⟩
  by_cases hj : j < qs.length
  · rw [List.getElem?_append_left hj] at a
    rw [List.getElem?_append_left (by omega)] at b
    have h := h3 j p y a b
    rw [upd_ne]
    · exact h
    · intro z; rw [z, h1] at h; cases h
  · have hjl := (List.getElem?_eq_some_iff.mp a).1
    have e : j = qs.length := by simp at hjl; omega
    subst e
    rw [List.getElem?_append_right (Nat.le_refl _)] at a
    rw [h2, List.getElem?_append_right (Nat.le_refl _)] at b
    simp at a b
    rw [← a, ← b, upd_ne ql]; exact hq
theorem while_m {c : TT} {tb : TS} {D : Ends} {σ : St} {H : Hp} (Pv : Nat → St → Hp → Prop) (m0 : Nat) (h0 : Pv m0 σ H)
    (hs : ∀ m σ H, Pv m σ H → c σ H fun b H1 => if b = true then ∃ Nx : St → Hp → Prop, (∀ σ' H', Nx σ' H' → ∃ m', m' < m ∧ Pv m' σ' H') ∧ tb { D with nx := Nx, ct := Nx, bk := D.nx } σ H1 else D.nx σ H1) : WhileR c tb D σ H := ⟨Pv, ⟨m0, h0⟩, hs⟩
end L2


set_option Elab.async false
set_option linter.all false
set_option maxRecDepth 100000
set_option maxHeartbeats 1000000
namespace L2


def Over (f : Nat → Int) (o p : Nat) : Prop := (o < p ∧ ∀ r, o < r → r ≤ p → f o ≤ f r) ∨ (p < o ∧ ∀ r, p ≤ r → r < o → f o < f r)
theorem Over.irrefl {f : Nat → Int} {p : Nat} : ¬ Over f p p := by rintro (⟨h, _⟩ | ⟨h, _⟩) <;> omega
theorem Over.ne {f : Nat → Int} {o p : Nat} (h : Over f o p) : o ≠ p := fun z => Over.irrefl (z ▸ h)
theorem Over.trans {f : Nat → Int} {o e p : Nat} (h : Over f o e) (k : Over f e p) : Over f o p := by
  rcases h with ⟨h1, h2⟩ | ⟨h1, h2⟩ <;> rcases k with ⟨k1, k2⟩ | ⟨k1, k2⟩
  · refine .inl ⟨by omega, fun r r1 r2 => ?_⟩
    by_cases z : r ≤ e
    · exact h2 r r1 z
    · have := k2 r (by omega) r2; have := h2 e h1 (Nat.le_refl _); omega
  · have he := h2 e h1 (Nat.le_refl _)
    rcases Nat.lt_trichotomy o p with z | z | z
    · exact .inl ⟨z, fun r r1 r2 => h2 r r1 (by omega)⟩
    · have := k2 p (Nat.le_refl _) k1; subst z; omega
    · exact .inr ⟨z, fun r r1 r2 => by have := k2 r r1 (by omega); omega⟩
  · have he := h2 e (Nat.le_refl _) h1
    rcases Nat.lt_trichotomy o p with z | z | z
    · exact .inl ⟨z, fun r r1 r2 => by have := k2 r (by omega) r2; omega⟩
    · have := k2 p k1 (Nat.le_refl _); subst z; omega
    · exact .inr ⟨z, fun r r1 r2 => h2 r (by omega) r2⟩
  · refine .inr ⟨by omega, fun r r1 r2 => ?_⟩
    by_cases z : r < e
    · have := k2 r r1 z; have := h2 e (Nat.le_refl _) h1; omega
    · exact h2 r (by omega) r2
theorem elder_over {f : Nat → Int} {n p : Nat} {e : Int} (hp : p < n) (h : ElderIs f n p e) : e = -1 ∨ ∃ q : Nat, e = q ∧ q < n ∧ Over f q p := by
  have pv : ∀ q, IsPrev f p q → Over f q p := fun q h => .inl ⟨h.1, fun r r1 r2 => by
    by_cases z : r = p
    · rw [z]; exact h.2.1
    · have := h.2.2 r r1 (by omega); have := h.2.1; omega⟩
  have nx : ∀ q, IsNext f n p q → Over f q p := fun q h => .inr ⟨h.1, fun r r1 r2 => by
    by_cases z : r = p
    · rw [z]; exact h.2.2.1
    · have := h.2.2.2 r (by omega) r2; have := h.2.2.1; omega⟩
  rcases h with ⟨_, _, h⟩ | ⟨q, h1, _, h⟩ | ⟨r, _, h1, h⟩ | ⟨q, r, h1, h2, h⟩
  · exact .inl h
  · exact .inr ⟨q, h, by have := h1.1; omega, pv q h1⟩
  · exact .inr ⟨r, h, h1.2.1, nx r h1⟩
  · by_cases z : f q ≤ f r
    · rw [if_pos z] at h; exact .inr ⟨r, h, h2.2.1, nx r h2⟩
    · rw [if_neg z] at h; exact .inr ⟨q, h, by have := h1.1; omega, pv q h1⟩
theorem over_step {f : Nat → Int} {n p o : Nat} {e : Int} (hp : p < n) (ho : o < n) (h : ElderIs f n p e) (hO : Over f o p) : ∃ q : Nat, e = q ∧ q < n ∧ (o = q ∨ Over f o q) := by
  rcases hO with ⟨o1, o2⟩ | ⟨o1, o2⟩
  · have op := o2 p o1 (Nat.le_refl _)
    have pv : ∀ q, IsPrev f p q → o = q ∨ (o < q ∧ Over f o q ∧ f o ≤ f q) := fun q h => by
      rcases Nat.lt_trichotomy o q with z | z | z
      · have := h.1; exact .inr ⟨z, .inl ⟨z, fun r r1 r2 => o2 r r1 (by omega)⟩, o2 q z (by omega)⟩
      · exact .inl z
      · have := h.2.2 o z o1; omega
    rcases h with ⟨h1, _, h⟩ | ⟨q, h1, _, h⟩ | ⟨r, h1, _, h⟩ | ⟨q, r, h1, h2, h⟩
    · have := h1 o o1; omega
    · refine ⟨q, h, by have := h1.1; omega, ?_⟩
      rcases pv q h1 with z | z
      · exact .inl z
      · exact .inr z.2.1
    · have := h1 o o1; omega
    · by_cases z : f q ≤ f r
      · rw [if_pos z] at h
        refine ⟨r, h, h2.2.1, .inr (.inl ⟨by have := h2.1; omega, fun s s1 s2 => ?_⟩)⟩
        by_cases sp : s ≤ p
        · exact o2 s s1 sp
        · by_cases sr : s = r
          · rw [sr]
            rcases pv q h1 with y | y
            · rw [y]; exact z
            · have := y.2.2; omega
          · have := h2.2.2.2 s (by omega) (by omega); omega
      · rw [if_neg z] at h
        refine ⟨q, h, by have := h1.1; omega, ?_⟩
        rcases pv q h1 with z | z
        · exact .inl z
        · exact .inr z.2.1
  · have op := o2 p (Nat.le_refl _) o1
    have nx : ∀ r, IsNext f n p r → o = r ∨ (r < o ∧ Over f o r ∧ f o < f r) := fun r h => by
      rcases Nat.lt_trichotomy o r with z | z | z
      · have := h.2.2.2 o o1 z; omega
      · exact .inl z
      · have := h.1; exact .inr ⟨z, .inr ⟨z, fun s s1 s2 => o2 s (by omega) s2⟩, o2 r (by omega) z⟩
    rcases h with ⟨_, h1, h⟩ | ⟨q, _, h1, h⟩ | ⟨r, _, h1, h⟩ | ⟨q, r, h1, h2, h⟩
    · have := h1 o o1 ho; omega
    · have := h1 o o1 ho; omega
    · refine ⟨r, h, h1.2.1, ?_⟩
      rcases nx r h1 with z | z
      · exact .inl z
      · exact .inr z.2.1
    · by_cases z : f q ≤ f r
      · rw [if_pos z] at h
        refine ⟨r, h, h2.2.1, ?_⟩
        rcases nx r h2 with z | z
        · exact .inl z
        · exact .inr z.2.1
      · rw [if_neg z] at h
        refine ⟨q, h, by have := h1.1; omega, .inr (.inr ⟨by have := h1.1; omega, fun s s1 s2 => ?_⟩)⟩
        by_cases sp : p ≤ s
        · exact o2 s sp s2
        · by_cases sq : s = q
          · rw [sq]
            rcases nx r h2 with y | y
            · rw [y]; omega
            · have := y.2.2; omega
          · have := h1.2.2 s (by omega) (by omega); omega
theorem over_iff {f : Nat → Int} {n p o q : Nat} (hp : p < n) (ho : o < n) (h : ElderIs f n p (q : Int)) : Over f o p ↔ o = q ∨ Over f o q := by
  refine ⟨fun k => ?_, fun k => ?_⟩
  · obtain ⟨q', e, _, z⟩ := over_step hp ho h k
    have : q' = q := by omega
    rw [this] at z; exact z
  · rcases elder_over hp h with z | ⟨q', e, _, z⟩
    · omega
    · have : q' = q := by omega
      rw [this] at z
      rcases k with k | k
      · rw [k]; exact z
      · exact k.trans z
theorem over_none {f : Nat → Int} {n p o : Nat} (hp : p < n) (ho : o < n) (h : ElderIs f n p (-1)) : ¬ Over f o p := fun k => by
  obtain ⟨q', e, _, z⟩ := over_step hp ho h k
  omega


theorem count_same {P Q : Nat → Bool} : ∀ n, (∀ o, o < n → P o = Q o) → (List.range n).countP P = (List.range n).countP Q
  | 0, _ => rfl
  | n + 1, h => by
    rw [List.range_succ, List.countP_append, List.countP_append, count_same n (fun o ho => h o (by omega))]
    simp [List.countP_cons, h n (by omega)]
theorem count_step {P Q : Nat → Bool} {e : Nat} : ∀ n, e < n → (∀ o, o < n → (P o = true ↔ o = e ∨ Q o = true)) → Q e = false → (List.range n).countP P = (List.range n).countP Q + 1
  | 0, h, _, _ => by omega
  | n + 1, h, hi, hq => by
    rw [List.range_succ, List.countP_append, List.countP_append]
    by_cases z : e = n
    · have e1 : (List.range n).countP P = (List.range n).countP Q := count_same n fun o ho => by
        have := hi o (by omega)
        cases hP : P o <;> cases hQ : Q o <;> simp [hP, hQ] at this <;> first | rfl | omega
      have hPn : P n = true := (hi n (by omega)).mpr (.inl z.symm)
      rw [z] at hq
      rw [e1]; simp [List.countP_cons, hPn, hq]
    · rw [count_step n (by omega) (fun o ho => hi o (by omega)) hq]
      have := hi n (by omega)
      have hn : P n = Q n := by
        cases hP : P n <;> cases hQ : Q n <;> simp [hP, hQ] at this <;> first | rfl | omega
      simp [List.countP_cons, hn]; omega
theorem count_lt {P : Nat → Bool} {e n : Nat} (he : e < n) (h : P e = false) : (List.range n).countP P < n := by
  have h1 := count_step (P := fun o => decide (o = e) || P o) (Q := P) n he (fun o _ => by simp) h
  have h2 := List.countP_le_length (p := fun o => decide (o = e) || P o) (l := List.range n)
  rw [h1, List.length_range] at h2
  omega


def wayF (T : List Int) : Nat → Int → List Nat
  | 0, _ => []
  | k + 1, at_ => if 0 ≤ at_ ∧ at_ < T.length then at_.toNat :: wayF T k (nth T at_.toNat) else []
open Classical in
noncomputable def dep (f : Nat → Int) (n p : Nat) : Nat := (List.range n).countP fun o => decide (Over f o p)
theorem dep_lt {f : Nat → Int} {n p : Nat} (hp : p < n) : dep f n p < n := by
  classical
  exact count_lt hp (by simpa using Over.irrefl)
theorem dep_elder {f : Nat → Int} {n p q : Nat} (hp : p < n) (h : ElderIs f n p (q : Int)) : dep f n p = dep f n q + 1 := by
  classical
  have hq : q < n := by
    rcases elder_over hp h with z | ⟨q', e, z, _⟩ <;> omega
  exact count_step n hq (fun o ho => by simpa using over_iff hp ho h) (by simpa using Over.irrefl)
theorem dep_top {f : Nat → Int} {n p : Nat} (hp : p < n) (h : ElderIs f n p (-1)) : dep f n p = 0 := by
  classical
  unfold dep
  rw [List.countP_eq_zero]
  intro o ho
  simpa using over_none hp (by simpa using ho) h
theorem count_mono {P Q : Nat → Bool} : ∀ n, (∀ o, o < n → P o = true → Q o = true) → (List.range n).countP P ≤ (List.range n).countP Q
  | 0, _ => Nat.le_refl _
  | n + 1, h => by
    rw [List.range_succ, List.countP_append, List.countP_append]
    have := count_mono n (fun o ho => h o (by omega))
    have hn := h n (by omega)
    cases hP : P n <;> cases hQ : Q n <;> simp [List.countP_cons, hP, hQ] at hn ⊢ <;> omega
theorem dep_over {f : Nat → Int} {n p q : Nat} (hp : p < n) (hq : q < n) (h : Over f q p) : dep f n q < dep f n p := by
  classical
  have h1 := count_step (P := fun o => decide (o = q) || decide (Over f o q)) (Q := fun o => decide (Over f o q)) (e := q) n hq (fun o _ => by simp) (by simpa using Over.irrefl)
  have h2 := count_mono (P := fun o => decide (o = q) || decide (Over f o q)) (Q := fun o => decide (Over f o p)) n (fun o _ ho => by
    simp at ho ⊢
    rcases ho with z | z
    · rw [z]; exact h
    · exact z.trans h)
  rw [h1] at h2
  exact h2
theorem way_tree {ns T : List Int} (hT : TreeIs ns T) : ∀ k p, p < ns.length → dep (nth ns) ns.length p ≤ k → (∀ o, o ∈ wayF T k (nth T p) ↔ o < ns.length ∧ Over (nth ns) o p) ∧ (wayF T k (nth T p)).length = dep (nth ns) ns.length p
  | k, p, hp, hk => by
    have hE : ElderIs (nth ns) ns.length p (nth T p) := hT.2 p hp
    rcases elder_over hp hE with z | ⟨q, e, hq, hO⟩
    · have e0 : wayF T k (nth T p) = [] := by
        cases k with
        | zero => rfl
        | succ k => rw [wayF, if_neg (by omega)]
      rw [e0]
      rw [z] at hE
      exact ⟨fun o => ⟨fun h => by simp at h, fun h => absurd h.2 (over_none hp h.1 hE)⟩, by rw [dep_top hp hE]; rfl⟩
    · rw [e] at hE
      have hd := dep_elder hp hE
      obtain ⟨k', rfl⟩ : ∃ k', k = k' + 1 := ⟨k - 1, by omega⟩
      have ih := way_tree hT k' q hq (by omega)
      have eT : ((q : Nat) : Int).toNat = q := by omega
      rw [wayF, e, if_pos ⟨by omega, by rw [hT.1]; omega⟩, eT]
      refine ⟨fun o => ?_, by simp [ih.2, hd]⟩
      rw [List.mem_cons, ih.1 o]
      refine ⟨fun h => ?_, fun h => ?_⟩
      · rcases h with h | h
        · rw [h]; exact ⟨hq, hO⟩
        · exact ⟨h.1, h.2.trans hO⟩
      · rcases (over_iff hp h.1 hE).mp h.2 with z | z
        · exact .inl z
        · exact .inr ⟨h.1, z⟩
def deps (T : List Int) : List Int := (List.range T.length).map fun p => ((wayF T T.length (nth T p)).length : Int)
theorem deps_len (T : List Int) : (deps T).length = T.length := by simp [deps]
theorem deps_nth {T : List Int} {p : Nat} (h : p < T.length) : nth (deps T) p = (wayF T T.length (nth T p)).length := by
  simp [nth, deps, List.getD_eq_getElem?_getD, h]
theorem deps_tree {ns T : List Int} (hT : TreeIs ns T) : TreeIs (deps T) T := by
  have eL : T.length = ns.length := hT.1
  have hd : ∀ p, p < ns.length → nth (deps T) p = (dep (nth ns) ns.length p : Int) := fun p hp => by
    rw [deps_nth (by omega), eL, (way_tree hT ns.length p hp (Nat.le_of_lt (dep_lt hp))).2]
  refine ⟨(deps_len T).symm, fun p hp => ?_⟩
  rw [deps_len, eL] at hp ⊢
  have lt : ∀ q p, q < ns.length → p < ns.length → Over (nth ns) q p → nth (deps T) q < nth (deps T) p := fun q p hq hp h => by
    rw [hd q hq, hd p hp]
    have := dep_over hp hq h; omega
  generalize nth (deps T) = g at lt
  clear hd
  have pv : ∀ q, IsPrev (nth ns) p q → IsPrev g p q := fun q h => by
    refine ⟨h.1, Int.le_of_lt (lt q p (by have := h.1; omega) hp (.inl ⟨h.1, fun r r1 r2 => ?_⟩)), fun r r1 r2 => lt p r hp (by omega) (.inr ⟨r2, fun s s1 s2 => h.2.2 s (by omega) s2⟩)⟩
    by_cases z : r = p
    · rw [z]; exact h.2.1
    · have := h.2.2 r r1 (by omega); have := h.2.1; omega
  have nx : ∀ r, IsNext (nth ns) ns.length p r → IsNext g ns.length p r := fun q h => by
    refine ⟨h.1, h.2.1, lt q p h.2.1 hp (.inr ⟨h.1, fun r r1 r2 => ?_⟩), fun s s1 s2 => Int.le_of_lt (lt p s hp (by have := h.2.1; omega) (.inl ⟨s1, fun r r1 r2 => h.2.2.2 r r1 (by omega)⟩))⟩
    by_cases z : r = p
    · rw [z]; exact h.2.2.1
    · have := h.2.2.2 r (by omega) r2; have := h.2.2.1; omega
  have np : NoPrev (nth ns) p → NoPrev g p := fun h q hq => lt p q hp (by omega) (.inr ⟨hq, fun r r1 r2 => h r r2⟩)
  have nn : NoNext (nth ns) ns.length p → NoNext g ns.length p := fun h r r1 r2 => Int.le_of_lt (lt p r hp r2 (.inl ⟨r1, fun s s1 s2 => h s s1 (by omega)⟩))
  have hE : ElderIs (nth ns) ns.length p (T.getD p 0) := hT.2 p hp
  rcases hE with ⟨h1, h2, h⟩ | ⟨q, h1, h2, h⟩ | ⟨r, h1, h2, h⟩ | ⟨q, r, h1, h2, h⟩
  · exact .inl ⟨np h1, nn h2, h⟩
  · exact .inr (.inl ⟨q, pv q h1, nn h2, h⟩)
  · exact .inr (.inr (.inl ⟨r, np h1, nx r h2, h⟩))
  · refine .inr (.inr (.inr ⟨q, r, pv q h1, nx r h2, ?_⟩))
    rw [h]
    have hq : q < ns.length := by have := h1.1; omega
    by_cases z : nth ns q ≤ nth ns r
    · have := lt q r hq h2.2.1 (.inl ⟨by have := h1.1; have := h2.1; omega, fun s s1 s2 => by
        by_cases y : s = r
        · rw [y]; exact z
        · by_cases y2 : s = p
          · rw [y2]; exact h1.2.1
          · have := h1.2.1
            by_cases y3 : s < p
            · have := h1.2.2 s s1 y3; omega
            · have := h2.2.2.2 s (by omega) (by omega); omega⟩)
      rw [if_pos z, if_pos (by omega)]
    · have := lt r q h2.2.1 hq (.inr ⟨by have := h1.1; have := h2.1; omega, fun s s1 s2 => by
        have := h1.2.1; have := h2.2.2.1
        by_cases y : s = q
        · rw [y]; omega
        · by_cases y2 : s = p
          · rw [y2]; omega
          · by_cases y3 : s < p
            · have := h1.2.2 s (by omega) y3; omega
            · have := h2.2.2.2 s (by omega) (by omega); omega⟩)
      rw [if_neg z, if_neg (by omega)]


inductive StT (T : Nat → Int) : Int → Int → Int → Prop
  | nil {a b e : Int} : b < a → StT T a b e
  | node {a b e : Int} (h : Nat) : a ≤ h → (h : Int) ≤ b → T h = e → (∀ q : Nat, a ≤ q → (q : Int) ≤ b → T q = e → q = h) → StT T a ((h : Int) - 1) h → StT T ((h : Int) + 1) b h → StT T a b e
theorem GoodS.out {f : Nat → Int} {n : Nat} {a b e : Int} (h : GoodS f n a b e) : e < a ∨ b < e := by
  obtain ⟨h0, h1, h2, h3, h4, h5⟩ := h
  rw [h5]
  split
  · split <;> omega
  · split
    · omega
    · split <;> omega
inductive StG (T g : Nat → Int) : Int → Int → Int → Int → Prop
  | nil {a b e m : Int} : b < a → StG T g a b e m
  | node {a b e m : Int} (h : Nat) : a ≤ h → (h : Int) ≤ b → T h = e → g h = m → StG T g a ((h : Int) - 1) h (m + 1) → StG T g ((h : Int) + 1) b h (m + 1) → StG T g a b e m
theorem StG.congr {T g g' : Nat → Int} {a b e m : Int} (S : StG T g a b e m) : (∀ q : Nat, a ≤ q → (q : Int) ≤ b → g q = g' q) → StG T g' a b e m := by
  induction S with
  | nil z => intro _; exact .nil z
  | node h h1 h2 h3 h4 _ _ ih1 ih2 =>
    intro k
    exact .node h h1 h2 h3 (by rw [← k h h1 h2]; exact h4) (ih1 fun q q1 q2 => k q q1 (by omega)) (ih2 fun q q1 q2 => k q (by omega) q2)
theorem StT.row {T : Nat → Int} {a b e : Int} (S : StT T a b e) : ∀ m, ∃ g, StG T g a b e m := by
  induction S with
  | nil z => intro m; exact ⟨fun _ => 0, .nil z⟩
  | node h h1 h2 h3 h4 _ _ ih1 ih2 =>
    intro m
    obtain ⟨g1, k1⟩ := ih1 (m + 1)
    obtain ⟨g2, k2⟩ := ih2 (m + 1)
    refine ⟨fun q => if q < h then g1 q else if q = h then m else g2 q, .node h h1 h2 h3 ?_ (k1.congr fun q q1 q2 => ?_) (k2.congr fun q q1 q2 => ?_)⟩
    · show (if h < h then g1 h else if h = h then m else g2 h) = m
      rw [if_neg (by omega), if_pos rfl]
    · show g1 q = if q < h then g1 q else if q = h then m else g2 q
      rw [if_pos (by omega)]
    · show g2 q = if q < h then g1 q else if q = h then m else g2 q
      rw [if_neg (by omega), if_neg (by omega)]
theorem StG.ge {T g : Nat → Int} {a b e m : Int} (S : StG T g a b e m) : ∀ q : Nat, a ≤ q → (q : Int) ≤ b → m ≤ g q := by
  induction S with
  | nil z => intro q h1 h2; omega
  | node h h1 h2 h3 h4 _ _ ih1 ih2 =>
    intro q q1 q2
    rcases Nat.lt_trichotomy q h with y | y | y
    · have := ih1 q q1 (by omega); omega
    · rw [y]; omega
    · have := ih2 q (by omega) q2; omega
theorem StG.elder {T g : Nat → Int} {n : Nat} {a b e m : Int} (S : StG T g a b e m) : 0 ≤ a → a ≤ b + 1 → b < n → (∀ k : Nat, a = ((k + 1 : Nat) : Int) → g k < m) → (∀ k : Nat, b + 1 = (k : Int) → k < n → g k < m) →
    e = (if a = 0 then (if b + 1 = n then -1 else b + 1) else if b + 1 = n then a - 1 else if g (a - 1).toNat ≤ g (b + 1).toNat then b + 1 else a - 1) → ∀ p : Nat, a ≤ p → (p : Int) ≤ b → ElderIs g n p (T p) := by
  induction S with
  | nil z => intro _ _ _ _ _ _ p h1 h2; omega
  | @node a b e m h h1 h2 h3 h4 s1 s2 ih1 ih2 =>
    intro c0 c1 c2 c3 c4 c5 p p1 p2
    obtain ⟨a0, rfl⟩ : ∃ a0 : Nat, a = a0 := ⟨a.toNat, by omega⟩
    obtain ⟨c, rfl⟩ : ∃ c : Nat, b = ((a0 + c : Nat) : Int) := ⟨(b - a0).toNat, by omega⟩
    have hge := (StG.node h h1 h2 h3 h4 s1 s2).ge
    have g1 := s1.ge
    have g2 := s2.ge
    have hG : GoodS g n a0 ((a0 + c : Nat) : Int) e := ⟨c0, c1, c2, fun k hk q q1 q2 => by have := c3 k hk; have := hge q q1 q2; omega, fun k hk hkn q q1 q2 => by have := c4 k hk hkn; have := hge q q1 q2; omega, c5⟩
    have hlow : lowF g a0 c = h := by
      have : IsLow g a0 (a0 + c) h := ⟨by omega, by omega, fun r r1 r2 => by have := g1 r (by omega) (by omega); omega, fun r r1 r2 => by have := g2 r (by omega) (by omega); omega⟩
      exact (lowF_is g a0 c).unique this
    rcases Nat.lt_trichotomy p h with y | y | y
    · refine ih1 (by omega) (by omega) (by omega) (fun k hk => by have := c3 k hk; omega) (fun k hk hkn => ?_) ?_ p p1 (by omega)
      · have : k = h := by omega
        rw [this]; omega
      · by_cases z : (a0 : Int) = 0
        · rw [if_pos z, if_neg (by omega)]; omega
        · rw [if_neg z, if_neg (by omega), if_pos ?_]
          · omega
          · have e1 : (((h : Int) - 1 + 1)).toNat = h := by omega
            have := c3 ((a0 : Int) - 1).toNat (by omega)
            rw [e1]; omega
    · rw [y, h3, ← hlow]; exact hG.elder
    · refine ih2 (by omega) (by omega) (by omega) (fun k hk => ?_) (fun k hk hkn => by have := c4 k hk hkn; omega) ?_ p (by omega) p2
      · have : k = h := by omega
        rw [this]; omega
      · rw [if_neg (by omega)]
        by_cases z : ((a0 + c : Nat) : Int) + 1 = n
        · rw [if_pos z]; omega
        · rw [if_neg z, if_neg ?_]
          · omega
          · have e1 : (((h : Int) + 1 - 1)).toNat = h := by omega
            have := c4 (((a0 + c : Nat) : Int) + 1).toNat (by omega) (by omega)
            rw [e1]; omega
theorem tree_deps (T : List Int) : (∃ ns, TreeIs ns T) ↔ TreeIs (deps T) T := ⟨fun ⟨_, h⟩ => deps_tree h, fun h => ⟨_, h⟩⟩
end L2


set_option Elab.async false
set_option linter.all false
set_option maxRecDepth 100000
set_option maxHeartbeats 1000000
namespace L2
open PySem PySem.Spec PyProof.Rows PySem.W
def setE (es : List Int) (A B : List Nat) (i : Nat) : List Int := match A.getLast? with
  | some q => (match B.head? with | some b => es.set b i | none => es).set i (q : Int)
  | none => match B.head? with | some b => es.set b i | none => es
def natsV (l : List Nat) : List V := l.map fun q => V.int (q : Nat)
theorem getD_set (l : List Int) (a p : Nat) (v : Int) (h : p < l.length) : (l.set a v).getD p 0 = if a = p then v else l.getD p 0 := by
  rw [List.getD_eq_getElem?_getD, List.getD_eq_getElem?_getD]
  by_cases e : a = p
  · subst e; rw [if_pos rfl, List.getElem?_set_self h]; rfl
  · rw [if_neg e, List.getElem?_set_ne e]
theorem setE_len (es : List Int) (A B : List Nat) (i : Nat) : (setE es A B i).length = es.length := by
  unfold setE
  cases A.getLast? <;> cases B.head? <;> simp
theorem setE_at (es : List Int) (A B : List Nat) (i p : Nat) (hp : p < es.length) (hb : ∀ b, B.head? = some b → b ≠ i) : (setE es A B i).getD p 0 = if p = i then (match A.getLast? with | some q => (q : Int) | none => es.getD i 0) else if B.head? = some p then (i : Int) else es.getD p 0 := by
  unfold setE
  cases hA : A.getLast? with
  | none =>
    cases hB : B.head? with
    | none =>
      by_cases e : p = i
      · rw [if_pos e, e]
      · rw [if_neg e, if_neg (by simp)]
    | some b =>
      show (es.set b i).getD p 0 = _
      rw [getD_set _ _ _ _ hp]
      by_cases e : p = i
      · rw [if_pos e, if_neg (by rw [e]; exact hb b hB), e]
      · rw [if_neg e]
        by_cases e2 : b = p
        · rw [if_pos e2, if_pos (by rw [e2])]
        · rw [if_neg e2, if_neg (by intro z; exact e2 (Option.some.inj z))]
  | some q =>
    cases hB : B.head? with
    | none =>
      show (es.set i q).getD p 0 = _
      rw [getD_set _ _ _ _ hp]
      by_cases e : p = i
      · rw [if_pos e, if_pos e.symm]
      · rw [if_neg e, if_neg (fun z => e z.symm), if_neg (by simp)]
    | some b =>
      show ((es.set b i).set i q).getD p 0 = _
      rw [getD_set _ _ _ _ (by simpa using hp), getD_set _ _ _ _ hp]
      by_cases e : p = i
      · rw [if_pos e, if_pos e.symm]
      · rw [if_neg e, if_neg (fun z => e z.symm)]
        by_cases e2 : b = p
        · rw [if_pos e2, if_pos (by rw [e2])]
        · rw [if_neg e2, if_neg (by intro z; exact e2 (Option.some.inj z))]
theorem pw_len : ∀ (l : List Nat) (i lo : Nat), l.Pairwise (· < ·) → (∀ q ∈ l, lo ≤ q ∧ q < i) → l.length + lo ≤ i ∨ l = []
  | [], _, _, _, _ => .inr rfl
  | q :: r, i, lo, h, hq => by
    have h1 := hq q (by simp)
    have hr := List.pairwise_cons.mp h
    rcases pw_len r i (q + 1) hr.2 (fun x hx => ⟨hr.1 x hx, (hq x (by simp [hx])).2⟩) with z | z
    · left; simp; omega
    · left; rw [z]; simp; omega
theorem natsV_len (l : List Nat) : (natsV l).length = l.length := by simp [natsV]
theorem natsV_app (a b : List Nat) : natsV (a ++ b) = natsV a ++ natsV b := by simp [natsV]
theorem natsV_at {l : List Nat} {j q : Nat} (h : l[j]? = some q) : atI (natsV l) (j : Int) = some (V.int (q : Nat)) := by
  have hj := (List.getElem?_eq_some_iff.mp h).1
  have e := (List.getElem?_eq_some_iff.mp h).2
  rw [atI_at rfl (by rw [natsV_len]; exact hj)]
  simp [natsV, e]
theorem ixN_nat {n j : Nat} (h : j < n) : ixN n (j : Int) = some j := by
  unfold ixN
  rw [if_pos (by omega), if_pos (by omega)]; simp
end L2


set_option Elab.async false
set_option linter.all false
set_option maxRecDepth 100000
set_option maxHeartbeats 1000000
namespace L2
open PySem PySem.Spec PyProof.Rows PySem.W
section
variable {X : Cx}

def tRngV2 (ta : TA) : TE := fun σ H Q => ta σ H fun vs H1 => ∃ i j : Int, vs = [.int i, .int j] ∧ -(2 ^ 62) ≤ i ∧ i < 2 ^ 62 ∧ -(2 ^ 62) ≤ j ∧ j < 2 ^ 62 ∧ ∀ p, H1 p = none → Q (.ref p) (upd H1 p (.rng i j))
def rLstR2 : List V → Hp → VK → Prop := fun xs H Q => ∃ p i j, xs = [.ref p] ∧ H p = some (.rng i j) ∧ -(2 ^ 62) ≤ i ∧ i < 2 ^ 62 ∧ -(2 ^ 62) ≤ j ∧ j < 2 ^ 62 ∧ j - i ≤ 1000 ∧ ∀ l, H l = none → Q (.ref l) (upd H l (.lst ((List.range (j - i).toNat).map fun (k : Nat) => V.int (i + (k : Int)))))
end
end L2


set_option Elab.async false
set_option linter.all false
set_option maxRecDepth 100000
set_option maxHeartbeats 1000000
namespace L2
open PySem PySem.Spec PyProof.Rows PySem.W

def wayI (T : List Int) (p : Nat) : List Int := (wayF T T.length (nth T p)).map fun q => ((q : Nat) : Int)
def GoodT (T : List Int) : Prop := T.length ≤ 40 ∧ ∃ ns, TreeIs ns T
theorem wayF_len (T : List Int) : ∀ k a, (wayF T k a).length ≤ k
  | 0, _ => by simp [wayF]
  | k + 1, a => by
    rw [wayF]
    split
    · have := wayF_len T k (nth T a.toNat); simp; omega
    · simp

def wayAt (T : List Int) : Nat → Int → Int
  | 0, a => a
  | j + 1, a => if 0 ≤ a ∧ a < T.length then wayAt T j (nth T a.toNat) else a
theorem wayF_snoc (T : List Int) : ∀ j a, 0 ≤ wayAt T j a → wayAt T j a < T.length → (wayF T j a).length = j → wayF T (j + 1) a = wayF T j a ++ [(wayAt T j a).toNat] ∧ wayAt T (j + 1) a = nth T (wayAt T j a).toNat
  | 0, a, h0, h1, _ => by
    have h0' : 0 ≤ a := h0
    have h1' : a < T.length := h1
    constructor
    · simp [wayF, wayAt, h0', h1']
    · simp [wayAt, h0', h1']
  | j + 1, a, h0, h1, hl => by
    rw [wayF] at hl
    by_cases z : 0 ≤ a ∧ a < T.length
    · rw [if_pos z] at hl
      have e1 : wayAt T (j + 1) a = wayAt T j (nth T a.toNat) := by rw [wayAt, if_pos z]
      rw [e1] at h0 h1
      have ih := wayF_snoc T j (nth T a.toNat) h0 h1 (by simpa using hl)
      constructor
      · rw [wayF, if_pos z, ih.1, wayF.eq_def T (j + 1) a]
        simp only [if_pos z, e1]; simp
      · rw [wayAt, if_pos z, ih.2, e1]
    · rw [if_neg z] at hl; simp at hl
theorem wayF_stop (T : List Int) : ∀ j k a, j ≤ k → (wayF T j a).length = j → ¬ (0 ≤ wayAt T j a ∧ wayAt T j a < T.length) → wayF T k a = wayF T j a
  | 0, k, a, _, _, h => by
    have h' : ¬ (0 ≤ a ∧ a < T.length) := h
    cases k with
    | zero => rfl
    | succ k => rw [show wayF T 0 a = [] from rfl, wayF, if_neg h']
  | j + 1, k, a, hk, hl, h => by
    rw [wayF] at hl
    by_cases z : 0 ≤ a ∧ a < T.length
    · rw [if_pos z] at hl
      rw [wayAt, if_pos z] at h
      obtain ⟨k', rfl⟩ : ∃ k', k = k' + 1 := ⟨k - 1, by omega⟩
      rw [wayF, if_pos z, wayF_stop T j k' _ (by omega) (by simpa using hl) h, wayF, if_pos z]
    · rw [if_neg z] at hl; simp at hl
section
variable {X : Cx}
end
end L2


set_option Elab.async false
set_option linter.all false
set_option maxRecDepth 100000
set_option maxHeartbeats 1000000
namespace L2
open PySem PySem.Spec PyProof.Rows PySem.W

section
variable {prog : Program} {w : World} {A : Around} {E : Value → Shared → Prop} {s : Shared}
end
section
variable {X : Cx}
def gSubSl (to tl tu : TE) : TG := fun v σ H Q => to σ H fun x H1 => tl σ H1 fun y H2 => tu σ H2 fun z H3 => ∃ (l b : Addr) (xs ys : List V) (a c : Int), x = .ref l ∧ v = .ref b ∧ y = .int a ∧ z = .int c ∧ H3 l = some (.lst xs) ∧ H3 b = some (.lst ys) ∧ l ≠ b ∧ 0 ≤ a ∧ a ≤ c ∧ a ≤ xs.length ∧ xs.length + ys.length ≤ sizeLine ∧ Q σ (upd H3 l (.lst (xs.take a.toNat ++ ys ++ xs.drop c.toNat)))
end
end L2


set_option Elab.async false
set_option linter.all false
set_option maxRecDepth 100000
set_option maxHeartbeats 1000000
namespace L2
open PySem PySem.Spec PyProof.Rows PySem.W

theorem seqR {a b : TS} {D : Ends} {σ : St} {H : Hp} (Mid : St → Hp → Prop) (h1 : ∀ R : St → Hp → Prop, (∀ σ' H', Mid σ' H' → R σ' H') → a { D with nx := R } σ H) (h2 : ∀ σ' H', Mid σ' H' → b D σ' H') : tSeq a b D σ H := h1 _ h2
theorem cut_to (xs : List V) (j : Nat) : cutV xs none (some (j : Int)) = xs.take j := by
  have h : ¬ ((j : Int) < 0) := by omega
  unfold cutV HT.sIx
  simp only [if_neg h, List.drop_zero, Nat.sub_zero]
  rw [List.take_eq_take_iff]
  omega
theorem cut_fromN (xs : List V) (j : Nat) : cutV xs (some (j : Int)) none = xs.drop j := by
  have h : ¬ ((j : Int) < 0) := by omega
  unfold cutV HT.sIx
  simp only [if_neg h, Int.toNat_natCast]
  by_cases z : j ≤ xs.length
  · rw [Nat.min_eq_left z]
    exact List.take_of_length_le (by rw [List.length_drop]; omega)
  · rw [Nat.min_eq_right (by omega), Nat.sub_self, List.take_zero, List.drop_eq_nil_of_le (show xs.length ≤ j by omega)]
end L2


set_option Elab.async false
set_option linter.all false
set_option maxRecDepth 100000
set_option maxHeartbeats 1000000
namespace L2
open PySem PySem.Spec PyProof.Rows


structure CellsOf (cl : List (Str × Addr)) (n0 : Nat) (cs : List (Str × Addr)) (h0 h : Heap) (done : List (Str × NameKind)) : Prop where
  old : ∀ b o, h0.get? b = some o → h.get? b = some o
  sz : n0 ≤ h.objs.size
  mem : ∀ p ∈ cs, p ∈ cl ∨ (n0 ≤ p.2 ∧ p.2 < h.objs.size ∧ h.IsCell p.2 none)
  inj : ∀ p ∈ cs, ∀ q ∈ cs, n0 ≤ p.2 → p.2 = q.2 → p.1 = q.1
  own : ∀ y ∈ done, y.2 = .cell → ∃ c, cs.lookup y.1 = some c ∧ n0 ≤ c
  oth : ∀ x, (∀ y ∈ done, y.2 = .cell → y.1 ≠ x) → cs.lookup x = cl.lookup x
theorem cells_run {M : Model} {A : Around} {E : Value → Shared → Prop} {cl : List (Str × Addr)} {n0 : Nat} {h0 : Heap} (hcl : ∀ p ∈ cl, p.2 < n0) : ∀ (names : List (Str × NameKind)) (cs : List (Str × Addr)) (done : List (Str × NameKind)) (s : Shared), CellsOf cl n0 cs h0 s.heap done →
    wpAny M A (forIn names cs fun (x : Str × NameKind) (r : List (Str × Addr)) => (match x with
      | (name, kind) => if (kind == NameKind.cell) = true then do
          let a ← alloc { cls := .type "cell", data := .cell none }
          pure (ForInStep.yield ((name, a) :: r))
        else pure (ForInStep.yield r) : Sem (ForInStep (List (Str × Addr))))) (fun cs' s' => ∃ h', s' = { s with heap := h' } ∧ CellsOf cl n0 cs' h0 h' (done ++ names)) E s
  | [], cs, done, s, I => by
    rw [List.forIn_nil, List.append_nil]
    exact wpAny_pure ⟨s.heap, rfl, I⟩
  | (n, k) :: r, cs, done, s, I => by
    rw [List.forIn_cons]
    by_cases hk : k = .cell
    · subst hk
      simp only [beq_self_eq_true, if_true]
      refine wpAny_bind (wpAny_bind (wpAny_alloc (wpAny_pure ?_)))
      have hget : (s.heap.push { cls := .type "cell", data := .cell none }).get? s.heap.objs.size = some { cls := .type "cell", data := .cell none } := Heap.get?_push_size _ rfl
      have I' : CellsOf cl n0 ((n, s.heap.objs.size) :: cs) h0 (s.heap.push { cls := .type "cell", data := .cell none }) (done ++ [(n, .cell)]) := by
        refine ⟨fun b o e => Heap.get?_push_of_some _ (I.old b o e), by rw [Heap.size_push]; exact Nat.le_succ_of_le I.sz, fun p hp => ?_, fun p hp q hq hn e => ?_, fun y hy hc => ?_, fun x hx => ?_⟩
        · rcases List.mem_cons.mp hp with z | z
          · subst z
            exact .inr ⟨I.sz, by rw [Heap.size_push]; exact Nat.lt_succ_self _, _, hget, rfl⟩
          · rcases I.mem p z with w | ⟨w1, w2, o, w3, w4⟩
            · exact .inl w
            · exact .inr ⟨w1, by rw [Heap.size_push]; exact Nat.lt_succ_of_lt w2, o, Heap.get?_push_of_some _ w3, w4⟩
        · have lt : ∀ p ∈ cs, p.2 < s.heap.objs.size := fun p hp => by
            rcases I.mem p hp with w | w
            · exact Nat.lt_of_lt_of_le (hcl p w) I.sz
            · exact w.2.1
          rcases List.mem_cons.mp hp with z | z <;> rcases List.mem_cons.mp hq with z' | z'
          · rw [z, z']
          · subst z; exact absurd (show s.heap.objs.size < s.heap.objs.size from (show s.heap.objs.size = q.2 from e) ▸ lt q z') (Nat.lt_irrefl _)
          · subst z'; exact absurd (show s.heap.objs.size < s.heap.objs.size from (show p.2 = s.heap.objs.size from e) ▸ lt p z) (Nat.lt_irrefl _)
          · exact I.inj p z q z' hn e
        · rcases List.mem_append.mp hy with z | z
          · obtain ⟨c, e1, e2⟩ := I.own y z hc
            by_cases hx : y.1 = n
            · exact ⟨s.heap.objs.size, by rw [hx]; simp, I.sz⟩
            · have hb : (y.1 == n) = false := by simpa using hx
              exact ⟨c, by simp only [List.lookup_cons, hb]; exact e1, e2⟩
          · have : y = (n, .cell) := by simpa using z
            subst this
            exact ⟨s.heap.objs.size, by simp, I.sz⟩
        · have hxn : n ≠ x := hx (n, .cell) (by simp) rfl
          have hb : (x == n) = false := by simpa using hxn.symm
          simp only [List.lookup_cons, hb]
          exact I.oth x fun y hy => hx y (List.mem_append_left _ hy)
      refine thn (cells_run hcl r _ _ { s with heap := s.heap.push { cls := .type "cell", data := .cell none } } I') fun cs' s' ⟨h', e1, e2⟩ => ⟨h', e1, ?_⟩
      rw [List.append_assoc] at e2
      exact e2
    · have e1 : (k == NameKind.cell) = false := by cases k <;> first | rfl | exact absurd rfl hk
      simp only [e1, Bool.false_eq_true, if_false]
      refine wpAny_bind (wpAny_pure ?_)
      have I' : CellsOf cl n0 cs h0 s.heap (done ++ [(n, k)]) := by
        refine ⟨I.old, I.sz, I.mem, I.inj, fun y hy hc => ?_, fun x hx => I.oth x fun y hy => hx y (List.mem_append_left _ hy)⟩
        rcases List.mem_append.mp hy with z | z
        · exact I.own y z hc
        · have : y = (n, k) := by simpa using z
          subst this
          exact absurd hc hk
      refine thn (cells_run hcl r _ _ s I') fun cs' s' ⟨h', e1, e2⟩ => ⟨h', e1, ?_⟩
      rw [List.append_assoc] at e2
      exact e2
theorem newEnv_own {M : Model} {A : Around} {E : Value → Shared → Prop} {s : Shared} {scope : Scope} {globals : Addr} {cl : List (Str × Addr)} {qual : Str} {around : Env} {Q : Env → Shared → Prop} (hcl : ∀ p ∈ cl, p.2 < s.heap.objs.size)
    (h : ∀ cs h', CellsOf cl (s.heap.objs.size + 1) cs (s.heap.push { cls := .type "dict", data := .dict #[] }) h' scope.names → Q { scope := scope, locals := s.heap.objs.size, globals := globals, cells := cs, qual := qual, func := none, code := around.code, frame := around.frame, builtins := around.builtins } { s with heap := h' }) :
    wpAny M A (newFunctionEnv scope globals cl [] qual none .none (some around)) Q E s := by
  unfold newFunctionEnv
  refine wpAny_bind (wpAny_alloc ?_)
  refine wpAny_bind (thn (cells_run (cl := cl) (n0 := s.heap.objs.size + 1) (h0 := s.heap.push { cls := .type "dict", data := .dict #[] }) (fun p hp => Nat.lt_succ_of_lt (hcl p hp)) scope.names cl [] { s with heap := s.heap.push { cls := .type "dict", data := .dict #[] } } ⟨fun b o e => e, by rw [Heap.size_push]; exact Nat.le_refl _, fun p hp => .inl hp, fun p hp q hq hn e => absurd (hcl p hp) (Nat.not_lt_of_le (Nat.le_of_succ_le hn)), fun y hy => (nomatch hy), fun x hx => rfl⟩) fun cs s' ⟨h', e1, e2⟩ => ?_)
  subst e1
  rw [List.nil_append] at e2
  exact wpAny_bind (wpAny_pure (wpAny_pure (h cs h' e2)))

def compOkN (around scope : Scope) : Bool :=
  scope.kind == .function && around.kind == .function && scope.names.all fun y => match y.2 with
    | .local => scope.names.lookup y.1 == some .local
    | .cell => scope.names.lookup y.1 == some .cell
    | .free => (scope.names.lookup y.1 == some .free) && (around.names.lookup y.1 == some .cell || around.names.lookup y.1 == some .free)
    | _ => true
theorem compOkN_kind {a s : Scope} (h : compOkN a s = true) : s.kind = .function := by
  simp only [compOkN, Bool.and_eq_true, beq_iff_eq] at h; exact h.1.1
theorem compOkN_at {a s : Scope} (h : compOkN a s = true) {y : Str × NameKind} (hy : y ∈ s.names) : (match y.2 with
    | .local => s.names.lookup y.1 == some .local
    | .cell => s.names.lookup y.1 == some .cell
    | .free => (s.names.lookup y.1 == some .free) && (a.names.lookup y.1 == some .cell || a.names.lookup y.1 == some .free)
    | _ => true) = true := by
  simp only [compOkN, Bool.and_eq_true] at h
  exact List.all_eq_true.mp h.2 y hy
theorem compOkN_local {a s : Scope} (h : compOkN a s = true) : ∀ y ∈ s.names, y.2 = .local → s.names.lookup y.1 = some .local := fun y hy e => by
  have q := compOkN_at h hy
  rw [e] at q
  exact beq_iff_eq.mp q
theorem compOkN_cell {a s : Scope} (h : compOkN a s = true) : ∀ y ∈ s.names, y.2 = .cell → s.names.lookup y.1 = some .cell := fun y hy e => by
  have q := compOkN_at h hy
  rw [e] at q
  exact beq_iff_eq.mp q
theorem compOkN_free {a s : Scope} (h : compOkN a s = true) : ∀ y ∈ s.names, y.2 = .free → s.names.lookup y.1 = some .free ∧ (a.names.lookup y.1 = some .cell ∨ a.names.lookup y.1 = some .free) := fun y hy e => by
  have q := compOkN_at h hy
  rw [e] at q
  simp only [Bool.and_eq_true, Bool.or_eq_true, beq_iff_eq] at q
  exact q
def compCxN (X : Cx) (Nc : List Str) (scope : Scope) (cs : List (Str × Addr)) (C : Addr) (s2 : Shared) (H2 : Hp) (fp : List Addr) : Cx :=
  { compCx X Nc scope cs C s2 H2 fp with fn := fun x => scope.names.lookup x == some .cell }
theorem closure_ofN {env : Env} {scope : Scope} (h : ∀ y ∈ scope.names, y.2 = .free → ∃ c, env.cells.lookup y.1 = some c) :
    ∃ cl, closureFor scope env = pure cl ∧ (∀ p ∈ cl, env.cells.lookup p.1 = some p.2) ∧ (∀ y ∈ scope.names, y.2 = .free → ∃ c, cl.lookup y.1 = some c ∧ env.cells.lookup y.1 = some c) := by
  obtain ⟨cl, e, h1, h2, h3⟩ := closure_in (env := env) scope.names [] h
  have up : ∀ p ∈ cl, env.cells.lookup p.1 = some p.2 := fun p q => by
    rcases h1 _ q with z | z
    · cases z
    · exact z
  refine ⟨cl, ?_, up, fun y hy hf => ?_⟩
  · unfold closureFor
    simp only [bind_pure_comp] at e ⊢
    rw [e]
    exact pure_bind _ _
  · obtain ⟨c, hc⟩ := h3 y hy hf
    cases q : cl.lookup y.1 with
    | none => exact absurd (List.lookup_eq_none_iff.mp q _ hc) (by simp)
    | some c' => exact ⟨c', rfl, up _ (PySem.mem_of_lookup q)⟩
section
variable {X : Cx}

theorem comp_startN {pins : List (Addr × Obj)} {σ : St} {H2 : Hp} {s2 : Shared} {Nc : List Str} {js : List (Option Nat)} {scope : Scope} {cs : List (Str × Addr)} {fp : List Addr} {h1 : Heap} {tk : Nat} {D C : Addr} {oD : Obj} {m : Str → Option Value}
    (I : Inv X pins σ H2 s2) (hok : compOkN X.env.scope scope = true) (htk : takesC X.N Nc scope js 0 = true) (up : ∀ x c, cs.lookup x = some c → X.env.cells.lookup x = some c ∨ (C < c ∧ h1.IsCell c none)) (hinj : ∀ x y c, cs.lookup x = some c → cs.lookup y = some c → x = y) (hown : ∀ y ∈ scope.names, y.2 = .cell → ∃ c, cs.lookup y.1 = some c ∧ C < c) (hfr : ∀ y ∈ scope.names, y.2 = .free → ∃ c, cs.lookup y.1 = some c ∧ X.env.cells.lookup y.1 = some c)
    (hfp : ∀ b ∈ fp, FpOk X pins H2 b) (hfl : ∀ b ∈ fp, b < s2.heap.objs.size) (hD : D = s2.heap.objs.size) (hC : C = s2.heap.objs.size + 1) (old : ∀ b o, s2.heap.get? b = some o → h1.get? b = some o) (hns : h1.Ns C m) (hoD : h1.get? D = some oD) (hdD : ∀ v, oD.data ≠ .cell v) :
    Inv (compCxN X Nc scope cs C s2 H2 fp) [(D, oD)] (iniC js σ) H2 { s2 with heap := h1, toks := tk } := by
  have leC : s2.heap.objs.size ≤ C := by rw [hC]; exact Nat.le_succ _
  have leD : s2.heap.objs.size ≤ D := Nat.le_of_eq hD.symm
  have kf : ∀ x, ((compEnvC scope cs C X.env).kindOf x = some .cell ∨ (compEnvC scope cs C X.env).kindOf x = some .free) → ∃ c, cs.lookup x = some c := fun x hx => by
    have : ∃ k, (compEnvC scope cs C X.env).kindOf x = some k ∧ (k = .cell ∨ k = .free) := hx.elim (fun q => ⟨_, q, .inl rfl⟩) fun q => ⟨_, q, .inr rfl⟩
    obtain ⟨k, e, hk⟩ := this
    obtain ⟨k', h1, h2⟩ := lookup_relabel_inv (show (scope.names.map _).lookup x = some k from e)
    have hm := lookup_mem h1
    have : k' = .free ∨ k' = .cell := by
      rcases h2 with q | q
      · subst q
        exact hk.symm
      · exact .inl q.1
    rcases this with z | z
    · subst z
      obtain ⟨c, q, _⟩ := hfr _ hm rfl
      exact ⟨c, q⟩
    · subst z
      obtain ⟨c, q, _⟩ := hown _ hm rfl
      exact ⟨c, q⟩
  have nC : ∀ c x, X.env.cells.lookup x = some c → c < s2.heap.objs.size := fun c x e => by
    obtain ⟨v, q⟩ := I.cell x c e
    exact q.lt
  have noB : ∀ b, b ∈ fp → b ∉ frs X.stack := fun b hb q => by
    rcases List.mem_cons.mp (I.stkSub b q) with z | z
    · exact (hfp b hb).2.1 z
    · exact (hfp b hb).2.2.1 z
  have okX : (compCxN X Nc scope cs C s2 H2 fp).Ok := by
    refine ⟨I.ok.mod, (show scope.kind = .function from compOkN_kind hok), I.ok.glob, I.ok.blt, ?_, fun x y c e1 e2 => hinj x y c e1 e2, fun x hx => ?_, (fun x c e1 e2 => ?_), I.ok.hd, I.ok.frames, .inl rfl, fun b hb => ⟨?_, fun x c e => (up _ _ e).elim (fun z => (hfp b hb).2.2.2.2.1 x c z) fun z => Nat.ne_of_gt (Nat.lt_trans (Nat.lt_of_lt_of_le (hfl b hb) leC) z.1)⟩, I.bs, Nat.le_trans I.ok.bsz I.sz, fun b o e hb => ?_, fun b hb => noB b hb, I.stack, I.stkFree⟩
    · show s2.heap.objs.size ≤ C; exact leC
    · exact kf x hx
    · have hm := lookup_mem (beq_iff_eq.mp (show (scope.names.lookup x == some NameKind.cell) = true from e1))
      obtain ⟨c', q1, q2⟩ := hown _ hm rfl
      have : c = c' := Option.some.inj ((show cs.lookup x = some c from e2).symm.trans q1)
      rw [this]
      exact Nat.le_trans leC (Nat.le_of_lt q2)
    · exact Nat.ne_of_lt (Nat.lt_of_lt_of_le (hfl b hb) leC)
    · rcases (hfp b hb).2.2.2.1 with q | q
      · exact I.ok.noex b o e q
      · exact absurd (Nat.lt_of_lt_of_le (Heap.lt_size e) (Nat.le_trans I.ok.bsz q)) (Nat.lt_irrefl _)
  refine ⟨okX, rfl, I.bare, Un.kept old, ⟨m, hns, fun i x v e1 e2 e3 => ?_⟩, fun x c e => ?_, I.hok.fresh leC, fun x c e => (up _ _ e).elim (fun z => I.freeC x c z) fun z => I.hok.fresh (Nat.le_trans leC (Nat.le_of_lt z.1)), fun p hp => ?_, I.hok.kept old, ?_⟩
  · have e2' : (iniC js σ)[i]? = some (some v) := e2
    unfold iniC at e2'
    rw [List.getElem?_map] at e2'
    cases q : js[i]? with
    | none => rw [q] at e2'; cases e2'
    | some j0 =>
      cases j0 with
      | none => rw [q] at e2'; cases e2'
      | some j =>
        rw [q] at e2'
        simp only [Option.map_some, Option.some.injEq] at e2'
        have e4 : σ[j]? = some (some v) := by
          cases z : σ[j]? with
          | none => rw [z] at e2'; cases e2'
          | some o => rw [z] at e2'; simp only [Option.join_some] at e2'; rw [e2']
        obtain ⟨y, y1, y2, y3⟩ := takesC_at htk q
        rw [Nat.zero_add] at y1
        have : x = y := Option.some.inj ((show Nc[i]? = some x from e1).symm.trans y1)
        subst this
        have hm := lookup_mem y3
        obtain ⟨c, c1, c2⟩ := hfr _ hm rfl
        have hk := (compOkN_free hok _ hm rfl).2
        obtain ⟨m0, hn0, hl0⟩ := I.loc
        obtain ⟨u, r, l⟩ := hl0 j x v y2 e4 (hk.elim (fun z => .inr (.inl z)) fun z => .inr (.inr z))
        refine ⟨u, r, .inr ⟨?_, c, c1, ?_⟩⟩
        · rcases e3 with z | z | z
          · obtain ⟨k', w1, w2⟩ := lookup_relabel_inv (show (scope.names.map _).lookup x = some NameKind.local from z)
            rw [y3] at w1; cases w1
            rcases w2 with w | w
            · cases w
            · cases w.2
          · exact .inl z
          · exact .inr z
        · rcases l with ⟨lk, _⟩ | ⟨_, c', c3, c4⟩
          · rcases hk with z | z
            · rw [show X.env.kindOf x = some .cell from z] at lk; cases lk
            · rw [show X.env.kindOf x = some .free from z] at lk; cases lk
          · rw [c2] at c3; cases c3
            obtain ⟨oc, w1, w2⟩ := c4
            exact ⟨oc, old _ _ w1, w2⟩
  · rcases up _ _ e with z | z
    · obtain ⟨v, oc, w1, w2⟩ := I.cell x c z
      exact ⟨v, oc, old _ _ w1, w2⟩
    · exact ⟨_, z.2⟩
  · have : p = (D, oD) := by
      have hp' : p ∈ ([] ++ [(D, oD)] : List (Addr × Obj)) := hp
      simpa using hp'
    subst this
    refine ⟨hoD, I.hok.fresh leD, (by show D ≠ C; rw [hD, hC]; exact Nat.ne_of_lt (Nat.lt_succ_self _)), fun hb => ?_, hdD⟩
    have hb' : D ∈ frs X.stack := hb
    obtain ⟨_, o, ho, _⟩ := I.stack.mem hb'
    exact absurd (Nat.lt_of_lt_of_le (Heap.lt_size ho) leD) (Nat.lt_irrefl _)
  · have := takesC_len htk
    show (iniC js σ).length = Nc.length
    unfold iniC; rw [List.length_map]; omega


theorem comp_runN {pins : List (Addr × Obj)} {σ : St} {H : Hp} {s : Shared} {tg elt iter : Expr} {ifs : List Expr} {scope : Scope} {pos : Pos} {wi : TI} {g : TG} {tt : TT} {te : TE} {Nc : List Str} {js : List (Option Nat)} {use : Option (Value → Sem Unit)} {Q : VK} {QQ : Value → Shared → Prop}
    (hc : X.calm = true) (hok : compOkN X.env.scope scope = true) (htk : takesC X.N Nc scope js 0 = true) (hi : PI X tg iter wi)
    (hg : ∀ cl C s2 H2 fp, PG (compCxN X Nc scope cl C s2 H2 fp) tg g) (ht : ∀ cl C s2 H2 fp, PIfs (compCxN X Nc scope cl C s2 H2 fp) ifs tt) (he : ∀ cl C s2 H2 fp, PE (compCxN X Nc scope cl C s2 H2 fp) elt te)
    (hs : ∀ x, foldedSetIterable iter X.env x = pure x) {L : List Nat} (ho : OnlyG g L) (hL : (L.all fun k => js[k]? == some none) = true) (I : Inv X pins σ H s) (h : tComp wi g tt te js σ H Q)
    (fin : ∀ (D C : Addr) (H' H2 : Hp) (s2 s' : Shared) (xs : List V) (m : Str → Option Value), Inv X pins σ H2 s2 → H' C = none → C = D + 1 → D = s2.heap.objs.size → s'.heap.Ns C m → (∀ h', Heap.SameBut C s'.heap h' → Inv X pins σ (upd H' D (.lst xs)) { s' with heap := h' }) → Q (.ref D) (upd H' D (.lst xs)) →
      compPost (model X.prog X.w) X.A X.xe use QQ (.ref D) C (.ok .next) s') :
    wpAny (model X.prog X.w) X.A (comprehension (.ListComp elt [⟨tg, iter, ifs, 0⟩] scope pos) scope X.env (firstIterPos [⟨tg, iter, ifs, 0⟩] pos) (newList []) false (eval iter X.env) use) QQ X.xe s := by
  have hcells : ∀ y ∈ scope.names, y.2 = .free → ∃ c, X.env.cells.lookup y.1 = some c := fun y hy hf => I.ok.has y.1 (compOkN_free hok y hy hf).2
  obtain ⟨cl, hcl, upM, hfr0⟩ := closure_ofN hcells
  have hk := compOkN_kind hok
  refine wpAny_comprehension_free (use := use) rfl hs hcl hk (compOkN_local hok) (thn (hi pins s σ H _ I h) fun v s1 h1 => thn h1 fun itv s2 h2 => ?_)
  obtain ⟨it, fp, tn, J, H2, e, I2, T, st2, f2, W, ⟨m0, w0⟩, turn⟩ := h2
  subst e
  have clt : ∀ p ∈ cl, p.2 < s2.heap.objs.size := fun p hp => by
    obtain ⟨v, q⟩ := I2.cell p.1 p.2 (upM p hp)
    exact q.lt
  refine wpAny_newObj_type (newEnv_own (fun p hp => ?_) fun cs h₁ CO => ?_)
  · show p.2 < (s2.heap.push _).objs.size
    rw [Heap.size_push]; exact Nat.lt_succ_of_lt (clt p hp)
  dsimp only at CO ⊢
  generalize hH2 : s2.heap.push { cls := .type "list", dict := none, data := .seq ([] : List Value).toArray } = HH at CO ⊢
  have hC : HH.objs.size = s2.heap.objs.size + 1 := by rw [← hH2, Heap.size_push]
  have hcl' : ∀ p ∈ cl, p.2 < HH.objs.size := fun p hp => by rw [hC]; exact Nat.lt_succ_of_lt (clt p hp)
  have hns₁ : h₁.Ns HH.objs.size (fun _ => none) := ⟨_, #[], _, CO.old _ _ (Heap.get?_push_size _ rfl), rfl, fun e he => absurd he (by simp), fun n => rfl⟩
  have up : ∀ x c, cs.lookup x = some c → X.env.cells.lookup x = some c ∨ (HH.objs.size < c ∧ h₁.IsCell c none) := fun x c e => by
    rcases CO.mem _ (PySem.mem_of_lookup e) with z | z
    · exact .inl (upM _ z)
    · exact .inr ⟨z.1, z.2.2⟩
  have hinj : ∀ x y c, cs.lookup x = some c → cs.lookup y = some c → x = y := fun x y c e1 e2 => by
    have m1 := PySem.mem_of_lookup e1
    have m2 := PySem.mem_of_lookup e2
    rcases CO.mem _ m1 with z | z
    · rcases CO.mem _ m2 with z' | z'
      · exact I2.ok.inj x y c (upM _ z) (upM _ z')
      · exact absurd (hcl' _ z) (Nat.not_lt_of_le (Nat.le_of_succ_le z'.1))
    · exact CO.inj _ m1 _ m2 z.1 rfl
  have hfr : ∀ y ∈ scope.names, y.2 = .free → ∃ c, cs.lookup y.1 = some c ∧ X.env.cells.lookup y.1 = some c := fun y hy hf => by
    obtain ⟨c, q1, q2⟩ := hfr0 y hy hf
    refine ⟨c, ?_, q2⟩
    rw [CO.oth y.1 fun y' hy' hc' z => ?_]
    · exact q1
    · have w1 := compOkN_cell hok y' hy' hc'
      have w2 := (compOkN_free hok y hy hf).1
      rw [z, w2] at w1; cases w1
  have hfl : ∀ b ∈ fp, b < s2.heap.objs.size := fun b hb => by
    obtain ⟨o, ho, _⟩ := T.obj 0 _ st2 b hb
    exact Heap.lt_size ho
  have hDC : s2.heap.objs.size ≠ HH.objs.size := by rw [hC]; exact Nat.ne_of_lt (Nat.lt_succ_self _)
  have old : ∀ b o, s2.heap.get? b = some o → h₁.get? b = some o := fun b o e => CO.old b o (Heap.get?_push_of_some _ (hH2 ▸ Heap.get?_push_of_some _ e))
  have hacc : h₁.get? s2.heap.objs.size = some { cls := .type "list", dict := none, data := .seq ([] : List Value).toArray } := CO.old _ _ (Heap.get?_push_of_some _ (hH2 ▸ Heap.get?_push_size _ rfl))
  have I4 := comp_startN (Nc := Nc) (js := js) (tk := s2.toks) I2 hok htk up hinj (fun y hy hc => CO.own y hy hc) hfr f2 hfl rfl hC old hns₁ hacc (by intro v z; cases z)
  have st4 : tn 0 h₁ := T.keep _ _ _ st2 fun b _ o e => old b o e
  generalize hXc : compCxN X Nc scope cs HH.objs.size s2 H2 fp = Xc at I4
  have hXA : Xc.A = X.A := by rw [← hXc]; rfl
  have hXe : Xc.env = compEnvC scope cs HH.objs.size X.env := by rw [← hXc]; rfl
  have hXp : Xc.prog = X.prog := by rw [← hXc]; rfl
  have hXw : Xc.w = X.w := by rw [← hXc]; rfl
  have hXx : Xc.xe = fun _ _ => False := by rw [← hXc]; rfl
  have hXk : Xc.K = X.K := by rw [← hXc]; rfl
  have hXcalm : Xc.calm = true := by rw [← hXc]; exact hc
  have fpok : ∀ {pl : List (Addr × Obj)} {H' : Hp}, (∀ p ∈ pl, s2.heap.objs.size ≤ p.1) → (∀ b ∈ fp, H' b = none) → ∀ b ∈ fp, FpOk Xc pl H' b := fun {pl H'} hpl hn b hb => by
    have k1 : b ≠ HH.objs.size := Nat.ne_of_lt (by rw [hC]; exact Nat.lt_succ_of_lt (hfl b hb))
    have k2 : b ∉ frs X.stack := fun q => by
      rcases List.mem_cons.mp (I2.stkSub b q) with z | z
      · exact (f2 b hb).2.1 z
      · exact (f2 b hb).2.2.1 z
    rw [← hXc]
    refine ⟨hn b hb, k1, k2, .inl hb, fun x c e => (up _ _ e).elim (fun z => (f2 b hb).2.2.2.2.1 x c z) fun z => Nat.ne_of_gt (Nat.lt_trans (by rw [hC]; exact Nat.lt_succ_of_lt (hfl b hb)) z.1), fun p hp => ?_⟩
    have hp' : p ∈ pl := by simpa [compCxN, compCx] using hp
    exact Nat.ne_of_gt (Nat.lt_of_lt_of_le (hfl b hb) (hpl p hp'))
  have gX : PG Xc tg g := hXc ▸ hg cs HH.objs.size s2 H2 fp
  have tX : PIfs Xc ifs tt := hXc ▸ ht cs HH.objs.size s2 H2 fp
  have eX : PE Xc elt te := hXc ▸ he cs HH.objs.size s2 H2 fp
  have hs0 : Xc.s₀ = s2 := by rw [← hXc]; rfl
  have hh0 : Xc.H₀ = H2 := by rw [← hXc]; rfl
  have hfs : Xc.fs = frs X.stack := by rw [← hXc]; rfl
  have hex : Xc.ex = fp := by rw [← hXc]; rfl
  have loop : codeAny (model X.prog X.w) X.A (.compLoop (.ListComp elt [⟨tg, iter, ifs, 0⟩] scope pos) 0 (.ref it) (.ref s2.heap.objs.size) (compEnvC scope cs HH.objs.size X.env)) (compPost (model X.prog X.w) X.A X.xe use QQ (.ref s2.heap.objs.size) HH.objs.size)
      { s2 with heap := h₁, toks := s2.toks } := by
    refine codeAny_compLoop_all (fun n s' => ∃ i acc its nn H', Inv Xc [(s2.heap.objs.size, { cls := .type "list", dict := none, data := .seq (its : List Value).toArray nn })] (iniC js σ) H' s' ∧ Vals acc its ∧ acc.length ≤ sizeLine ∧ tn i s'.heap ∧ (∀ b ∈ fp, H' b = none) ∧ W i n acc H') ?_ m0
      ⟨0, [], [], 0, H2, I4, .nil, Nat.zero_le _, st4, fun b hb => (f2 b hb).1, w0⟩
    rintro n s3 ⟨i, acc, its, nn, H3, I3, va, hlen, st3, fr3, w3⟩
    have pg : ∀ p ∈ ([(s2.heap.objs.size, { cls := .type "list", dict := none, data := .seq its.toArray nn })] : List (Addr × Obj)), s2.heap.objs.size ≤ p.1 := fun p hp => by
      simp only [List.mem_cons, List.not_mem_nil, or_false] at hp
      subst hp; exact Nat.le_refl _
    rcases turn i n acc H3 w3 with ⟨stop, hl, qn⟩ | ⟨go, hl, step⟩
    · have q := T.done Xc hXp hXw hXk hXcalm i _ s3 (iniC js σ) H3 (fun _ _ => False) I3 (fpok pg fr3) st3 stop
      rw [hXA] at q
      refine thn q fun r s4 ⟨hr, I5⟩ => ?_
      subst hr
      have hpin := I5.pin _ (List.mem_append_right _ (.head _))
      obtain ⟨m5, hn5, _⟩ := I5.loc
      rw [hXe] at hn5
      refine fin _ _ H3 H2 s2 s4 acc m5 I2 (by have := I5.free; rw [hXe] at this; exact this) hC rfl hn5 (fun h' hsb => ?_) (qn _ hpin.2.1)
      have same : ∀ b o, b ≠ HH.objs.size → s4.heap.get? b = some o → h'.get? b = some o := fun b o hb e => hsb.extBut b o hb e
      have un := I5.base
      rw [hfs, hex, hh0, hs0] at un
      have lt : ∀ b o, s2.heap.get? b = some o → b < s2.heap.objs.size := fun b o e => Heap.lt_size e
      have neC : ∀ b o, s2.heap.get? b = some o → b ≠ HH.objs.size := fun b o e => Nat.ne_of_lt (by rw [hC]; exact Nat.lt_succ_of_lt (lt b o e))
      have neD : ∀ b o, s2.heap.get? b = some o → b ≠ s2.heap.objs.size := fun b o e => Nat.ne_of_lt (lt b o e)
      have trkC : ∀ b o, H3 b = some o → b ≠ HH.objs.size := fun b o e z => by
        have := I5.free; rw [hXe] at this; rw [z, show H3 HH.objs.size = none from this] at e; cases e
      refine I2.call' (s' := { s4 with heap := h' }) (ch := fp) (I5.os.trans (by rw [hs0])) ⟨fun b o e n hb hx => same _ _ (neC b o e) (un.keep b o e n hb hx), fun b o e n hb hx => ?_, fun b o e n hx => by rw [upd_ne (neD b o e)]; exact un.free b o e n hx, fun b o e hx => ?_, fun b xs e => ?_, fun b o u e => ?_, fun b ps e => ?_⟩ (fun a o e => ?_) I5.bare fun b hb => ⟨(f2 b hb).2.2.2.1, (f2 b hb).2.1, (f2 b hb).2.2.2.2.1, (f2 b hb).2.2.2.2.2⟩
      · obtain ⟨sl, z⟩ := un.slot b o e n hb hx
        exact ⟨sl, same _ _ (neC b o e) z⟩
      · obtain ⟨o', z⟩ := un.there b o e hx
        exact ⟨o', same _ _ (neC b o e) z⟩
      · rw [upd_ne (Nat.ne_of_lt (I2.hok.lt e))]; exact un.tups b xs e
      · rw [upd_ne (Nat.ne_of_lt (I2.hok.lt e))]; exact un.frzs b o u e
      · obtain ⟨more, z⟩ := un.tbls b ps e
        exact ⟨more, by rw [upd_ne (Nat.ne_of_lt (I2.hok.lt e))]; exact z⟩
      · by_cases ha : a = s2.heap.objs.size
        · subst ha
          rw [upd_same] at e; cases e
          exact ⟨hl, its, nn, va, same _ _ hDC hpin.1⟩
        · rw [upd_ne ha] at e
          have q := I5.hok a o e
          rw [hXp, hXw] at q
          refine q.stay (fun b u hb z => same b u ?_ z) (fun b z => by rw [upd_ne]; exact z; intro y; subst y; rw [hpin.2.1] at z; cases z) fun b xs z => by rw [upd_ne]; exact z; intro y; subst y; rw [hpin.2.1] at z; cases z
          rcases hb with hb | hb
          · subst hb; exact trkC _ _ e
          · exact trkC _ _ hb
    · have q := T.item Xc hXp hXw hXk hXcalm i _ s3 (iniC js σ) H3 (fun _ _ => False) I3 (fpok pg fr3) st3 go
      rw [hXA] at q
      refine thn q fun r s4 ⟨u, hr, h4⟩ => ?_
      subst hr
      refine thn h4 fun _ s5 ⟨x, H5, I5, r5, y5, st5, fr5⟩ => ?_
      have I5' := I5.pinned (fpok pg fr5) (T.obj _ _ st5)
      have again : ∀ {σ7 : St} {H7 : Hp} {s7 : Shared} {acc7 : List V} {its7 : List Value} {n7 : Nat} {m : Nat}, Inv Xc ([(s2.heap.objs.size, { cls := .type "list", dict := none, data := .seq its7.toArray n7 })] ++ pinsAt fp s5.heap) σ7 H7 s7 → Vals acc7 its7 → acc7.length ≤ sizeLine → W (i + 1) m acc7 H7 → σ7.length = (iniC js σ).length → (∀ (k : Nat) v, (iniC js σ)[k]? = some (some v) → σ7[k]? = some (some v)) →
          ∃ i acc its nn H', Inv Xc [(s2.heap.objs.size, { cls := .type "list", dict := none, data := .seq (its : List Value).toArray nn })] (iniC js σ) H' s7 ∧ Vals acc its ∧ acc.length ≤ sizeLine ∧ tn i s7.heap ∧ (∀ b ∈ fp, H' b = none) ∧ W i m acc H' := fun {σ7 H7 s7 acc7 its7 n7 m} I7 v7 l7 w7 hl7 hw7 => by
        refine ⟨i + 1, acc7, its7, n7, H7, (I7.weak hl7.symm hw7).unpinned, v7, l7, T.keep _ _ _ st5 fun b hb o e => (I7.pin (b, o) (List.mem_append_right _ (List.mem_append_right _ (mem_pinsAt hb e)))).1, fun b hb => ?_, w7⟩
        obtain ⟨o, e, d⟩ := T.obj _ _ st5 b hb
        exact (I7.pin (b, o) (List.mem_append_right _ (List.mem_append_right _ (mem_pinsAt hb e)))).2.1
      have keep : ∀ {σ6 : St}, KeepOn L (iniC js σ) σ6 → σ6.length = (iniC js σ).length ∧ ∀ (k : Nat) v, (iniC js σ)[k]? = some (some v) → σ6[k]? = some (some v) := fun {σ6} hk => ⟨hk.1, fun k v e => by
        rw [hk.2 k]
        · exact e
        · intro z
          have q := List.all_eq_true.mp hL k z
          simp only [beq_iff_eq] at q
          unfold iniC at e
          rw [List.getElem?_map, q] at e
          cases e⟩
      have q6 := gX _ s5 (iniC js σ) H5 x u _ I5' r5 (ho _ _ _ _ _ (fun σ' H' kk z => And.intro kk z) (step x H5 y5))
      rw [hXe, hXA, hXp, hXw, hXx] at q6
      refine thn q6 fun _ s6 ⟨σ6, H6, I6, k6, q6⟩ => ?_
      obtain ⟨kl, kv⟩ := keep k6
      have q7 := tX _ s6 σ6 H6 _ I6 q6
      rw [hXe, hXA, hXp, hXw, hXx] at q7
      refine thn q7 fun b s7 ⟨H7, I7, q7⟩ => ?_
      cases b with
      | false =>
        obtain ⟨m', hm, w7⟩ := q7
        exact ⟨m', hm, again I7 va hlen w7 kl kv⟩
      | true =>
        have q8 := eX _ s7 σ6 H7 _ I7 q7
        rw [hXe, hXA, hXp, hXw, hXx] at q8
        refine thn q8 fun y s8 ⟨v8, H8, I8, r8, m', hm, w8⟩ => ?_
        have pinD := I8.pin _ (List.mem_append_right _ (List.mem_append_left _ (.head _)))
        have hnf : ∀ p ∈ pinsAt fp s5.heap, p.1 ≠ s2.heap.objs.size := fun p hp => by
          obtain ⟨z, _⟩ := of_pinsAt hp
          exact Nat.ne_of_lt (hfl _ z)
        have va' := va.length
        refine call_meets F.slot_list_append ⟨_, pinD.1, rfl⟩ F.entry_list_append (F.args_list_append_2 _ _) (PySem.list_append s2.heap.objs.size its.toArray nn y (by rw [List.size_toArray]; omega)) ⟨pinD.1, ?_⟩
        have e9 := PySem.IsL.update pinD.1 (fun a => a.push y)
        have e9' : its.toArray.push y = (its ++ [y]).toArray := by simp
        dsimp only at e9
        rw [e9'] at e9
        have I8' : Inv Xc (pinsAt fp s5.heap) σ6 H8 s8 := I8.pins_of fun p hp => I8.pin p (List.mem_append_right _ (List.mem_append_right _ hp))
        have hXpn : Xc.pn = [] := by rw [← hXc]; rfl
        have hXs : s2.heap.objs.size ∉ frs X.stack := by rw [← hfs]; exact pinD.2.2.2.1
        have I9 := I8'.turned (t' := s8.toks) (it := s2.heap.objs.size) (h' := s8.heap.update s2.heap.objs.size (Obj.mapSeq fun a => a.push y)) (fun b o hb e => (Heap.get?_update_other s8.heap _ (Ne.symm hb)).trans e) pinD.2.1 pinD.2.2.1
          (.inr (by rw [hs0]; exact Nat.le_refl _)) (fun x c e => by
            rw [hXe] at e
            intro z
            rcases up _ _ e with y | y
            · obtain ⟨v, q⟩ := I2.cell x c y
              exact absurd q.lt (by rw [z]; exact Nat.lt_irrefl _)
            · have := y.1
              rw [z, hC] at this
              exact absurd this (Nat.not_lt_of_le (Nat.le_succ _))) (fun p hp => by rw [hXpn, List.nil_append] at hp; exact hnf p hp)
        have I10 := I9.pins_of (pins' := [(s2.heap.objs.size, { cls := .type "list", dict := none, data := .seq (its ++ [y]).toArray _ })] ++ pinsAt fp s5.heap) fun p hp => by
          rcases List.mem_append.mp hp with z | z
          · simp only [List.mem_cons, List.not_mem_nil, or_false] at z
            subst z
            exact ⟨e9, pinD.2.1, pinD.2.2.1, pinD.2.2.2.1, by intro v z; cases z⟩
          · exact I9.pin p (List.mem_append_right _ z)
        exact ⟨m', hm, again I10 (va.append (.cons r8 .nil)) (by rw [List.length_append, List.length_singleton]; omega) w8 kl kv⟩
  exact codeAny_compStart_list loop (T.self _ 0 _ _ _ st4 loop)

theorem pe_compN {tg elt iter : Expr} {ifs : List Expr} {scope : Scope} {pos : Pos} {wi : TI} {g : TG} {tt : TT} {te : TE} (Nc : List Str) (js : List (Option Nat)) {L : List Nat}
    (hc : X.calm = true) (hok : compOkN X.env.scope scope = true) (htk : takesC X.N Nc scope js 0 = true) (hi : PI X tg iter wi)
    (hg : ∀ cl C s2 H2 fp, PG (compCxN X Nc scope cl C s2 H2 fp) tg g) (ht : ∀ cl C s2 H2 fp, PIfs (compCxN X Nc scope cl C s2 H2 fp) ifs tt) (he : ∀ cl C s2 H2 fp, PE (compCxN X Nc scope cl C s2 H2 fp) elt te)
    (ho : OnlyG g L) (hL : (L.all fun k => js[k]? == some none) = true := by rfl) (hs : ∀ x, foldedSetIterable iter X.env x = pure x := by intro _; rfl) : PE X (.ListComp elt [⟨tg, iter, ifs, 0⟩] scope pos) (tComp wi g tt te js) := by
  intro pins s σ H Q I h
  rw [eval_ListComp]
  exact comp_runN (use := none) hc hok htk hi hg ht he hs ho hL I h fun D C H' H2 s2 s' xs m I2 hHC e1 e2 hn hI q => ⟨m, hn, fun h' hsb => ⟨.ref D, _, hI h' hsb, rfl, q⟩⟩


theorem ps_setCN {i : Nat} {x : Str} {pos' spos : Pos} {tg elt iter : Expr} {ifs : List Expr} {scope : Scope} {pos : Pos} {wi : TI} {g : TG} {tt : TT} {te : TE} (Nc : List Str) (js : List (Option Nat)) {L : List Nat}
    (hN : X.N.Nodup) (hxi : X.N[i]? = some x) (hx : Loc X.env.scope x)
    (hc : X.calm = true) (hok : compOkN X.env.scope scope = true) (htk : takesC X.N Nc scope js 0 = true) (hi : PI X tg iter wi)
    (hg : ∀ cl C s2 H2 fp, PG (compCxN X Nc scope cl C s2 H2 fp) tg g) (ht : ∀ cl C s2 H2 fp, PIfs (compCxN X Nc scope cl C s2 H2 fp) ifs tt) (he : ∀ cl C s2 H2 fp, PE (compCxN X Nc scope cl C s2 H2 fp) elt te)
    (ho : OnlyG g L) (hL : (L.all fun k => js[k]? == some none) = true := by rfl) (hs : ∀ x, foldedSetIterable iter X.env x = pure x := by intro _; rfl)
    (hsw : swapsWith (.ListComp elt [⟨tg, iter, ifs, 0⟩] scope pos) (some (.Name x pos')) spos.line X.env = pure true := by rfl)
    (hf : X.fn x = true ∨ X.env.scope.names.lookup x = some .local := by first | exact .inl rfl | exact .inr rfl | assumption) :
    PS X (.Assign [.Name x pos'] (.ListComp elt [⟨tg, iter, ifs, 0⟩] scope pos) spos) (tAsg (tComp wi g tt te js) (gName i)) := by
  intro pins s σ H D I h
  rw [exec_Assign_Name_used _ _ _ _ hsw]
  refine wpAny_bind (wpAny_standAt (wpAny_bind ?_))
  show wpAny _ _ (comprehension _ _ _ _ _ _ _ _ >>= _) _ _ _
  refine wpAny_bind (thn (Q := fun _ s' => ∃ σ' H', Inv X pins σ' H' s' ∧ D.nx σ' H') (comp_runN (Q := fun v H1 => gName i v σ H1 D.nx) (use := some (assign (.Name x pos') X.env)) hc hok htk hi hg ht he hs ho hL I h ?_) fun _ s' ⟨σ', H', I', q⟩ => wpAny_pure (wpAny_pure ⟨σ', H', I', q⟩))
  intro D' C H' H2 s2 s' xs m I2 hHC e1 e2 hn hI q
  obtain ⟨oC, es, ep, hoC, hdC, hrest⟩ := id hn
  have leC : s2.heap.objs.size ≤ C := by rw [e1, e2]; exact Nat.le_succ _
  have ltC : s2.heap.objs.size < C := by rw [e1, e2]; exact Nat.lt_succ_self _
  have neDC : C ≠ D' := by rw [e2]; exact Nat.ne_of_gt ltC
  have fresh : s2.heap.get? C = none := by
    cases e : s2.heap.get? C with
    | none => rfl
    | some o => exact absurd (Nat.lt_of_lt_of_le (Heap.lt_size e) leC) (Nat.lt_irrefl _)
  have neL : C ≠ X.env.locals := Nat.ne_of_gt (Nat.lt_of_lt_of_le I2.lt leC)
  have nfs : C ∉ X.fs := I2.nofs leC
  have ncl : ∀ x c, X.env.cells.lookup x = some c → c ≠ C := fun x c e z => by
    obtain ⟨v, q⟩ := I2.cell x c e
    exact absurd (Nat.lt_of_lt_of_le q.lt leC) (by rw [z]; exact Nat.lt_irrefl _)
  have npn : ∀ p ∈ X.pn ++ pins, p.1 ≠ C := fun p hp z => by
    have := (I2.pin p hp).1
    rw [z, fresh] at this; cases this
  have hH : (upd H' D' (HO.lst xs)) C = none := by rw [upd_ne neDC]; exact hHC
  have I0 := hI s'.heap sameBut_refl
  have I1 : Inv X (pins ++ [(C, oC)]) σ (upd H' D' (.lst xs)) s' := I0.pins_of fun p hp => by
    rcases List.mem_append.mp hp with z | z
    · exact I0.pin p (List.mem_append_right _ z)
    · simp only [List.mem_cons, List.not_mem_nil, or_false] at z
      subst z
      exact ⟨hoC, hH, neL, nfs, fun v z => by rw [hdC] at z; cases z⟩
  show wpAny _ _ _ _ _ _
  refine thn (pg_name (X := X) (i := i) hN hxi hx hf (pins ++ [(C, oC)]) s' σ _ (.ref D') (.ref D') _ I1 rfl q) fun _ s3 ⟨σ3, H3, I3, q3⟩ => ?_
  have pC := I3.pin (C, oC) (List.mem_append_right _ (List.mem_append_right _ (.head _)))
  refine ⟨m, ⟨oC, es, ep, pC.1, hdC, hrest⟩, fun h' hsb => ⟨σ3, H3, ?_, q3⟩⟩
  exact I3.unpinned.turned (t' := s3.toks) (it := C) (fun b o hb e => hsb.extBut b o hb e) pC.2.1 neL (.inr (Nat.le_trans I2.sz leC)) ncl npn
end
end L2


set_option Elab.async false
set_option linter.all false
set_option maxRecDepth 100000
set_option maxHeartbeats 1000000
namespace L2
open PySem PySem.Spec PyProof.Rows PySem.W

def CF (n : Nat) (P : Nat → Bool) (vals : Nat → V) (H1 : Hp) (i m : Nat) (acc : List V) (H : Hp) : Prop := m = n - i ∧ i ≤ n ∧ acc = ((List.range i).filter P).map vals ∧ Same H1 H
theorem CF.take {n : Nat} {P : Nat → Bool} {vals : Nat → V} {H1 H : Hp} {i : Nat} {v : V} (hi : i < n) (hP : P i = true) (hv : v = vals i) (s : Same H1 H) : ∃ m', m' < n - i ∧ CF n P vals H1 (i + 1) m' (((List.range i).filter P).map vals ++ [v]) H :=
  ⟨n - (i + 1), by omega, rfl, hi, by rw [List.range_succ, List.filter_append, List.map_append, hv]; simp [hP], s⟩
theorem CF.skip {n : Nat} {P : Nat → Bool} {vals : Nat → V} {H1 H : Hp} {i : Nat} (hi : i < n) (hP : P i = false) (s : Same H1 H) : ∃ m', m' < n - i ∧ CF n P vals H1 (i + 1) m' (((List.range i).filter P).map vals) H :=
  ⟨n - (i + 1), by omega, rfl, hi, by rw [List.range_succ, List.filter_append, List.map_append]; simp [hP], s⟩
theorem comp_filt {J : It} {n : Nat} {H1 : Hp} {g : TG} {tt : TT} {te : TE} {σ0 : St} {Q : VK} (P : Nat → Bool) (vals : Nat → V) (hn : n < sizeLine) (hgo : ∀ i H, Same H1 H → i < n → J.go i H) (hstop : ∀ H, Same H1 H → J.stop n H)
    (hb : ∀ i x H H', i < n → Same H1 H → J.yld i H x H' → g x σ0 H' fun σ2 H2 => tt σ2 H2 fun b H3 => if b = true then te σ2 H3 fun v H4 => ∃ m', m' < n - i ∧ CF n P vals H1 (i + 1) m' (((List.range i).filter P).map vals ++ [v]) H4 else ∃ m', m' < n - i ∧ CF n P vals H1 (i + 1) m' (((List.range i).filter P).map vals) H3)
    (hk : ∀ l H', Same H1 H' → H' l = none → Q (.ref l) (upd H' l (.lst (((List.range n).filter P).map vals)))) :
    CompR J g tt te σ0 Q H1 := by
  refine ⟨CF n P vals H1, ⟨n, rfl, Nat.zero_le _, rfl, Same.refl _⟩, ?_⟩
  rintro i m acc H ⟨rfl, hi, rfl, s⟩
  have hlen : (((List.range i).filter P).map vals).length ≤ n := by
    rw [List.length_map]
    have := List.length_filter_le P (List.range i)
    rw [List.length_range] at this
    omega
  by_cases h : i < n
  · exact .inr ⟨hgo i H s h, by omega, fun x H' y => hb i x H H' h s y⟩
  · have : i = n := by omega
    subst this
    exact .inl ⟨hstop H s, by omega, fun p hp => hk p H s hp⟩

def CRv (rs : Nat → List Int) (H1 : Hp) (i : Nat) (acc : List V) (H : Hp) : Prop := Same H1 H ∧ ∃ as : List Addr, acc = as.map V.ref ∧ as.length = i ∧ ∀ (k : Nat) (a : Addr), as[k]? = some a → H a = some (.lst ((rs k).map V.int))
theorem CRv.take {rs : Nat → List Int} {H1 H H' : Hp} {i : Nat} {acc : List V} {a : Addr} (h : CRv rs H1 i acc H) (s : Same H H') (ha : H' a = some (.lst ((rs i).map V.int))) : CRv rs H1 (i + 1) (acc ++ [.ref a]) H' := by
  obtain ⟨s1, as, rfl, hl, h1⟩ := h
  refine ⟨s1.trans s, as ++ [a], by simp, by simp [hl], fun k b hk => ?_⟩
  by_cases z : k < as.length
  · rw [List.getElem?_append_left z] at hk
    exact s _ _ (h1 k b hk)
  · have hk2 := (List.getElem?_eq_some_iff.mp hk).1
    rw [List.length_append] at hk2
    have : k = as.length := by simp at hk2; omega
    subst this
    rw [List.getElem?_append_right (Nat.le_refl _)] at hk
    simp at hk
    rw [← hk, hl]; exact ha
theorem IsLow.over {f : Nat → Int} {a b lo p : Nat} (h : IsLow f a b lo) (h1 : a ≤ p) (h2 : p ≤ b) (hne : p ≠ lo) : Over f lo p := by
  obtain ⟨l1, l2, l3, l4⟩ := h
  rcases Nat.lt_or_gt_of_ne hne with z | z
  · exact .inr ⟨z, fun r r1 r2 => l3 r (by omega) r2⟩
  · exact .inl ⟨z, fun r r1 r2 => l4 r r1 (by omega)⟩
theorem IsLow.top {f : Nat → Int} {a b lo o : Nat} (h : IsLow f a b lo) (h1 : a ≤ o) (h2 : o ≤ b) : ¬ Over f o lo := by
  obtain ⟨l1, l2, l3, l4⟩ := h
  rintro (⟨z, k⟩ | ⟨z, k⟩)
  · have := k lo z (Nat.le_refl _); have := l3 o h1 z; omega
  · have := k lo (Nat.le_refl _) z; have := l4 o z h2; omega
theorem tree_row {ns T : List Int} {g : Nat → Int} (hT : TreeIs ns T) (hg : ∀ q p, q < ns.length → p < ns.length → Over (nth ns) q p → (q < p → g q ≤ g p) ∧ (p < q → g q < g p)) : ∀ p, p < ns.length → ElderIs g ns.length p (T.getD p 0) := by
  intro p hp
  have pv : ∀ q, IsPrev (nth ns) p q → IsPrev g p q := fun q h => by
    refine ⟨h.1, (hg q p (by have := h.1; omega) hp (.inl ⟨h.1, fun r r1 r2 => ?_⟩)).1 h.1, fun r r1 r2 => (hg p r hp (by omega) (.inr ⟨r2, fun s s1 s2 => h.2.2 s (by omega) s2⟩)).2 r2⟩
    by_cases z : r = p
    · rw [z]; exact h.2.1
    · have := h.2.2 r r1 (by omega); have := h.2.1; omega
  have nx : ∀ r, IsNext (nth ns) ns.length p r → IsNext g ns.length p r := fun q h => by
    refine ⟨h.1, h.2.1, (hg q p h.2.1 hp (.inr ⟨h.1, fun r r1 r2 => ?_⟩)).2 h.1, fun s s1 s2 => (hg p s hp (by have := h.2.1; omega) (.inl ⟨s1, fun r r1 r2 => h.2.2.2 r r1 (by omega)⟩)).1 s1⟩
    by_cases z : r = p
    · rw [z]; exact h.2.2.1
    · have := h.2.2.2 r (by omega) r2; have := h.2.2.1; omega
  have np : NoPrev (nth ns) p → NoPrev g p := fun h q hq => (hg p q hp (by omega) (.inr ⟨hq, fun r r1 r2 => h r r2⟩)).2 hq
  have nn : NoNext (nth ns) ns.length p → NoNext g ns.length p := fun h r r1 r2 => (hg p r hp r2 (.inl ⟨r1, fun s s1 s2 => h s s1 (by omega)⟩)).1 r1
  have hE : ElderIs (nth ns) ns.length p (T.getD p 0) := hT.2 p hp
  rcases hE with ⟨h1, h2, h⟩ | ⟨q, h1, h2, h⟩ | ⟨r, h1, h2, h⟩ | ⟨q, r, h1, h2, h⟩
  · exact .inl ⟨np h1, nn h2, h⟩
  · exact .inr (.inl ⟨q, pv q h1, nn h2, h⟩)
  · exact .inr (.inr (.inl ⟨r, np h1, nx r h2, h⟩))
  · refine .inr (.inr (.inr ⟨q, r, pv q h1, nx r h2, ?_⟩))
    rw [h]
    have hq : q < ns.length := by have := h1.1; omega
    have hqr : q < r := by have := h1.1; have := h2.1; omega
    by_cases z : nth ns q ≤ nth ns r
    · have := (hg q r hq h2.2.1 (.inl ⟨hqr, fun s s1 s2 => by
        by_cases y : s = r
        · rw [y]; exact z
        · by_cases y2 : s = p
          · rw [y2]; exact h1.2.1
          · have := h1.2.1
            by_cases y3 : s < p
            · have := h1.2.2 s s1 y3; omega
            · have := h2.2.2.2 s (by omega) (by omega); omega⟩)).1 hqr
      rw [if_pos z, if_pos (by omega)]
    · have := (hg r q h2.2.1 hq (.inr ⟨hqr, fun s s1 s2 => by
        have := h1.2.1; have := h2.2.2.1
        by_cases y : s = q
        · rw [y]; omega
        · by_cases y2 : s = p
          · rw [y2]; omega
          · by_cases y3 : s < p
            · have := h1.2.2 s (by omega) y3; omega
            · have := h2.2.2.2 s (by omega) (by omega); omega⟩)).2 hqr
      rw [if_neg z, if_neg (by omega)]

theorem way_mem {ns T : List Int} (hT : TreeIs ns T) {p o : Nat} (hp : p < ns.length) : (o : Int) ∈ wayI T p ↔ o < ns.length ∧ Over (nth ns) o p := by
  rw [← (way_tree hT T.length p hp (by rw [hT.1]; exact Nat.le_of_lt (dep_lt hp))).1 o]
  unfold wayI
  rw [List.mem_map]
  refine ⟨fun ⟨q, hq, e⟩ => ?_, fun h => ⟨o, h, rfl⟩⟩
  have : q = o := by omega
  rw [← this]; exact hq
theorem atI_m1 {xs : List V} {v : V} (h : 0 < xs.length) (hv : xs[xs.length - 1]? = some v) : atI xs (-1) = some v := by
  have e : ixN xs.length (-1) = some (xs.length - 1) := by
    unfold ixN
    rw [if_neg (by omega), if_pos (by omega)]
    congr 1
    omega
  unfold atI
  rw [e]
  exact hv
end L2


set_option Elab.async false
set_option linter.all false
set_option maxRecDepth 100000
set_option maxHeartbeats 1000000
namespace HT
open PySem PyProof.Rows
section
open PySem.SeqAt
open PySem.AutoSeq1 (wpAny_loadPart')
open PySem.MeetsSeq PySem.MeetsSeq2 PySem.MeetsSeq3
variable {prog : Program} {w : World} {A : Around} {E : Value → Shared → Prop} {s : Shared}
end
end HT
namespace L2
open PySem PySem.Spec PyProof.Rows PySem.W
section
variable {X : Cx}

def rSlQ (K : Frag) : V → Option Int → Option Int → Hp → VK → Prop := fun x lo hi H Q => ∃ a xs, x = .ref a ∧ ((SqL K H a xs ∧ ∀ p, H p = none → Q (.ref p) (upd H p (.lst (cutV xs lo hi)))) ∨
  (SqT K H a xs ∧ (HT.sIx xs.length 0 lo = 0 ∧ HT.sIx xs.length xs.length hi = xs.length → Q (.ref a) H) ∧ (¬ (HT.sIx xs.length 0 lo = 0 ∧ HT.sIx xs.length xs.length hi = xs.length) → ∀ p, H p = none → Q (.ref p) (upd H p (.tup (cutV xs lo hi))))))
end
section
variable {X : Cx} {tg l : Expr} {tl : TE}
end
end L2


set_option Elab.async false
set_option linter.all false
set_option maxRecDepth 100000
set_option maxHeartbeats 1000000
namespace L2
open PySem PySem.Spec PyProof.Rows PySem.W

theorem wayF_ext (T : List Int) : ∀ k a, (wayF T k a).length < k → wayF T (k + 1) a = wayF T k a
  | 0, _, h => by omega
  | k + 1, a, h => by
    rw [wayF] at h ⊢
    by_cases z : 0 ≤ a ∧ a < T.length
    · rw [if_pos z] at h ⊢
      rw [wayF_ext T k _ (by simpa using h), wayF, if_pos z]
    · rw [if_neg z] at h ⊢
      rw [wayF, if_neg z]
def way (T : List Int) (p : Nat) : List Nat := wayF T T.length (nth T p)
theorem way_top {T : List Int} {p : Nat} (h : nth T p = -1) : way T p = [] := by
  unfold way
  rw [h]
  cases T.length with
  | zero => rfl
  | succ k => rw [wayF, if_neg (by omega)]
theorem way_cons {ns T : List Int} (hT : TreeIs ns T) {p q : Nat} (hp : p < ns.length) (h : nth T p = q) : way T p = q :: way T q := by
  have hE : ElderIs (nth ns) ns.length p (q : Int) := h ▸ hT.2 p hp
  have hq : q < ns.length := by
    rcases elder_over hp hE with z | ⟨q', e, z, _⟩ <;> omega
  have hd := dep_elder hp hE
  have hl := dep_lt (f := nth ns) hp
  unfold way
  rw [h, hT.1]
  obtain ⟨k, hk⟩ : ∃ k, ns.length = k + 1 := ⟨ns.length - 1, by omega⟩
  rw [hk, wayF, if_pos ⟨by omega, by rw [hT.1]; omega⟩, show ((q : Nat) : Int).toNat = q by omega]
  rw [wayF_ext T k (nth T q)]
  rw [(way_tree hT k q hq (by omega)).2]
  omega
theorem wayI_way (T : List Int) (p : Nat) : wayI T p = (way T p).map fun q => ((q : Nat) : Int) := rfl

theorem elder_cases {ns T : List Int} (hT : TreeIs ns T) {p : Nat} (hp : p < ns.length) : nth T p = -1 ∨ ∃ q : Nat, nth T p = q ∧ q < ns.length ∧ Over (nth ns) q p ∧ dep (nth ns) ns.length p = dep (nth ns) ns.length q + 1 := by
  rcases elder_over hp (hT.2 p hp) with z | ⟨q, e, hq, hO⟩
  · exact .inl z
  · have e' : nth T p = (q : Int) := e
    have hE : ElderIs (nth ns) ns.length p (q : Int) := e' ▸ hT.2 p hp
    exact .inr ⟨q, e, hq, hO, dep_elder hp hE⟩

def flatN (T : List Int) (p : Nat) : Nat := ((way T p).filter fun o => decide (p < o)).length
def flatI (T : List Int) : List Int := (List.range T.length).map fun p => (flatN T p : Int)
theorem flatI_len (T : List Int) : (flatI T).length = T.length := by simp [flatI]
theorem flatI_nth {T : List Int} {p : Nat} (h : p < T.length) : nth (flatI T) p = flatN T p := by simp [nth, flatI, List.getD_eq_getElem?_getD, h]
theorem filter_len_congr {P Q : Nat → Bool} {l : List Nat} (h : ∀ x ∈ l, P x = Q x) : (l.filter P).length = (l.filter Q).length := by
  rw [List.filter_congr h]
theorem way_over {ns T : List Int} (hT : TreeIs ns T) {p o : Nat} (hp : p < ns.length) : o ∈ way T p ↔ o < ns.length ∧ Over (nth ns) o p := by
  unfold way
  rw [hT.1]
  exact (way_tree hT ns.length p hp (Nat.le_of_lt (dep_lt hp))).1 o
theorem over_side {f : Nat → Int} {o q p : Nat} (h : Over f o q) (k : Over f q p) : (p < q → p < o → q < o) ∧ (q < p → q < o → p < o) := by
  refine ⟨fun h1 h2 => Nat.lt_of_not_le fun z => ?_, fun h1 h2 => Nat.lt_of_not_le fun z => ?_⟩
  · rcases h with ⟨a, b⟩ | ⟨a, b⟩
    · rcases k with ⟨c, d⟩ | ⟨c, d⟩
      · omega
      · have := d o (by omega) a; have := b q a (Nat.le_refl _); omega
    · omega
  · rcases h with ⟨a, b⟩ | ⟨a, b⟩
    · omega
    · rcases k with ⟨c, d⟩ | ⟨c, d⟩
      · have := d o h2 z; have := b q (Nat.le_refl _) a; omega
      · omega
theorem flat_step {ns T : List Int} (hT : TreeIs ns T) {p q : Nat} (hp : p < ns.length) (hq : q < ns.length) (h : nth T p = q) (hO : Over (nth ns) q p) : flatN T p = flatN T q + if p < q then 1 else 0 := by
  unfold flatN
  rw [way_cons hT hp h, List.filter_cons]
  have e : ((way T q).filter fun o => decide (p < o)).length = ((way T q).filter fun o => decide (q < o)).length := by
    refine filter_len_congr fun o ho => ?_
    have ho' := ((way_over hT hq).mp ho).2
    have hs := over_side ho' hO
    have hne := hO.ne
    have hne2 := ho'.ne
    rw [Bool.eq_iff_iff, decide_eq_true_eq, decide_eq_true_eq]
    rcases Nat.lt_or_gt_of_ne hne with z | z
    · exact ⟨fun y => by omega, fun y => hs.2 z y⟩
    · exact ⟨fun y => hs.1 z y, fun y => by omega⟩
  by_cases z : p < q
  · rw [if_pos (by simpa using z), if_pos z, List.length_cons, e]
  · rw [if_neg (by simpa using z), if_neg z, e, Nat.add_zero]

theorem over_ind {ns T : List Int} (hT : TreeIs ns T) {R : Nat → Nat → Prop} (h1 : ∀ p q, p < ns.length → q < ns.length → nth T p = q → Over (nth ns) q p → R q p) (h2 : ∀ o q p, Over (nth ns) o q → Over (nth ns) q p → R o q → R q p → R o p) :
    ∀ d p o, p < ns.length → o < ns.length → dep (nth ns) ns.length p = d → Over (nth ns) o p → R o p := by
  intro d
  induction d with
  | zero =>
    intro p o hp ho hd hO
    rcases elder_cases hT hp with z | ⟨q, e, hq, hOq, hdq⟩
    · exact absurd hO (over_none hp ho (z ▸ hT.2 p hp))
    · omega
  | succ d ih =>
    intro p o hp ho hd hO
    rcases elder_cases hT hp with z | ⟨q, e, hq, hOq, hdq⟩
    · exact absurd hO (over_none hp ho (z ▸ hT.2 p hp))
    · rcases (over_iff hp ho (show ElderIs (nth ns) ns.length p (q : Int) from (show T.getD p 0 = (q : Int) from e) ▸ hT.2 p hp)).mp hO with y | y
      · rw [y]; exact h1 p q hp hq e hOq
      · exact h2 o q p y hOq (ih q o hq ho (by omega) y) (h1 p q hp hq e hOq)
theorem flat_over {ns T : List Int} (hT : TreeIs ns T) {p o : Nat} (hp : p < ns.length) (ho : o < ns.length) (hO : Over (nth ns) o p) : flatN T o ≤ flatN T p ∧ (p < o → flatN T o < flatN T p) := by
  refine over_ind hT (R := fun o p => flatN T o ≤ flatN T p ∧ (p < o → flatN T o < flatN T p)) (fun p q hp hq e hO => ?_) (fun o q p h1 h2 r1 r2 => ?_) _ p o hp ho rfl hO
  · have := flat_step hT hp hq e hO
    refine ⟨by omega, fun z => ?_⟩
    rw [if_pos z] at this; omega
  · refine ⟨Nat.le_trans r1.1 r2.1, fun z => ?_⟩
    by_cases y : p < q
    · have := r2.2 y; have := r1.1; omega
    · have hne := h2.ne
      have := r1.2 (by omega); have := r2.1; omega
theorem flat_tree {ns T : List Int} (hT : TreeIs ns T) : TreeIs (flatI T) T := by
  have eT : T.length = ns.length := hT.1
  refine ⟨by rw [flatI_len], fun p hp => ?_⟩
  rw [flatI_len, eT] at hp ⊢
  refine tree_row hT (fun q p hq hp hO => ?_) p hp
  have := flat_over hT hp hq hO
  rw [flatI_nth (by omega), flatI_nth (by omega)]
  exact ⟨fun _ => by omega, fun z => by have := this.2 z; omega⟩
end L2


set_option Elab.async false
set_option linter.all false
set_option maxRecDepth 100000
set_option maxHeartbeats 1000000
namespace L2
open PySem PySem.Spec PyProof.Rows PySem.W


section
variable {X : Cx} {pins : List (Addr × Obj)} {σ : St} {H : Hp} {s : Shared} {h' : Heap}

theorem Inv.turnedN {t' : Nat} {fp : List Addr} {T : Addr} {o : HO} (I : Inv X pins σ H s) (k : ∀ b u, b ∉ fp → s.heap.get? b = some u → h'.get? b = some u) (hf : ∀ b ∈ fp, FpOk X pins H b) (hT : s.heap.objs.size ≤ T) (new : ObjOk X.prog X.w (upd H T o) h' T o) :
    Inv X pins σ (upd H T o) { s with heap := h', toks := t' } := by
  have nit : ∀ b u, H b = some u → b ∉ fp := fun b u e z => by rw [(hf b z).1] at e; cases e
  have hfr : H T = none := I.hok.fresh hT
  have neT : ∀ b u, s.heap.get? b = some u → b ≠ T := fun b u e z => absurd (Heap.lt_size e) (by rw [z]; exact Nat.not_lt_of_le hT)
  have neH : ∀ b u, H b = some u → b ≠ T := fun b u e z => by rw [z, hfr] at e; cases e
  refine I.step (g' := s.gens) (d' := s.drawn) (ch := fp) (fun b hb => ?_) (fun b o _ _ hc e _ => k b o hc e) (fun b o _ _ hc e _ => ⟨o.slots, k b o hc e⟩) (fun b u _ e n => by rw [upd_ne (neT b u e)]; exact n)
    (fun b o hc e => ⟨o, k b o hc e⟩) (fun b xs e => by rw [upd_ne (neH b _ e)]; exact e) (fun b o u e => by rw [upd_ne (neH b _ e)]; exact e) (fun b ps e => ⟨#[], by rw [upd_ne (neH b _ e), e]; simp⟩) (fun m hm => ?_) (fun b u e => ?_) I.bare
  · obtain ⟨_, f1, _, f3, f4, f5⟩ := hf b hb
    exact ⟨f3, f1, f4, f5⟩
  · obtain ⟨o, es, ep, ho, r⟩ := hm
    exact ⟨o, es, ep, k _ o (fun z => (hf _ z).2.1 rfl) ho, r⟩
  · by_cases z : b = T
    · subst z
      rw [upd_same] at e; cases e
      exact new
    · rw [upd_ne z] at e
      refine (I.hok b u e).stay (fun c v hc q => k c v ?_ q) (fun c q => ?_) fun c xs q => ?_
      · rcases hc with y | y
        · rw [y]; exact nit b u e
        · exact nit c _ y
      · rw [upd_ne (neH _ _ q)]; exact q
      · rw [upd_ne (neH _ _ q)]; exact q

def Ite (K : Frag) (a : Addr) : It :=
  ⟨fun i H => ∃ xs x, SqL K H a xs ∧ xs[i]? = some x,
   fun i H v H' => ∃ p x, H p = none ∧ v = .ref p ∧ H' = upd H p (.tup [.int (i : Int), x]) ∧ ∀ xs, SqL K H a xs → xs[i]? = some x,
   fun i H => ∃ xs, SqL K H a xs ∧ xs.length = i⟩
def iEnum (K : Frag) (ta : TA) : TI := fun σ H R => ta σ H fun vs H1 => ∃ a xs, vs = [.ref a] ∧ SqL K H1 a xs ∧ R (Ite K a) H1
theorem boot_enum' : bootBuiltins "enumerate" = some (.type "enumerate") := by decide +kernel
end
end L2


set_option Elab.async false
set_option linter.all false
set_option maxRecDepth 100000
set_option maxHeartbeats 1000000
namespace L2
open PySem PySem.Spec PyProof.Rows PySem.W

theorem max_loopD {prog : Program} {w : World} {A : Around} {R : Result → Shared → Prop} {I : Addr} {fp wr : List Addr} {n : Nat} {P : Nat → Value → Prop} {St : Nat → Heap → Prop} (W : Walks prog w A.in1 I fp wr n P St) (bt : Nat → Nat → Bool) (hc : CmpOf prog w A.in1 .Gt P bt)
    (S : Addr) (hS : S ∉ fp) (dk : Str) (d : Value) (h0 : Heap) (s0 : Shared)
    (hR0 : n = 0 → ∀ h' tk, (∀ b o, b ∉ wr → b ≠ S → h0.get? b = some o → h'.get? b = some o) → R (.ok (.ret d)) { s0 with heap := h', toks := tk })
    (hR : 0 < n → ∀ v h' tk, P (argBest bt (n - 1)) v → (∀ b o, b ∉ wr → b ≠ S → h0.get? b = some o → h'.get? b = some o) → R (.ok (.ret v)) { s0 with heap := h', toks := tk }) :
    ∀ (k j : Nat) (h : Heap) (tk : Nat), n - j = k → j ≤ n → St j h → (∀ b o, b ∉ wr → b ≠ S → h0.get? b = some o → h.get? b = some o) →
      ((j = 0 ∧ ∃ c, h.get? S = some { cls := .type "list", data := .seq #[] c }) ∨ (0 < j ∧ ∃ vb c, P (argBest bt (j - 1)) vb ∧ h.get? S = some { cls := .type "list", data := .seq #[vb, vb] c })) →
      codeAny (model prog w) A (.builtin "max.loop" { pos := [.ref I, .none, .ref S], kw := [(dk, d)] }) R { s0 with heap := h, toks := tk } := by
  intro k
  induction k with
  | zero =>
    intro j h tk hk hj hst keep hb
    refine codeAny_builtin F.entry_max_loop ?_
    have hjn : j = n := by omega
    subst hjn
    rcases hb with ⟨hj0, c, hb⟩ | ⟨hj0, vb, c, hvb, hb⟩
    · show wpAny _ _ (_ >>= _) _ _ _
      refine wpAny_bind (wpAny_seqItems hb rfl ?_)
      refine wpAny_bind (wpAny_tryCatch (W.done _ _ _ hst fun h' tk' kp => ?_))
      refine wpAny_bind (wpAny_rule (wpAny_pure ?_))
      exact hR0 hj0 h' tk' fun b o hb1 hb2 e => kp b o hb1 (keep b o hb1 hb2 e)
    · show wpAny _ _ (_ >>= _) _ _ _
      refine wpAny_bind (wpAny_seqItems hb rfl ?_)
      refine wpAny_bind (wpAny_tryCatch (W.done _ _ _ hst fun h' tk' kp => ?_))
      have hS' : S ∉ wr := fun z => hS (W.sub S z)
      have hb' := kp S _ hS' hb
      refine wpAny_bind (wpAny_updateSeq hb' rfl ?_ (show 2 ≤ sizeLine by decide) (Nat.zero_le _))
      refine wpAny_bind (wpAny_letGo (wpAny_pure ?_))
      refine hR hj0 vb _ tk' hvb fun b o hb1 hb2 e => ?_
      exact (Heap.get?_update_other _ _ (Ne.symm hb2)).trans (kp b o hb1 (keep b o hb1 hb2 e))
  | succ k ih =>
    intro j h tk hk hj hst keep hb
    refine codeAny_builtin F.entry_max_loop ?_
    have hjn : j < n := by omega
    have hS' : S ∉ wr := fun z => hS (W.sub S z)
    rcases hb with ⟨hj0, c, hb⟩ | ⟨hj0, vb, c, hvb, hb⟩
    · show wpAny _ _ (_ >>= _) _ _ _
      refine wpAny_bind (wpAny_seqItems hb rfl ?_)
      refine wpAny_bind (wpAny_tryCatch (W.item j _ _ _ hjn hst fun v h' tk' hv hst' kp => ?_))
      have hb' := kp S _ hS' hb
      refine wpAny_bind (wpAny_pure ?_)
      refine wpAny_bind (wpAny_updateSeq hb' rfl ?_ (Nat.zero_le _) (show 2 ≤ sizeLine + 1 by decide))
      refine wpAny_pure ⟨rfl, ?_⟩
      have e9 := PySem.IsL.update hb' (fun _ => #[v, v])
      refine ih (j + 1) _ tk' (by omega) (by omega) (W.frame _ _ _ hst' fun b hb1 o e => ?_) (fun b o hb1 hb2 e => ?_) (.inr ⟨by omega, v, _, ?_, e9⟩)
      · exact (Heap.get?_update_other _ _ (show S ≠ b from fun z => hS (by rw [z]; exact hb1))).trans e
      · exact (Heap.get?_update_other _ _ (Ne.symm hb2)).trans (kp b o hb1 (keep b o hb1 hb2 e))
      · rw [hj0]; rw [hj0] at hv; exact hv
    · show wpAny _ _ (_ >>= _) _ _ _
      refine wpAny_bind (wpAny_seqItems hb rfl ?_)
      refine wpAny_bind (wpAny_tryCatch (W.item j _ _ _ hjn hst fun v h' tk' hv hst' kp => ?_))
      have hb' := kp S _ hS' hb
      obtain ⟨j', rfl⟩ : ∃ j', j = j' + 1 := ⟨j - 1, by omega⟩
      have hvb' : P (argBest bt j') vb := hvb
      have eA : argBest bt (j' + 1) = if bt (j' + 1) (argBest bt j') = true then j' + 1 else argBest bt j' := rfl
      refine wpAny_bind (wpAny_pure ?_)
      refine wpAny_bind (wpAny_tryCatch (wpAny_holding (wpAny_bind (hc (j' + 1) (argBest bt j') v vb _ _ _ hv hvb' (wpAny_bind (wpAny_holding (wpAny_truthy_bool (wpAny_bind (wpAny_letGo (wpAny_pure ?_))))))))))
      by_cases z : bt (j' + 1) (argBest bt j') = true
      · rw [if_pos z]
        refine wpAny_bind (wpAny_updateSeq hb' rfl ?_ (show 2 ≤ sizeLine by decide) (show 2 ≤ sizeLine + 1 by decide))
        refine wpAny_bind (wpAny_letGo (wpAny_pure ⟨rfl, ?_⟩))
        have e9 := PySem.IsL.update hb' (fun _ => #[v, v])
        refine ih (j' + 1 + 1) _ tk' (by omega) (by omega) (W.frame _ _ _ hst' fun b hb1 o e => ?_) (fun b o hb1 hb2 e => ?_) (.inr ⟨by omega, v, _, ?_, e9⟩)
        · exact (Heap.get?_update_other _ _ (show S ≠ b from fun z => hS (by rw [z]; exact hb1))).trans e
        · exact (Heap.get?_update_other _ _ (Ne.symm hb2)).trans (kp b o hb1 (keep b o hb1 hb2 e))
        · show P (argBest bt (j' + 1)) v
          rw [eA, if_pos z]; exact hv
      · rw [if_neg z]
        refine wpAny_bind (wpAny_letGo (wpAny_pure ⟨rfl, ?_⟩))
        refine ih (j' + 1 + 1) _ tk' (by omega) (by omega) hst' (fun b o hb1 hb2 e => kp b o hb1 (keep b o hb1 hb2 e)) (.inr ⟨by omega, vb, _, ?_, hb'⟩)
        show P (argBest bt (j' + 1)) vb
        rw [eA, if_neg z]; exact hvb'
theorem args_maxD (a d : Value) : argsOk "max" { pos := [a], kw := [("default", d)] } := by first | rfl | decide
theorem call_maxD {prog : Program} {w : World} {A : Around} {E Q : Value → Shared → Prop} {s : Shared} {l : Addr} {xs : Array (Int × Tok)} {d : Value} (hA : A.handled = none) (hl : s.heap.IsList l (intItems xs))
    (q0 : xs.size = 0 → ∀ h' tk, (∀ b o, s.heap.get? b = some o → h'.get? b = some o) → Q d { s with heap := h', toks := tk })
    (q1 : 0 < xs.size → ∀ v h' tk, (intItems xs)[argBest (fun i j => decide (numAt xs i > numAt xs j)) (xs.size - 1)]? = some v → (∀ b o, s.heap.get? b = some o → h'.get? b = some o) → Q v { s with heap := h', toks := tk }) :
    wpAny (model prog w) A (call (.builtin "max") [.ref l] [("default", d)]) Q E s := by
  refine wpAny_call (codeAny_call_builtin_code rfl ?_)
  have hck : checkBuiltinCall "max" { pos := [.ref l], kw := [("default", d)] } = pure () := by
    unfold checkBuiltinCall
    rw [F.kind_max]
    exact args_maxD (.ref l) d
  rw [hck]
  refine wpAny_pure (codeAny_builtin F.entry_max ?_)
  show wpAny _ _ (_ >>= _) _ _ _
  have hbp : Builtin.Builtins.bindParams "max" ["key", "default"] 0 { kw := [("default", d)] } = pure [none, some d] := by
    first | rfl | with_unfolding_all rfl | (simp [Builtin.Builtins.bindParams]; done)
  refine wpAny_bind (wpAny_of_eq hbp (wpAny_bind (wpAny_pure (wpAny_bind (wpAny_pyIter_list hl ?_)))))
  refine wpAny_bind (wpAny_newObj_type ?_)
  refine wpAny_pure ⟨rfl, ?_⟩
  have hlt : l < s.heap.objs.size := by obtain ⟨o, e, _⟩ := hl; exact Heap.lt_size e
  have n1 : l ≠ s.heap.objs.size := Nat.ne_of_lt hlt
  have esz : (s.heap.push { cls := .type "list_iterator", data := .fields #[.ref l, .int 0 0] }).objs.size = s.heap.objs.size + 1 := Heap.size_push _ _
  have old : ∀ b o, s.heap.get? b = some o → ((s.heap.push { cls := .type "list_iterator", data := .fields #[.ref l, .int 0 0] }).push { cls := .type "list", data := .seq #[] }).get? b = some o := fun b o e => Heap.get?_push_of_some _ (Heap.get?_push_of_some _ e)
  have ne : ∀ b o, s.heap.get? b = some o → b ∉ [s.heap.objs.size] ∧ b ≠ (s.heap.push { cls := .type "list_iterator", data := .fields #[.ref l, .int 0 0] }).objs.size := fun b o e => by
    have := Heap.lt_size e
    refine ⟨fun z => ?_, fun z => ?_⟩
    · have : b = s.heap.objs.size := by simpa using z
      exact absurd (Heap.lt_size e) (by rw [this]; exact Nat.lt_irrefl _)
    · rw [z, esz] at this
      exact absurd this (Nat.not_lt_of_le (Nat.le_succ _))
  have W := Walks.list (prog := prog) (w := w) (A := A.in1) hA s.heap.objs.size l n1 (intItems xs)
  have hitm : (intItems xs).size = xs.size := by simp [intItems]
  refine max_loopD W (fun i j => decide (numAt xs i > numAt xs j)) (CmpOf.ints_gt (numAt xs) fun i v h => intItems_at h) _ ?_ "default" d _ s (fun z h' tk kp => ?_) (fun z v h' tk hv kp => ?_) (intItems xs).size 0 _ _ rfl (Nat.zero_le _) ⟨?_, ?_⟩ (fun b o _ _ e => e) (.inl ⟨rfl, _, Heap.get?_push_size _ rfl⟩)
  · rw [esz]
    simp only [List.mem_cons, List.not_mem_nil, or_false, not_or]
    exact ⟨Nat.ne_of_gt (Nat.lt_succ_self _), Nat.ne_of_gt (Nat.lt_succ_of_lt hlt)⟩
  · exact q0 (by omega) h' tk fun b o e => kp b o (ne b o e).1 (ne b o e).2 (old b o e)
  · exact q1 (by omega) v h' tk (by rw [← hitm]; exact hv) fun b o e => kp b o (ne b o e).1 (ne b o e).2 (old b o e)
  · exact ⟨_, Heap.get?_push_of_some _ (Heap.get?_push_size _ rfl), rfl, rfl⟩
  · obtain ⟨o, e, r⟩ := hl
    exact ⟨o, old _ _ e, r⟩
theorem min_loopD {prog : Program} {w : World} {A : Around} {R : Result → Shared → Prop} {I : Addr} {fp wr : List Addr} {n : Nat} {P : Nat → Value → Prop} {St : Nat → Heap → Prop} (W : Walks prog w A.in1 I fp wr n P St) (bt : Nat → Nat → Bool) (hc : CmpOf prog w A.in1 .Lt P bt)
    (S : Addr) (hS : S ∉ fp) (dk : Str) (d : Value) (h0 : Heap) (s0 : Shared)
    (hR0 : n = 0 → ∀ h' tk, (∀ b o, b ∉ wr → b ≠ S → h0.get? b = some o → h'.get? b = some o) → R (.ok (.ret d)) { s0 with heap := h', toks := tk })
    (hR : 0 < n → ∀ v h' tk, P (argBest bt (n - 1)) v → (∀ b o, b ∉ wr → b ≠ S → h0.get? b = some o → h'.get? b = some o) → R (.ok (.ret v)) { s0 with heap := h', toks := tk }) :
    ∀ (k j : Nat) (h : Heap) (tk : Nat), n - j = k → j ≤ n → St j h → (∀ b o, b ∉ wr → b ≠ S → h0.get? b = some o → h.get? b = some o) →
      ((j = 0 ∧ ∃ c, h.get? S = some { cls := .type "list", data := .seq #[] c }) ∨ (0 < j ∧ ∃ vb c, P (argBest bt (j - 1)) vb ∧ h.get? S = some { cls := .type "list", data := .seq #[vb, vb] c })) →
      codeAny (model prog w) A (.builtin "min.loop" { pos := [.ref I, .none, .ref S], kw := [(dk, d)] }) R { s0 with heap := h, toks := tk } := by
  intro k
  induction k with
  | zero =>
    intro j h tk hk hj hst keep hb
    refine codeAny_builtin F.entry_min_loop ?_
    have hjn : j = n := by omega
    subst hjn
    rcases hb with ⟨hj0, c, hb⟩ | ⟨hj0, vb, c, hvb, hb⟩
    · show wpAny _ _ (_ >>= _) _ _ _
      refine wpAny_bind (wpAny_seqItems hb rfl ?_)
      refine wpAny_bind (wpAny_tryCatch (W.done _ _ _ hst fun h' tk' kp => ?_))
      refine wpAny_bind (wpAny_rule (wpAny_pure ?_))
      exact hR0 hj0 h' tk' fun b o hb1 hb2 e => kp b o hb1 (keep b o hb1 hb2 e)
    · show wpAny _ _ (_ >>= _) _ _ _
      refine wpAny_bind (wpAny_seqItems hb rfl ?_)
      refine wpAny_bind (wpAny_tryCatch (W.done _ _ _ hst fun h' tk' kp => ?_))
      have hS' : S ∉ wr := fun z => hS (W.sub S z)
      have hb' := kp S _ hS' hb
      refine wpAny_bind (wpAny_updateSeq hb' rfl ?_ (show 2 ≤ sizeLine by decide) (Nat.zero_le _))
      refine wpAny_bind (wpAny_letGo (wpAny_pure ?_))
      refine hR hj0 vb _ tk' hvb fun b o hb1 hb2 e => ?_
      exact (Heap.get?_update_other _ _ (Ne.symm hb2)).trans (kp b o hb1 (keep b o hb1 hb2 e))
  | succ k ih =>
    intro j h tk hk hj hst keep hb
    refine codeAny_builtin F.entry_min_loop ?_
    have hjn : j < n := by omega
    have hS' : S ∉ wr := fun z => hS (W.sub S z)
    rcases hb with ⟨hj0, c, hb⟩ | ⟨hj0, vb, c, hvb, hb⟩
    · show wpAny _ _ (_ >>= _) _ _ _
      refine wpAny_bind (wpAny_seqItems hb rfl ?_)
      refine wpAny_bind (wpAny_tryCatch (W.item j _ _ _ hjn hst fun v h' tk' hv hst' kp => ?_))
      have hb' := kp S _ hS' hb
      refine wpAny_bind (wpAny_pure ?_)
      refine wpAny_bind (wpAny_updateSeq hb' rfl ?_ (Nat.zero_le _) (show 2 ≤ sizeLine + 1 by decide))
      refine wpAny_pure ⟨rfl, ?_⟩
      have e9 := PySem.IsL.update hb' (fun _ => #[v, v])
      refine ih (j + 1) _ tk' (by omega) (by omega) (W.frame _ _ _ hst' fun b hb1 o e => ?_) (fun b o hb1 hb2 e => ?_) (.inr ⟨by omega, v, _, ?_, e9⟩)
      · exact (Heap.get?_update_other _ _ (show S ≠ b from fun z => hS (by rw [z]; exact hb1))).trans e
      · exact (Heap.get?_update_other _ _ (Ne.symm hb2)).trans (kp b o hb1 (keep b o hb1 hb2 e))
      · rw [hj0]; rw [hj0] at hv; exact hv
    · show wpAny _ _ (_ >>= _) _ _ _
      refine wpAny_bind (wpAny_seqItems hb rfl ?_)
      refine wpAny_bind (wpAny_tryCatch (W.item j _ _ _ hjn hst fun v h' tk' hv hst' kp => ?_))
      have hb' := kp S _ hS' hb
      obtain ⟨j', rfl⟩ : ∃ j', j = j' + 1 := ⟨j - 1, by omega⟩
      have hvb' : P (argBest bt j') vb := hvb
      have eA : argBest bt (j' + 1) = if bt (j' + 1) (argBest bt j') = true then j' + 1 else argBest bt j' := rfl
      refine wpAny_bind (wpAny_pure ?_)
      refine wpAny_bind (wpAny_tryCatch (wpAny_holding (wpAny_bind (hc (j' + 1) (argBest bt j') v vb _ _ _ hv hvb' (wpAny_bind (wpAny_holding (wpAny_truthy_bool (wpAny_bind (wpAny_letGo (wpAny_pure ?_))))))))))
      by_cases z : bt (j' + 1) (argBest bt j') = true
      · rw [if_pos z]
        refine wpAny_bind (wpAny_updateSeq hb' rfl ?_ (show 2 ≤ sizeLine by decide) (show 2 ≤ sizeLine + 1 by decide))
        refine wpAny_bind (wpAny_letGo (wpAny_pure ⟨rfl, ?_⟩))
        have e9 := PySem.IsL.update hb' (fun _ => #[v, v])
        refine ih (j' + 1 + 1) _ tk' (by omega) (by omega) (W.frame _ _ _ hst' fun b hb1 o e => ?_) (fun b o hb1 hb2 e => ?_) (.inr ⟨by omega, v, _, ?_, e9⟩)
        · exact (Heap.get?_update_other _ _ (show S ≠ b from fun z => hS (by rw [z]; exact hb1))).trans e
        · exact (Heap.get?_update_other _ _ (Ne.symm hb2)).trans (kp b o hb1 (keep b o hb1 hb2 e))
        · show P (argBest bt (j' + 1)) v
          rw [eA, if_pos z]; exact hv
      · rw [if_neg z]
        refine wpAny_bind (wpAny_letGo (wpAny_pure ⟨rfl, ?_⟩))
        refine ih (j' + 1 + 1) _ tk' (by omega) (by omega) hst' (fun b o hb1 hb2 e => kp b o hb1 (keep b o hb1 hb2 e)) (.inr ⟨by omega, vb, _, ?_, hb'⟩)
        show P (argBest bt (j' + 1)) vb
        rw [eA, if_neg z]; exact hvb'
theorem args_minD (a d : Value) : argsOk "min" { pos := [a], kw := [("default", d)] } := by first | rfl | decide
theorem call_minD {prog : Program} {w : World} {A : Around} {E Q : Value → Shared → Prop} {s : Shared} {l : Addr} {xs : Array (Int × Tok)} {d : Value} (hA : A.handled = none) (hl : s.heap.IsList l (intItems xs))
    (q0 : xs.size = 0 → ∀ h' tk, (∀ b o, s.heap.get? b = some o → h'.get? b = some o) → Q d { s with heap := h', toks := tk })
    (q1 : 0 < xs.size → ∀ v h' tk, (intItems xs)[argBest (fun i j => decide (numAt xs i < numAt xs j)) (xs.size - 1)]? = some v → (∀ b o, s.heap.get? b = some o → h'.get? b = some o) → Q v { s with heap := h', toks := tk }) :
    wpAny (model prog w) A (call (.builtin "min") [.ref l] [("default", d)]) Q E s := by
  refine wpAny_call (codeAny_call_builtin_code rfl ?_)
  have hck : checkBuiltinCall "min" { pos := [.ref l], kw := [("default", d)] } = pure () := by
    unfold checkBuiltinCall
    rw [F.kind_min]
    exact args_minD (.ref l) d
  rw [hck]
  refine wpAny_pure (codeAny_builtin F.entry_min ?_)
  show wpAny _ _ (_ >>= _) _ _ _
  have hbp : Builtin.Builtins.bindParams "min" ["key", "default"] 0 { kw := [("default", d)] } = pure [none, some d] := by
    first | rfl | with_unfolding_all rfl | (simp [Builtin.Builtins.bindParams]; done)
  refine wpAny_bind (wpAny_of_eq hbp (wpAny_bind (wpAny_pure (wpAny_bind (wpAny_pyIter_list hl ?_)))))
  refine wpAny_bind (wpAny_newObj_type ?_)
  refine wpAny_pure ⟨rfl, ?_⟩
  have hlt : l < s.heap.objs.size := by obtain ⟨o, e, _⟩ := hl; exact Heap.lt_size e
  have n1 : l ≠ s.heap.objs.size := Nat.ne_of_lt hlt
  have esz : (s.heap.push { cls := .type "list_iterator", data := .fields #[.ref l, .int 0 0] }).objs.size = s.heap.objs.size + 1 := Heap.size_push _ _
  have old : ∀ b o, s.heap.get? b = some o → ((s.heap.push { cls := .type "list_iterator", data := .fields #[.ref l, .int 0 0] }).push { cls := .type "list", data := .seq #[] }).get? b = some o := fun b o e => Heap.get?_push_of_some _ (Heap.get?_push_of_some _ e)
  have ne : ∀ b o, s.heap.get? b = some o → b ∉ [s.heap.objs.size] ∧ b ≠ (s.heap.push { cls := .type "list_iterator", data := .fields #[.ref l, .int 0 0] }).objs.size := fun b o e => by
    have := Heap.lt_size e
    refine ⟨fun z => ?_, fun z => ?_⟩
    · have : b = s.heap.objs.size := by simpa using z
      exact absurd (Heap.lt_size e) (by rw [this]; exact Nat.lt_irrefl _)
    · rw [z, esz] at this
      exact absurd this (Nat.not_lt_of_le (Nat.le_succ _))
  have W := Walks.list (prog := prog) (w := w) (A := A.in1) hA s.heap.objs.size l n1 (intItems xs)
  have hitm : (intItems xs).size = xs.size := by simp [intItems]
  refine min_loopD W (fun i j => decide (numAt xs i < numAt xs j)) (CmpOf.ints_lt (numAt xs) fun i v h => intItems_at h) _ ?_ "default" d _ s (fun z h' tk kp => ?_) (fun z v h' tk hv kp => ?_) (intItems xs).size 0 _ _ rfl (Nat.zero_le _) ⟨?_, ?_⟩ (fun b o _ _ e => e) (.inl ⟨rfl, _, Heap.get?_push_size _ rfl⟩)
  · rw [esz]
    simp only [List.mem_cons, List.not_mem_nil, or_false, not_or]
    exact ⟨Nat.ne_of_gt (Nat.lt_succ_self _), Nat.ne_of_gt (Nat.lt_succ_of_lt hlt)⟩
  · exact q0 (by omega) h' tk fun b o e => kp b o (ne b o e).1 (ne b o e).2 (old b o e)
  · exact q1 (by omega) v h' tk (by rw [← hitm]; exact hv) fun b o e => kp b o (ne b o e).1 (ne b o e).2 (old b o e)
  · exact ⟨_, Heap.get?_push_of_some _ (Heap.get?_push_size _ rfl), rfl, rfl⟩
  · obtain ⟨o, e, r⟩ := hl
    exact ⟨o, old _ _ e, r⟩
section
variable {X : Cx}

def tMaxD (K : Frag) (ta td : TA) : TE := fun σ H Q => ta σ H fun vs H1 => td σ H1 fun zs H2 => ∃ (p : Addr) (ns : List Int) (d : Int), vs = [.ref p] ∧ zs = [.int d] ∧ SqL K H2 p (ns.map V.int) ∧ (ns = [] → Q (.int d) H2) ∧ (ns ≠ [] → ∀ m, m ∈ ns → (∀ a ∈ ns, a ≤ m) → Q (.int m) H2)
theorem pe_maxD {K : Frag} {e : Expr} {kws : List Keyword} {ta td : TA} {p pos : Pos} (hK : X.K = K) (hc : X.calm = true) (hg : Gl X "max") (hm : X.mg "max" = none) (ha : PA X [e] ta) (hd : PK X kws td)
    (he : starEach [e] X.env = (false, eval e X.env) :: starEach [] X.env := by rfl) (hpl : (backTo pos (starEach [e] X.env)).any (·.1) = false := by rfl) (hall : (backToKw pos (keywordEach kws X.env)).all (·.1.isSome) = true := by rfl)
    (hnn : (backToKw pos (keywordEach kws X.env)).any (·.1.isNone) = false := by rfl) (hks : (backToKw pos (keywordEach kws X.env)).filterMap (·.1) = [(("default" : String) : Str)] := by rfl) (hb : backTo pos (starEach [e] X.env) = (false, eval e X.env) :: backTo pos (starEach [] X.env) := by rfl) :
    PE X (.Call (.Name "max" p) [e] kws pos) (tMaxD K ta td) := by
  subst hK
  intro pins s σ H Q I h
  refine wpAny_Call_Name_kw (ld_blt I hg hm bt_max ?_)
  refine PyProof.Rows.callWith_kw (thn (ha pos pins s σ H _ I h) fun us s1 ⟨vs, H1, I1, r1, q1⟩ => ?_) hb hpl hall hnn
  refine thn (hd pos pins s1 σ H1 _ I1 q1) fun ws s2 ⟨zs, H2, I2, r2, pp, ns, d, e1, e2, hp, q0, qm⟩ => ?_
  subst e1 e2
  obtain ⟨u, rfl, ru⟩ := r1.one
  obtain ⟨v, rfl, rv⟩ := r2.one
  cases (show u = Value.ref pp from ru)
  rw [hks]
  obtain ⟨its, rr, pl, hz⟩ := I2.list hp
  obtain ⟨ys, e1, e2⟩ := ints_of rr
  have hsz : ys.size = ns.length := by
    have := congrArg List.length e2
    rw [List.length_map, Array.length_toList] at this
    exact this
  refine call_maxD (xs := ys) (I2.ok.hd hc) (e1 ▸ pl.isList) (fun z h' tk k => ?_) (fun z v' h' tk hv k => ?_)
  · exact ⟨.int d, H2, I2.kept k, rv, q0 (List.length_eq_zero_iff.mp (by omega))⟩
  · obtain ⟨t, rfl⟩ := intItems_at hv
    obtain ⟨h1, h2⟩ := argBest_gt (numAt ys) (ys.size - 1)
    refine ⟨.int _, H2, I2.kept k, ⟨t, rfl⟩, qm (fun y => by have h3 : ys.size = 0 := (by rw [hsz, y]; rfl); omega) _ ?_ fun a ha => ?_⟩
    · rw [numAt_eq, e2]; exact getD_mem (by omega)
    · obtain ⟨j, hj, rfl⟩ := mem_getD ha
      rw [← e2, ← numAt_eq]; exact h2 j (by omega)
end
section
variable {X : Cx}

def tMinD (K : Frag) (ta td : TA) : TE := fun σ H Q => ta σ H fun vs H1 => td σ H1 fun zs H2 => ∃ (p : Addr) (ns : List Int) (d : Int), vs = [.ref p] ∧ zs = [.int d] ∧ SqL K H2 p (ns.map V.int) ∧ (ns = [] → Q (.int d) H2) ∧ (ns ≠ [] → ∀ m, m ∈ ns → (∀ a ∈ ns, m ≤ a) → Q (.int m) H2)
theorem pe_minD {K : Frag} {e : Expr} {kws : List Keyword} {ta td : TA} {p pos : Pos} (hK : X.K = K) (hc : X.calm = true) (hg : Gl X "min") (hm : X.mg "min" = none) (ha : PA X [e] ta) (hd : PK X kws td)
    (he : starEach [e] X.env = (false, eval e X.env) :: starEach [] X.env := by rfl) (hpl : (backTo pos (starEach [e] X.env)).any (·.1) = false := by rfl) (hall : (backToKw pos (keywordEach kws X.env)).all (·.1.isSome) = true := by rfl)
    (hnn : (backToKw pos (keywordEach kws X.env)).any (·.1.isNone) = false := by rfl) (hks : (backToKw pos (keywordEach kws X.env)).filterMap (·.1) = [(("default" : String) : Str)] := by rfl) (hb : backTo pos (starEach [e] X.env) = (false, eval e X.env) :: backTo pos (starEach [] X.env) := by rfl) :
    PE X (.Call (.Name "min" p) [e] kws pos) (tMinD K ta td) := by
  subst hK
  intro pins s σ H Q I h
  refine wpAny_Call_Name_kw (ld_blt I hg hm bt_min ?_)
  refine PyProof.Rows.callWith_kw (thn (ha pos pins s σ H _ I h) fun us s1 ⟨vs, H1, I1, r1, q1⟩ => ?_) hb hpl hall hnn
  refine thn (hd pos pins s1 σ H1 _ I1 q1) fun ws s2 ⟨zs, H2, I2, r2, pp, ns, d, e1, e2, hp, q0, qm⟩ => ?_
  subst e1 e2
  obtain ⟨u, rfl, ru⟩ := r1.one
  obtain ⟨v, rfl, rv⟩ := r2.one
  cases (show u = Value.ref pp from ru)
  rw [hks]
  obtain ⟨its, rr, pl, hz⟩ := I2.list hp
  obtain ⟨ys, e1, e2⟩ := ints_of rr
  have hsz : ys.size = ns.length := by
    have := congrArg List.length e2
    rw [List.length_map, Array.length_toList] at this
    exact this
  refine call_minD (xs := ys) (I2.ok.hd hc) (e1 ▸ pl.isList) (fun z h' tk k => ?_) (fun z v' h' tk hv k => ?_)
  · exact ⟨.int d, H2, I2.kept k, rv, q0 (List.length_eq_zero_iff.mp (by omega))⟩
  · obtain ⟨t, rfl⟩ := intItems_at hv
    obtain ⟨h1, h2⟩ := argBest_lt (numAt ys) (ys.size - 1)
    refine ⟨.int _, H2, I2.kept k, ⟨t, rfl⟩, qm (fun y => by have h3 : ys.size = 0 := (by rw [hsz, y]; rfl); omega) _ ?_ fun a ha => ?_⟩
    · rw [numAt_eq, e2]; exact getD_mem (by omega)
    · obtain ⟨j, hj, rfl⟩ := mem_getD ha
      rw [← e2, ← numAt_eq]; exact h2 j (by omega)
end
end L2


set_option Elab.async false
set_option linter.all false
set_option maxRecDepth 100000
set_option maxHeartbeats 1000000
namespace L2
open PySem PySem.Spec PyProof.Rows PySem.W
section
variable {X : Cx}

def rIndexF (K : Frag) : V → List V → Hp → VK → Prop := fun x vs H Q => ∃ (l : Addr) (xs : List V) (y : V) (j : Nat), x = .ref l ∧ vs = [y] ∧ SqL K H l xs ∧ xs.length ≤ 100000 ∧ xs.all flatV = true ∧ flatV y = true ∧ (∃ z, xs[j]? = some z ∧ eqV z y = true) ∧ (∀ (i : Nat) (z : V), i < j → xs[i]? = some z → eqV z y = false) ∧ Q (.int (j : Nat)) H
end
end L2


set_option Elab.async false
set_option linter.all false
set_option maxRecDepth 100000
set_option maxHeartbeats 1000000
namespace L2
open PySem PySem.Spec PyProof.Rows PySem.W

def LowsEq (f g : Nat → Int) (n : Nat) : Prop := ∀ a c, a + c < n → lowF f a c = lowF g a c
theorem LowsEq.symm {f g : Nat → Int} {n : Nat} (h : LowsEq f g n) : LowsEq g f n := fun a c k => (h a c k).symm
theorem LowsEq.over {f g : Nat → Int} {n o p : Nat} (h : LowsEq f g n) (ho : o < n) (hp : p < n) (k : Over f o p) : Over g o p := by
  rcases k with ⟨z, k⟩ | ⟨z, k⟩
  · have i1 : IsLow f o (o + (p - o)) o := ⟨Nat.le_refl _, by omega, fun q q1 q2 => by omega, fun q q1 q2 => k q q1 (by omega)⟩
    have e := h o (p - o) (by omega)
    rw [(lowF_is f o (p - o)).unique i1] at e
    have i2 := lowF_is g o (p - o)
    rw [← e] at i2
    exact .inl ⟨z, fun r r1 r2 => i2.2.2.2 r r1 (by omega)⟩
  · have i1 : IsLow f p (p + (o - p)) o := ⟨by omega, by omega, fun q q1 q2 => k q q1 q2, fun q q1 q2 => by omega⟩
    have e := h p (o - p) (by omega)
    rw [(lowF_is f p (o - p)).unique i1] at e
    have i2 := lowF_is g p (o - p)
    rw [← e] at i2
    exact .inr ⟨z, fun r r1 r2 => i2.2.2.1 r r1 (by omega)⟩
theorem LowsEq.tree {ns ms T : List Int} (hT : TreeIs ns T) (hl : ms.length = ns.length) (h : LowsEq (nth ns) (nth ms) ns.length) : TreeIs ms T := by
  refine ⟨by rw [hl]; exact hT.1, fun p hp => ?_⟩
  rw [hl] at hp ⊢
  refine tree_row hT (fun q p hq hp hO => ?_) p hp
  rcases h.over hq hp hO with ⟨z, k⟩ | ⟨z, k⟩
  · exact ⟨fun _ => k p z (Nat.le_refl _), fun y => by omega⟩
  · exact ⟨fun y => by omega, fun _ => k p (Nat.le_refl _) z⟩
def cutN (ns : List Int) (a c : Nat) : List Int := (ns.drop a).take c
theorem cutN_len {ns : List Int} {a c : Nat} (h : a + c ≤ ns.length) : (cutN ns a c).length = c := by
  unfold cutN; rw [List.length_take, List.length_drop]; omega
theorem cutN_nth {ns : List Int} {a c i : Nat} (h : i < c) : nth (cutN ns a c) i = nth ns (a + i) := by
  simp [nth, cutN, List.getD_eq_getElem?_getD, List.getElem?_take, List.getElem?_drop, h]
theorem LowsEq.mono {f g : Nat → Int} {n m : Nat} (h : LowsEq f g n) (k : m ≤ n) : LowsEq f g m := fun a c z => h a c (by omega)

def PartAt (f g : Nat → Int) (x y size a m : Nat) : Prop := a + m < size ∧ (lowF f (x + a) m : Int) - (x + a : Nat) ≠ (lowF g (y + a) m : Int) - (y + a : Nat) ∧ (∀ m', m' < m → ∀ a', a' + m' < size → (lowF f (x + a') m' : Int) - (x + a' : Nat) = (lowF g (y + a') m' : Int) - (y + a' : Nat)) ∧
  ∀ a', a' < a → (lowF f (x + a') m : Int) - (x + a' : Nat) = (lowF g (y + a') m : Int) - (y + a' : Nat)
theorem first_not {P : Nat → Prop} : ∀ n, ¬ (∀ j, j < n → P j) → ∃ j, j < n ∧ ¬ P j ∧ ∀ i, i < j → P i
  | 0, h => absurd (fun j hj => by omega) h
  | n + 1, h => by
    by_cases z : ∀ j, j < n → P j
    · exact ⟨n, by omega, fun y => h fun j hj => by
        by_cases e : j = n
        · rw [e]; exact y
        · exact z j (by omega), z⟩
    · obtain ⟨j, h1, h2, h3⟩ := first_not n z
      exact ⟨j, by omega, h2, h3⟩
theorem ifR {c : TT} {t u : TS} {D : Ends} {σ : St} {H : Hp} (T U : Hp → Prop) (ht : ∀ H1, T H1 → t D σ H1) (hu : ∀ H1, U H1 → u D σ H1) (hc : ∀ B : Bool → Hp → Prop, (∀ H1, T H1 → B true H1) → (∀ H1, U H1 → B false H1) → c σ H B) : tIfS c t u D σ H :=
  hc _ (fun H1 h => by rw [if_pos rfl]; exact ht H1 h) (fun H1 h => by rw [if_neg (by simp)]; exact hu H1 h)
end L2


set_option Elab.async false
set_option linter.all false
set_option maxRecDepth 100000
set_option maxHeartbeats 1000000
namespace L2
open PySem PySem.Spec PyProof.Rows PySem.W
section
variable {X : Cx}

def rSorted (K : Frag) : List V → Hp → VK → Prop := fun xs H Q => ∃ (p : Addr) (ns : List Int), xs = [.ref p] ∧ SqL K H p (ns.map V.int) ∧ ns.length < 64 ∧ ∀ (ns' : List Int) (l : Addr), ns'.Perm ns → ns'.Pairwise (· ≤ ·) → H l = none → Q (.ref l) (upd H l (.lst (ns'.map V.int)))
def rOr (r1 r2 : R2) : R2 := fun x y H Q => r1 x y H Q ∨ r2 x y H Q
theorem bt_sorted : bootBuiltins "sorted" = some (.builtin "sorted") := by decide +kernel
end

theorem partAt_zero {f g : Nat → Int} {n a m : Nat} (h1 : a + m < n) (h2 : lowF f a m ≠ lowF g a m) (h3 : ∀ m', m' < m → ∀ a', a' + m' < n → lowF f a' m' = lowF g a' m') (h4 : ∀ a', a' < a → lowF f a' m = lowF g a' m) : PartAt f g 0 0 n a m := by
  refine ⟨h1, ?_, fun m' hm' a' ha' => ?_, fun a' ha' => ?_⟩
  · rw [Nat.zero_add]; omega
  · rw [Nat.zero_add, h3 m' hm' a' ha']
  · rw [Nat.zero_add, h4 a' ha']
theorem PartAt.low {f g : Nat → Int} {n a m : Nat} (h : PartAt f g 0 0 n a m) : a + m < n ∧ lowF f a m ≠ lowF g a m ∧ (∀ m', m' < m → ∀ a', a' + m' < n → lowF f a' m' = lowF g a' m') ∧ ∀ a', a' < a → lowF f a' m = lowF g a' m := by
  obtain ⟨h1, h2, h3, h4⟩ := h
  refine ⟨h1, fun e => h2 (by rw [Nat.zero_add, e]), fun m' hm' a' ha' => ?_, fun a' ha' => ?_⟩
  · have := h3 m' hm' a' ha'; rw [Nat.zero_add] at this; omega
  · have := h4 a' ha'; rw [Nat.zero_add] at this; omega
theorem PartAt.symm {f g : Nat → Int} {n a m : Nat} (h : PartAt f g 0 0 n a m) : PartAt g f 0 0 n a m := by
  obtain ⟨h1, h2, h3, h4⟩ := h.low
  exact partAt_zero h1 h2.symm (fun m' hm' a' ha' => (h3 m' hm' a' ha').symm) (fun a' ha' => (h4 a' ha').symm)
theorem PartAt.unique {f g : Nat → Int} {n a m a' m' : Nat} (h : PartAt f g 0 0 n a m) (k : PartAt f g 0 0 n a' m') : a = a' ∧ m = m' := by
  obtain ⟨h1, h2, h3, h4⟩ := h.low
  obtain ⟨k1, k2, k3, k4⟩ := k.low
  have hm : m = m' := by
    rcases Nat.lt_trichotomy m m' with z | z | z
    · exact absurd (k3 m z a h1) h2
    · exact z
    · exact absurd (h3 m' z a' k1) k2
  subst hm
  refine ⟨?_, rfl⟩
  rcases Nat.lt_trichotomy a a' with z | z | z
  · exact absurd (k4 a z) h2
  · exact z
  · exact absurd (h4 a' z) k2
theorem low_front (f : Nat → Int) (a m : Nat) : lowF f a (m + 1) = if f (lowF f (a + 1) m) < f a then lowF f (a + 1) m else a := by
  have hl := lowF_is f (a + 1) m
  have hlt := lowF_lt f (a + 1) m
  refine ((lowF_is f a (m + 1)).unique ?_)
  by_cases z : f (lowF f (a + 1) m) < f a
  · rw [if_pos z]
    refine ⟨by omega, by omega, fun q q1 q2 => ?_, fun q q1 q2 => hl.2.2.2 q q1 (by omega)⟩
    by_cases y : q = a
    · rw [y]; exact z
    · exact hl.2.2.1 q (by omega) q2
  · rw [if_neg z]
    refine ⟨Nat.le_refl _, by omega, fun q q1 q2 => by omega, fun q q1 q2 => ?_⟩
    rcases Nat.lt_trichotomy q (lowF f (a + 1) m) with y | y | y
    · have := hl.2.2.1 q (by omega) y; omega
    · rw [y]; omega
    · have := hl.2.2.2 q y (by omega); omega
theorem PartAt.ends {f g : Nat → Int} {n a m : Nat} (h : PartAt f g 0 0 n a m) : 0 < m ∧ ((lowF f a m = a ∧ lowF g a m = a + m) ∨ (lowF f a m = a + m ∧ lowF g a m = a)) := by
  obtain ⟨h1, h2, h3, h4⟩ := h.low
  cases m with
  | zero => exact absurd rfl h2
  | succ m =>
    refine ⟨by omega, ?_⟩
    have e1 := h3 m (by omega) a (by omega)
    have e2 := h3 m (by omega) (a + 1) (by omega)
    have f1 : lowF f a (m + 1) = if f (a + m + 1) < f (lowF f a m) then a + m + 1 else lowF f a m := rfl
    have g1 : lowF g a (m + 1) = if g (a + m + 1) < g (lowF g a m) then a + m + 1 else lowF g a m := rfl
    have f2 := low_front f a m
    have g2 := low_front g a m
    have l1 := lowF_lt f a m
    have l2 := lowF_lt f (a + 1) m
    rw [← e1] at g1
    rw [← e2] at g2
    generalize lowF f a (m + 1) = u at f1 f2 h2 ⊢
    generalize lowF g a (m + 1) = v at g1 g2 h2 ⊢
    split at f1 <;> split at g1 <;> split at f2 <;> split at g2 <;> omega
end L2


set_option Elab.async false
set_option linter.all false
set_option maxRecDepth 100000
set_option maxHeartbeats 1000000
namespace L2
open PySem PySem.Spec PyProof.Rows PySem.W
section
variable {prog : Program} {w : World} {A : Around} {E Q : Value → Shared → Prop} {s : Shared} {it t : Addr} {i : Nat} {items : Array Value}
theorem nextOf_tuple_item {x : Value} (hi : s.heap.IsTupleIter it t i) (ht : s.heap.IsTuple t items) (hx : items[i]? = some x) (h : ∀ h', h'.IsTupleIter it t (i + 1) → Heap.SameBut it s.heap h' → Q x { s with heap := h' }) : wpAny (model prog w) A (Builtin.SmallTypes.nextOf (.ref it)) Q E s := by
  obtain ⟨o, ho, hc, hd⟩ := id hi
  obtain ⟨ot, hot, hct, n, hdt⟩ := id ht
  have hT : s.TypeIs (.ref it) "tuple_iterator" := ⟨o, ho, hc⟩
  unfold Builtin.SmallTypes.nextOf
  refine wpAny_bind (wpAny_callSpecial?_slot hT F.slot_tuple_iterator_next (wpAny_call_entry F.slot_tuple_iterator_next hT F.entry_tuple_iterator_next ?_ (F.args_tuple_iterator_next_1 _)))
  show wpAny _ _ (_ >>= _) _ _ _
  refine wpAny_bind (wpAny_of_eq (show slotArgs "__next__" 0 { pos := [.ref it] } = pure (.ref it, []) from rfl) ?_)
  refine wpAny_bind (wpAny_field ho hd (x := .ref t) rfl ?_)
  rw [if_neg (by simp)]
  refine wpAny_bind (wpAny_field ho hd (x := .int (i : Int) 0) rfl ?_)
  refine wpAny_bind (wpAny_seqItems hot hdt ?_)
  dsimp only
  rw [Int.toNat_natCast, hx]
  refine wpAny_bind (wpAny_setField ho hd (by show 1 < 2; decide) (wpAny_pure ⟨x, rfl, ?_⟩))
  refine wpAny_pure (h _ ?_ ⟨by simp, fun b hb => Heap.get?_update_other _ _ (Ne.symm hb)⟩)
  obtain ⟨cls, dict, data, slots⟩ := o
  simp only at hc hd
  subst hc hd
  exact ⟨_, Heap.get?_update_self _ ho rfl, rfl, rfl⟩
theorem nextOf_tuple_end (hA : A.handled = none) (hi : s.heap.IsTupleIter it t i) (ht : s.heap.IsTuple t items) (hx : items[i]? = none) (h : ∀ h' e, Heap.ExtBut it s.heap h' → (∃ o, h'.get? e = some o ∧ o.cls = .type "StopIteration") → E (.ref e) { s with heap := h' }) : wpAny (model prog w) A (Builtin.SmallTypes.nextOf (.ref it)) Q E s := by
  obtain ⟨o, ho, hc, hd⟩ := id hi
  obtain ⟨ot, hot, hct, n, hdt⟩ := id ht
  have hT : s.TypeIs (.ref it) "tuple_iterator" := ⟨o, ho, hc⟩
  unfold Builtin.SmallTypes.nextOf
  refine wpAny_bind (wpAny_callSpecial?_slot hT F.slot_tuple_iterator_next (wpAny_call_entry F.slot_tuple_iterator_next hT F.entry_tuple_iterator_next ?_ (F.args_tuple_iterator_next_1 _)))
  show wpAny _ _ (_ >>= _) _ _ _
  refine wpAny_bind (wpAny_of_eq (show slotArgs "__next__" 0 { pos := [.ref it] } = pure (.ref it, []) from rfl) ?_)
  refine wpAny_bind (wpAny_field ho hd (x := .ref t) rfl ?_)
  rw [if_neg (by simp)]
  refine wpAny_bind (wpAny_field ho hd (x := .int (i : Int) 0) rfl ?_)
  refine wpAny_bind (wpAny_seqItems hot hdt ?_)
  dsimp only
  rw [Int.toNat_natCast, hx]
  refine wpAny_bind (wpAny_rule (wpAny_bind (wpAny_setField ho hd (by show 0 < 2; decide) ?_)))
  unfold Builtin.SmallTypes.stopIteration
  refine wpAny_bind ?_
  unfold newExc
  refine wpAny_bind (wpAny_newTuple ?_ (Nat.zero_le _))
  refine wpAny_bind (wpAny_of_eq (show firstArgMember (.type "StopIteration") [] = pure .none by first | rfl | (unfold firstArgMember; rfl)) ?_)
  refine wpAny_newObj_type (wpAny_raiseNew_none hA (h _ _ (fun b o' hb e => ?_) ⟨_, Heap.get?_push_size _ rfl, rfl⟩))
  exact Heap.get?_push_of_some _ (Heap.get?_push_of_some _ ((Heap.get?_update_other _ _ (Ne.symm hb)).trans e))
theorem draws_tuple (hA : A.handled = none) (it t : Addr) (hne : t ≠ it) (items : Array Value) : Draws prog w A it [it, t] items.size (fun i v => items[i]? = some v) (fun i h => h.IsTupleIter it t i ∧ h.IsTuple t items) where
  live := fun i h st => by obtain ⟨⟨o, ho, _⟩, _⟩ := st; exact ⟨o, ho⟩
  frame := fun i h h' st k => by
    obtain ⟨⟨o, ho, r⟩, ⟨ot, hot, rt⟩⟩ := st
    exact ⟨⟨o, k it (by simp) o ho, r⟩, ⟨ot, k t (by simp) ot hot, rt⟩⟩
  item := fun i s Q E hi st h => by
    obtain ⟨ot, hot, rt⟩ := st.2
    refine nextOf_tuple_item st.1 st.2 (Array.getElem?_eq_getElem hi) fun h' hit hs => h _ h' s.toks (Array.getElem?_eq_getElem hi) ⟨hit, ⟨ot, (hs.2 t hne).trans hot, rt⟩⟩ hs
  done := fun s Q E st h => nextOf_tuple_end hA st.1 st.2 (Array.getElem?_eq_none (Nat.le_refl _)) h
end
section
variable {X : Cx} {pins : List (Addr × Obj)} {σ : St} {H : Hp} {s : Shared} {h' : Heap}

def IteT (K : Frag) (a : Addr) : It :=
  ⟨fun i H => ∃ xs x, SqT K H a xs ∧ xs[i]? = some x,
   fun i H v H' => ∃ p x, H p = none ∧ v = .ref p ∧ H' = upd H p (.tup [.int (i : Int), x]) ∧ ∀ xs, SqT K H a xs → xs[i]? = some x,
   fun i H => ∃ xs, SqT K H a xs ∧ xs.length = i⟩
theorem turn_enumT {P : Program} {w : World} {K : Frag} {elts : List Expr} {x1} {pos : Pos} {a e it : Addr} (h1 : e ≠ it) (h2 : a ≠ e) (h3 : a ≠ it) :
    Turn P w K (.Tuple elts x1 pos) (IteT K a) [e, it] e (fun i h => (∃ old, IsEnum h e it (i : Int) old) ∧ h.IsTupleIter it a i) where
  mem := by simp
  obj := fun i h st c hc => by
    obtain ⟨⟨old, q1⟩, ⟨o4, q4, _, d4⟩⟩ := st
    simp at hc
    rcases hc with rfl | rfl
    · exact ⟨_, q1, fun v z => by cases z⟩
    · exact ⟨_, q4, fun v z => by rw [d4] at z; cases z⟩
  keep := fun i h h' st k => by
    obtain ⟨⟨old, q1⟩, ⟨o, ho, r⟩⟩ := st
    exact ⟨⟨old, k e (by simp) _ q1⟩, ⟨o, k it (by simp) o ho, r⟩⟩
  item := by
    intro X hP hw hK hc i pins s σ H E I hf st hg
    subst hP hw hK
    obtain ⟨xs, x, qa, hx⟩ := hg
    obtain ⟨is1, r1, p1, hz1⟩ := I.tuple qa
    obtain ⟨u, hu, ru⟩ := r1.get hx
    have W := WalksT.enumerateD (prog := X.prog) (w := X.w) (A := X.A) (draws_tuple (A := X.A.in1) (I.ok.hd hc) it a h3 is1.toArray) e h1 (by simp; exact ⟨h1, h2.symm⟩) (by simp)
    have hi : i < is1.toArray.size := by
      have := (List.getElem?_eq_some_iff.mp hu).1
      simpa using this
    refine W.item i s _ E hi ⟨st.1, st.2, p1⟩ fun T vals h' tk Pt hT hTup Mid keep => ⟨_, rfl, W.go elts x1 pos i T _ _ E Mid fun h2' St2 keep2 => ?_⟩
    obtain ⟨t, y, hy, rfl⟩ := Pt
    have hyu : y = u := by
      have : is1[i]? = some y := by simpa using hy
      rw [hu] at this; exact (Option.some.inj this).symm
    subst hyu
    have nT := W.apart i T h' Mid
    have hfr : H T = none := I.hok.fresh hT
    have kk : ∀ b o, b ∉ [e, it] → s.heap.get? b = some o → h2'.get? b = some o := fun b o hb q => keep2 b o hb (keep b o hb q)
    have nTe : ∀ c ∈ [e, it], c ≠ T := fun c hc z => nT (z ▸ hc)
    refine ⟨.ref T, _, Inv.turnedN (s := s) (t' := tk) (o := .tup [.int (i : Int), x]) I kk hf hT ?_, rfl, ⟨T, x, hfr, rfl, rfl, fun xs' q' => ?_⟩, ⟨?_, St2.2.1⟩, fun c hc => ?_⟩
    · obtain ⟨oT, q1, q2, n, q3⟩ := hTup
      exact ⟨by show 2 ≤ sizeLine; decide, [.int (i : Int) t, y], .cons ⟨t, rfl⟩ (.cons ru .nil), ⟨oT, keep2 T oT nT q1, q2, n, q3⟩⟩
    · rw [I.tuple_inj q' qa]; exact hx
    · obtain ⟨old, q⟩ := St2.1
      exact ⟨old, by rw [show (((i + 1 : Nat)) : Int) = (i : Int) + 1 by omega] at *; exact q⟩
    · rw [upd_ne (nTe c hc)]; exact (hf c hc).1
  done := by
    intro X hP hw hK hc i pins s σ H E I hf st hg
    subst hP hw hK
    obtain ⟨xs, qa, hx⟩ := hg
    obtain ⟨is1, r1, p1, _⟩ := I.tuple qa
    have W := WalksT.enumerateD (prog := X.prog) (w := X.w) (A := X.A) (draws_tuple (A := X.A.in1) (I.ok.hd hc) it a h3 is1.toArray) e h1 (by simp; exact ⟨h1, h2.symm⟩) (by simp)
    have hi : i = is1.toArray.size := by
      have := r1.length
      simp; omega
    refine W.done s _ E ?_ fun h' tk keep => ⟨rfl, I.turnedL (t' := tk) (fp := [e, it]) (fun c o hc q => keep c o hc q) hf⟩
    rw [← hi]
    exact ⟨st.1, st.2, p1⟩
  self := fun A i s Q E st h => by
    obtain ⟨⟨old, q⟩, _⟩ := st
    exact wpAny_pyIter_enum q h
theorem called_any {M : Model} {A : Around} {E : Value → Shared → Prop} {s : Shared} (cls : Value) : wpAny M A (Builtin.SmallTypes.calledThroughType cls) (fun _ s' => s' = s) E s := by
  unfold Builtin.SmallTypes.calledThroughType
  exact wpAny_bind (wpAny_stack fun st _ _ _ => wpAny_pure rfl)
theorem meets_enumT {prog : Program} {w : World} (l : Addr) (items : Array Value) : MeetsIn prog w (Builtin.«enumerate.__new__» { pos := [.type "enumerate", .ref l] }) fun A R s => s.heap.IsTuple l items ∧ R (.ok (.ret (.ref (s.heap.objs.size + 1)))) { s with heap := (s.heap.push { cls := .type "tuple_iterator", data := .fields #[.ref l, .int 0 0] }).push { cls := .type "enumerate", data := .fields #[.none, .bool false, .ref s.heap.objs.size, rawInt 0, .none, .none] } } := by
  intro A R s ⟨h, hR⟩
  unfold Builtin.«enumerate.__new__»
  refine wpAny_bind (wpAny_of_eq (show Builtin.SmallTypes.newClass "enumerate" { pos := [.type "enumerate", .ref l] } = pure (.type "enumerate", [.ref l]) from by first | rfl | (unfold Builtin.SmallTypes.newClass; rfl)) ?_)
  show wpAny _ _ (_ >>= _) _ _ _
  have hsz : (s.heap.push { cls := .type "tuple_iterator", data := .fields #[.ref l, .int 0 0] }).objs.size = s.heap.objs.size + 1 := Heap.size_push _ _
  refine wpAny_bind (thn (called_any (.type "enumerate")) fun b s' e => ?_)
  subst e
  cases b with
  | true =>
    show wpAny _ _ (_ >>= _) _ _ _
    refine wpAny_bind (wpAny_of_eq (show _ = pure (.ref l, none) from rfl) ?_)
    show wpAny _ _ (_ >>= _) _ _ _
    refine wpAny_bind (wpAny_pyIter_tuple h ?_)
    show wpAny _ _ (newObj (.type "enumerate") (.fields #[.none, .bool false, .ref s'.heap.objs.size, rawInt 0, .none, .none]) >>= _) _ _ _
    refine wpAny_bind (wpAny_newObj_type (wpAny_pure ?_))
    rw [hsz]; exact hR
  | false =>
    show wpAny _ _ (_ >>= _) _ _ _
    refine wpAny_bind (wpAny_of_eq (show _ = pure (.ref l, none) from rfl) ?_)
    show wpAny _ _ (_ >>= _) _ _ _
    refine wpAny_bind (wpAny_pyIter_tuple h ?_)
    show wpAny _ _ (newObj (.type "enumerate") (.fields #[.none, .bool false, .ref s'.heap.objs.size, rawInt 0, .none, .none]) >>= _) _ _ _
    refine wpAny_bind (wpAny_newObj_type (wpAny_pure ?_))
    rw [hsz]; exact hR
def iEnumT (K : Frag) (ta : TA) : TI := fun σ H R => ta σ H fun vs H1 => ∃ a xs, vs = [.ref a] ∧ SqT K H1 a xs ∧ R (IteT K a) H1
theorem pi_enumT {K : Frag} {elts : List Expr} {x1} {tp : Pos} {e1 : Expr} {ta : TA} {p pos : Pos} (hK : X.K = K) (hg : Gl X "enumerate") (hm : X.mg "enumerate" = none) (ha : PA X [e1] ta) (hs : starEach [e1] X.env = [(false, eval e1 X.env)] := by rfl) :
    PI X (.Tuple elts x1 tp) (.Call (.Name "enumerate" p) [e1] [] pos) (iEnumT K ta) := by
  subst hK
  intro pins s σ H R I h
  refine wpAny_Call_Name_kw (ld_blt I hg hm boot_enum' ?_)
  refine PyProof.Rows.callWith_type1 (thn (ha pos pins s σ H _ I h) fun us s1 ⟨vs, H1, I1, r1, a, xs, e1, qa, q⟩ => ?_) hs rfl
  subst e1
  obtain ⟨u, rfl, ru⟩ := r1.one
  cases (show u = Value.ref a from ru)
  obtain ⟨is1, rr1, p1, _⟩ := I1.tuple qa
  have l1 : a < s1.heap.objs.size := by obtain ⟨o, e, _⟩ := p1; exact Heap.lt_size e
  have sm : ∀ b, s1.heap.objs.size ≤ b → FpOk X pins H1 b := fun b hb => I1.fpOk hb (I1.hok.fresh hb)
  have n1 : s1.heap.objs.size + 1 ≠ s1.heap.objs.size := by show ¬ ((_ : Nat) = _); omega
  have n2 : a ≠ s1.heap.objs.size + 1 := Nat.ne_of_lt (Nat.lt_succ_of_lt l1)
  have n3 : a ≠ s1.heap.objs.size := Nat.ne_of_lt l1
  have T := turn_enumT (P := X.prog) (w := X.w) (K := X.K) (elts := elts) (x1 := x1) (pos := tp) n1 n2 n3
  have hsz : (s1.heap.push { cls := .type "tuple_iterator", data := .fields #[.ref a, .int 0 0] }).objs.size = s1.heap.objs.size + 1 := Heap.size_push _ _
  have c1 : IsEnum ((s1.heap.push { cls := .type "tuple_iterator", data := .fields #[.ref a, .int 0 0] }).push { cls := .type "enumerate", data := .fields #[.none, .bool false, .ref s1.heap.objs.size, rawInt 0, .none, .none] }) (s1.heap.objs.size + 1) s1.heap.objs.size 0 .none := by
    show Heap.get? _ _ = _
    rw [← hsz]; exact Heap.get?_push_size _ rfl
  have c2 : ((s1.heap.push { cls := .type "tuple_iterator", data := .fields #[.ref a, .int 0 0] }).push { cls := .type "enumerate", data := .fields #[.none, .bool false, .ref s1.heap.objs.size, rawInt 0, .none, .none] }).IsTupleIter s1.heap.objs.size a 0 := ⟨_, Heap.get?_push_of_some _ (Heap.get?_push_size _ rfl), rfl, rfl⟩
  refine callType_newIn F.called_enumerate rfl (by first | rfl | decide) (F.newCall_enumerate_1 _) (fun obj => by first | rfl | decide) F.entry_enumerate_new (meets_enumT a is1.toArray) ⟨p1, ⟨_, c1, rfl⟩, ?_⟩
  refine T.self _ 0 _ _ _ ⟨⟨_, c1⟩, c2⟩ ?_
  refine ⟨_, [s1.heap.objs.size + 1, s1.heap.objs.size], _, _, H1, rfl, I1.kept (t' := s1.toks) (fun b o e => Heap.get?_push_of_some _ (Heap.get?_push_of_some _ e)), T, ⟨⟨_, c1⟩, c2⟩, fun c hc => ?_, q⟩
  simp at hc
  rcases hc with rfl | rfl <;> exact sm _ (by omega)
end
end L2


set_option Elab.async false
set_option linter.all false
set_option maxRecDepth 100000
set_option maxHeartbeats 1000000
namespace L2
open PySem PySem.Spec PyProof.Rows PySem.W

open Classical in
noncomputable def fenA (f : Nat → Int) (p : Nat) : Int := if h : ∃ q, IsPrev f p q then (Classical.choose h : Nat) else -1
open Classical in
noncomputable def fenB (f : Nat → Int) (n p : Nat) : Int := if h : ∃ r, IsNext f n p r then (Classical.choose h : Nat) else (n : Int)
theorem fenA_prev {f : Nat → Int} {p q : Nat} (h : IsPrev f p q) : fenA f p = q := by
  have hx : ∃ q, IsPrev f p q := ⟨q, h⟩
  unfold fenA
  rw [dif_pos hx, (Classical.choose_spec hx).unique h]
theorem fenA_no {f : Nat → Int} {p : Nat} (h : NoPrev f p) : fenA f p = -1 := by
  unfold fenA
  rw [dif_neg fun ⟨q, hq⟩ => hq.no h]
theorem fenB_next {f : Nat → Int} {n p r : Nat} (h : IsNext f n p r) : fenB f n p = r := by
  have hx : ∃ r, IsNext f n p r := ⟨r, h⟩
  unfold fenB
  rw [dif_pos hx, (Classical.choose_spec hx).unique h]
theorem fenB_no {f : Nat → Int} {n p : Nat} (h : NoNext f n p) : fenB f n p = n := by
  unfold fenB
  rw [dif_neg fun ⟨q, hq⟩ => hq.no h]
theorem fences_sides {f : Nat → Int} {n p : Nat} {e : Int} (h : ElderIs f n p e) : (NoPrev f p ∨ ∃ q, IsPrev f p q) ∧ (NoNext f n p ∨ ∃ r, IsNext f n p r) := by
  rcases h with ⟨h1, h2, _⟩ | ⟨q, h1, h2, _⟩ | ⟨r, h1, h2, _⟩ | ⟨q, r, h1, h2, _⟩
  · exact ⟨.inl h1, .inl h2⟩
  · exact ⟨.inr ⟨q, h1⟩, .inl h2⟩
  · exact ⟨.inl h1, .inr ⟨r, h2⟩⟩
  · exact ⟨.inr ⟨q, h1⟩, .inr ⟨r, h2⟩⟩
theorem IsPrev.over {f : Nat → Int} {p q : Nat} (h : IsPrev f p q) : Over f q p := .inl ⟨h.1, fun r r1 r2 => by
  by_cases z : r = p
  · rw [z]; exact h.2.1
  · have := h.2.2 r r1 (by omega); have := h.2.1; omega⟩
theorem IsNext.over {f : Nat → Int} {n p q : Nat} (h : IsNext f n p q) : Over f q p := .inr ⟨h.1, fun r r1 r2 => by
  by_cases z : r = p
  · rw [z]; exact h.2.2.1
  · have := h.2.2.2 r (by omega) r2; have := h.2.2.1; omega⟩

theorem fenA_max {ns T : List Int} (hT : TreeIs ns T) {p : Nat} (hp : p < ns.length) : let L := (wayI T p).filter fun o => decide (o < (p : Int))
    (L = [] → fenA (nth ns) p = -1) ∧ (L ≠ [] → ∀ m, m ∈ L → (∀ a ∈ L, a ≤ m) → m = fenA (nth ns) p) := by
  intro L
  have hL : ∀ o : Nat, (o : Int) ∈ L ↔ o < p ∧ o < ns.length ∧ Over (nth ns) o p := fun o => by
    rw [List.mem_filter, way_mem hT hp, decide_eq_true_eq]
    exact ⟨fun h => ⟨by omega, h.1⟩, fun h => ⟨h.2, by omega⟩⟩
  have hN : ∀ m ∈ L, ∃ o : Nat, m = o := fun m hm => by
    have := (List.mem_filter.mp hm).1
    rw [wayI_way] at this
    obtain ⟨o, _, e⟩ := List.mem_map.mp this
    exact ⟨o, e.symm⟩
  rcases (fences_sides (hT.2 p hp)).1 with h | ⟨q, h⟩
  · refine ⟨fun _ => fenA_no h, fun hne m hm _ => ?_⟩
    obtain ⟨o, rfl⟩ := hN m hm
    obtain ⟨h1, _, h2⟩ := (hL o).mp hm
    have := h o h1
    rcases h2 with ⟨_, k⟩ | ⟨z, _⟩
    · have := k p h1 (Nat.le_refl _); omega
    · omega
  · have hq : (q : Int) ∈ L := (hL q).mpr ⟨h.1, by have := h.1; omega, h.over⟩
    refine ⟨fun e => by rw [e] at hq; simp at hq, fun _ m hm hmax => ?_⟩
    rw [fenA_prev h]
    obtain ⟨o, rfl⟩ := hN m hm
    obtain ⟨h1, _, h2⟩ := (hL o).mp hm
    have hqo := hmax _ hq
    by_cases z : o = q
    · rw [z]
    · have := h.2.2 o (by omega) h1
      rcases h2 with ⟨_, k⟩ | ⟨z, _⟩
      · have := k p h1 (Nat.le_refl _); omega
      · omega
theorem fenB_min {ns T : List Int} (hT : TreeIs ns T) {p : Nat} (hp : p < ns.length) : let L := (wayI T p).filter fun o => decide ((p : Int) < o)
    (L = [] → fenB (nth ns) ns.length p = ns.length) ∧ (L ≠ [] → ∀ m, m ∈ L → (∀ a ∈ L, m ≤ a) → m = fenB (nth ns) ns.length p) := by
  intro L
  have hL : ∀ o : Nat, (o : Int) ∈ L ↔ p < o ∧ o < ns.length ∧ Over (nth ns) o p := fun o => by
    rw [List.mem_filter, way_mem hT hp, decide_eq_true_eq]
    exact ⟨fun h => ⟨by omega, h.1⟩, fun h => ⟨h.2, by omega⟩⟩
  have hN : ∀ m ∈ L, ∃ o : Nat, m = o := fun m hm => by
    have := (List.mem_filter.mp hm).1
    rw [wayI_way] at this
    obtain ⟨o, _, e⟩ := List.mem_map.mp this
    exact ⟨o, e.symm⟩
  rcases (fences_sides (hT.2 p hp)).2 with h | ⟨q, h⟩
  · refine ⟨fun _ => fenB_no h, fun hne m hm _ => ?_⟩
    obtain ⟨o, rfl⟩ := hN m hm
    obtain ⟨h1, h3, h2⟩ := (hL o).mp hm
    have := h o h1 h3
    rcases h2 with ⟨z, _⟩ | ⟨_, k⟩
    · omega
    · have := k p (Nat.le_refl _) h1; omega
  · have hq : (q : Int) ∈ L := (hL q).mpr ⟨h.1, h.2.1, h.over⟩
    refine ⟨fun e => by rw [e] at hq; simp at hq, fun _ m hm hmin => ?_⟩
    rw [fenB_next h]
    obtain ⟨o, rfl⟩ := hN m hm
    obtain ⟨h1, h3, h2⟩ := (hL o).mp hm
    have hqo := hmin _ hq
    by_cases z : o = q
    · rw [z]
    · have := h.2.2.2 o h1 (by omega)
      rcases h2 with ⟨z, _⟩ | ⟨_, k⟩
      · omega
      · have := k p (Nat.le_refl _) h1; omega

noncomputable def distN (f : Nat → Int) (p : Nat) : Int := if 0 ≤ fenA f p then (p : Int) - fenA f p else 0
def PairsAt (H : Hp) (l : Addr) (n : Nat) (ps : Nat → Int × Int) : Prop := ∃ qs : List Addr, H l = some (.lst (qs.map V.ref)) ∧ qs.length = n ∧ ∀ (j : Nat) (q : Addr), qs[j]? = some q → H q = some (.tup [.int (ps j).1, .int (ps j).2])
theorem PairsAt.same {H H' : Hp} {l : Addr} {n : Nat} {ps : Nat → Int × Int} (h : PairsAt H l n ps) (s : Same H H') : PairsAt H' l n ps := by
  obtain ⟨qs, h1, h2, h3⟩ := h
  exact ⟨qs, s _ _ h1, h2, fun j q hq => s _ _ (h3 j q hq)⟩
theorem PairsAt.push {H : Hp} {l q : Addr} {n : Nat} {ps : Nat → Int × Int} (h : PairsAt H l n ps) (hq : H q = some (.tup [.int (ps n).1, .int (ps n).2])) : ∃ xs : List V, H l = some (.lst xs) ∧ xs.length = n ∧ PairsAt (upd H l (.lst (xs ++ [.ref q]))) l (n + 1) ps := by
  obtain ⟨qs, h1, h2, h3⟩ := h
  have hne : ∀ a o, H a = some (.tup o) → a ≠ l := fun a o ha z => by rw [z, h1] at ha; cases ha
  refine ⟨_, h1, by simp [h2], qs ++ [q], by rw [upd_same]; simp, by simp [h2], fun j a ha => ?_⟩
  by_cases z : j < qs.length
  · rw [List.getElem?_append_left z] at ha
    have := h3 j a ha
    rw [upd_ne (hne _ _ this)]; exact this
  · have hj := (List.getElem?_eq_some_iff.mp ha).1
    rw [List.length_append] at hj
    have : j = n := by simp at hj; omega
    subst this
    rw [List.getElem?_append_right (by omega), h2] at ha
    simp at ha
    rw [← ha, upd_ne (hne _ _ hq)]; exact hq

theorem split_at {f : Nat → Int} (v : Int) : ∀ S : List Nat, S.Pairwise (fun a b => f a ≤ f b) → ∃ A B, S = A ++ B ∧ (∀ q ∈ A, f q ≤ v) ∧ ∀ q ∈ B, v < f q
  | [], _ => ⟨[], [], rfl, fun _ h => (nomatch h), fun _ h => (nomatch h)⟩
  | q :: r, h => by
    have hr := List.pairwise_cons.mp h
    by_cases z : f q ≤ v
    · obtain ⟨A, B, e, h1, h2⟩ := split_at v r hr.2
      refine ⟨q :: A, B, by rw [e]; rfl, fun x hx => ?_, h2⟩
      rcases List.mem_cons.mp hx with y | y
      · rw [y]; exact z
      · exact h1 x y
    · refine ⟨[], q :: r, rfl, fun _ h => (nomatch h), fun x hx => ?_⟩
      rcases List.mem_cons.mp hx with y | y
      · rw [y]; omega
      · have := hr.1 x y; omega
theorem Spine.mono {f : Nat → Int} {i : Nat} {S : List Nat} (h : Spine f i S) : S.Pairwise (fun a b => f a ≤ f b) := by
  refine List.Pairwise.imp_of_mem ?_ h.1
  intro a b ha hb hab
  exact ((h.2 a).mp ha).2 b hab ((h.2 b).mp hb).1
end L2


set_option Elab.async false
set_option linter.all false
set_option maxRecDepth 100000
set_option maxHeartbeats 1000000
namespace L2
open PySem PySem.Spec PyProof.Rows PySem.W
theorem for_it {J : It} {n : Nat} {g : TG} {tb : TS} {D : Ends} {σ : St} {H : Hp} (Pv : Nat → St → Hp → Prop) (h0 : Pv 0 σ H) (hgo : ∀ i σ H, i < n → Pv i σ H → J.go i H) (hstop : ∀ σ H, Pv n σ H → J.stop n H)
    (hs : ∀ i x σ H H', i < n → Pv i σ H → J.yld i H x H' → g x σ H' fun σ2 H2 => tb { D with nx := Pv (i + 1), ct := Pv (i + 1), bk := D.nx } σ2 H2) (hd : ∀ σ H, Pv n σ H → D.nx σ H) : LoopR J g tb D σ H := by
  refine ⟨fun i m σ H => m = n - i ∧ i ≤ n ∧ Pv i σ H, ⟨n, by simp, Nat.zero_le _, h0⟩, ?_⟩
  rintro i m σ H ⟨rfl, hi, p⟩
  by_cases hlt : i < n
  · exact .inr ⟨hgo i σ H hlt p, Pv (i + 1), fun σ' H' p' => ⟨n - (i + 1), by omega, rfl, hlt, p'⟩, fun x H' y => hs i x σ H H' hlt p y⟩
  · have : i = n := by omega
    subst this
    exact .inl ⟨hstop σ H p, hd σ H p⟩
theorem range_of (L : List Int) : L = (List.range L.length).map fun i => L.getD i 0 := by
  refine List.ext_getElem (by simp) fun j h1 h2 => ?_
  simp [List.getD_eq_getElem?_getD, h1]

theorem comp_sift {K : Frag} {a : Addr} {L : List Int} {H1 : Hp} {Q : VK} {tt : TT} {σr : St} (P : Int → Bool) (ha : H1 a = some (.lst (L.map V.int))) (hn : L.length ≤ 1000)
    (ht : ∀ (x : Int) (H : Hp) (R : Bool → Hp → Prop), R (P x) H → tt (some (V.int x) :: σr) H R)
    (hk : ∀ l H', Same H1 H' → H' l = none → Q (.ref l) (upd H' l (.lst ((L.filter P).map V.int)))) :
    CompR (Itl K a) (gName 0) tt (tVar 0) (none :: σr) Q H1 := by
  refine comp_filt (n := L.length) (fun i => P (L.getD i 0)) (fun i => V.int (L.getD i 0)) (Nat.lt_of_le_of_lt hn (by decide)) (fun i Hx s hi => ⟨_, _, SqL.of (s _ _ ha), List.getElem?_eq_getElem (by simpa using hi)⟩) (fun Hx s => ⟨_, SqL.of (s _ _ ha), by simp⟩) ?_ ?_
  · rintro i x Hx Hy hi s ⟨rfl, hx⟩
    have ex := hx _ (SqL.of (s _ _ ha))
    rw [List.getElem?_map, List.getElem?_eq_getElem hi] at ex
    cases ex
    have eg : L.getD i 0 = L[i] := by simp [List.getD_eq_getElem?_getD, hi]
    refine ht _ _ _ ?_
    cases hP : P L[i] with
    | true =>
      rw [if_pos rfl]
      exact ⟨_, rfl, CF.take hi (by rw [eg]; exact hP) (by rw [eg]) s⟩
    | false =>
      rw [if_neg (by simp)]
      exact CF.skip hi (by rw [eg]; exact hP) s
  · intro l H' s hl
    have := hk l H' s hl
    have e : ((List.range L.length).filter fun i => P (L.getD i 0)).map (fun i => V.int (L.getD i 0)) = (L.filter P).map V.int := by
      conv => rhs; rw [range_of L, List.filter_map, List.map_map]
      rfl
    rw [e]; exact this
end L2


set_option Elab.async false
set_option linter.all false
set_option maxRecDepth 100000
set_option maxHeartbeats 1000000
namespace L2
open PySem PySem.Spec PyProof.Rows PySem.W

theorem call_maxDT {prog : Program} {w : World} {A : Around} {E Q : Value → Shared → Prop} {s : Shared} {l : Addr} {xs : Array (Int × Tok)} {d : Value} (hA : A.handled = none) (hl : s.heap.IsTuple l (intItems xs))
    (q0 : xs.size = 0 → ∀ h' tk, (∀ b o, s.heap.get? b = some o → h'.get? b = some o) → Q d { s with heap := h', toks := tk })
    (q1 : 0 < xs.size → ∀ v h' tk, (intItems xs)[argBest (fun i j => decide (numAt xs i > numAt xs j)) (xs.size - 1)]? = some v → (∀ b o, s.heap.get? b = some o → h'.get? b = some o) → Q v { s with heap := h', toks := tk }) :
    wpAny (model prog w) A (call (.builtin "max") [.ref l] [("default", d)]) Q E s := by
  refine wpAny_call (codeAny_call_builtin_code rfl ?_)
  have hck : checkBuiltinCall "max" { pos := [.ref l], kw := [("default", d)] } = pure () := by
    unfold checkBuiltinCall
    rw [F.kind_max]
    exact args_maxD (.ref l) d
  rw [hck]
  refine wpAny_pure (codeAny_builtin F.entry_max ?_)
  show wpAny _ _ (_ >>= _) _ _ _
  have hbp : Builtin.Builtins.bindParams "max" ["key", "default"] 0 { kw := [("default", d)] } = pure [none, some d] := by
    first | rfl | with_unfolding_all rfl | (simp [Builtin.Builtins.bindParams]; done)
  refine wpAny_bind (wpAny_of_eq hbp (wpAny_bind (wpAny_pure (wpAny_bind (wpAny_pyIter_tuple hl ?_)))))
  refine wpAny_bind (wpAny_newObj_type ?_)
  refine wpAny_pure ⟨rfl, ?_⟩
  have hlt : l < s.heap.objs.size := by obtain ⟨o, e, _⟩ := hl; exact Heap.lt_size e
  have n1 : l ≠ s.heap.objs.size := Nat.ne_of_lt hlt
  have esz : (s.heap.push { cls := .type "tuple_iterator", data := .fields #[.ref l, .int 0 0] }).objs.size = s.heap.objs.size + 1 := Heap.size_push _ _
  have old : ∀ b o, s.heap.get? b = some o → ((s.heap.push { cls := .type "tuple_iterator", data := .fields #[.ref l, .int 0 0] }).push { cls := .type "list", data := .seq #[] }).get? b = some o := fun b o e => Heap.get?_push_of_some _ (Heap.get?_push_of_some _ e)
  have ne : ∀ b o, s.heap.get? b = some o → b ∉ [s.heap.objs.size] ∧ b ≠ (s.heap.push { cls := .type "tuple_iterator", data := .fields #[.ref l, .int 0 0] }).objs.size := fun b o e => by
    have := Heap.lt_size e
    refine ⟨fun z => ?_, fun z => ?_⟩
    · have : b = s.heap.objs.size := by simpa using z
      exact absurd (Heap.lt_size e) (by rw [this]; exact Nat.lt_irrefl _)
    · rw [z, esz] at this
      exact absurd this (Nat.not_lt_of_le (Nat.le_succ _))
  have W := Walks.tuple (prog := prog) (w := w) (A := A.in1) hA s.heap.objs.size l n1 (intItems xs)
  have hitm : (intItems xs).size = xs.size := by simp [intItems]
  refine max_loopD W (fun i j => decide (numAt xs i > numAt xs j)) (CmpOf.ints_gt (numAt xs) fun i v h => intItems_at h) _ ?_ "default" d _ s (fun z h' tk kp => ?_) (fun z v h' tk hv kp => ?_) (intItems xs).size 0 _ _ rfl (Nat.zero_le _) ⟨?_, ?_⟩ (fun b o _ _ e => e) (.inl ⟨rfl, _, Heap.get?_push_size _ rfl⟩)
  · rw [esz]
    simp only [List.mem_cons, List.not_mem_nil, or_false, not_or]
    exact ⟨Nat.ne_of_gt (Nat.lt_succ_self _), Nat.ne_of_gt (Nat.lt_succ_of_lt hlt)⟩
  · exact q0 (by omega) h' tk fun b o e => kp b o (ne b o e).1 (ne b o e).2 (old b o e)
  · exact q1 (by omega) v h' tk (by rw [← hitm]; exact hv) fun b o e => kp b o (ne b o e).1 (ne b o e).2 (old b o e)
  · exact ⟨_, Heap.get?_push_of_some _ (Heap.get?_push_size _ rfl), rfl, rfl⟩
  · obtain ⟨o, e, r⟩ := hl
    exact ⟨o, old _ _ e, r⟩

section
variable {X : Cx}

def tMaxDT (K : Frag) (ta td : TA) : TE := fun σ H Q => ta σ H fun vs H1 => td σ H1 fun zs H2 => ∃ (p : Addr) (ns : List Int) (d : Int), vs = [.ref p] ∧ zs = [.int d] ∧ SqT K H2 p (ns.map V.int) ∧ (ns = [] → Q (.int d) H2) ∧ (ns ≠ [] → ∀ m, m ∈ ns → (∀ a ∈ ns, a ≤ m) → Q (.int m) H2)
theorem pe_maxDT {K : Frag} {e : Expr} {kws : List Keyword} {ta td : TA} {p pos : Pos} (hK : X.K = K) (hc : X.calm = true) (hg : Gl X "max") (hm : X.mg "max" = none) (ha : PA X [e] ta) (hd : PK X kws td)
    (he : starEach [e] X.env = (false, eval e X.env) :: starEach [] X.env := by rfl) (hpl : (backTo pos (starEach [e] X.env)).any (·.1) = false := by rfl) (hall : (backToKw pos (keywordEach kws X.env)).all (·.1.isSome) = true := by rfl)
    (hnn : (backToKw pos (keywordEach kws X.env)).any (·.1.isNone) = false := by rfl) (hks : (backToKw pos (keywordEach kws X.env)).filterMap (·.1) = [(("default" : String) : Str)] := by rfl) (hb : backTo pos (starEach [e] X.env) = (false, eval e X.env) :: backTo pos (starEach [] X.env) := by rfl) :
    PE X (.Call (.Name "max" p) [e] kws pos) (tMaxDT K ta td) := by
  subst hK
  intro pins s σ H Q I h
  refine wpAny_Call_Name_kw (ld_blt I hg hm bt_max ?_)
  refine PyProof.Rows.callWith_kw (thn (ha pos pins s σ H _ I h) fun us s1 ⟨vs, H1, I1, r1, q1⟩ => ?_) hb hpl hall hnn
  refine thn (hd pos pins s1 σ H1 _ I1 q1) fun ws s2 ⟨zs, H2, I2, r2, pp, ns, d, e1, e2, hp, q0, qm⟩ => ?_
  subst e1 e2
  obtain ⟨u, rfl, ru⟩ := r1.one
  obtain ⟨v, rfl, rv⟩ := r2.one
  cases (show u = Value.ref pp from ru)
  rw [hks]
  obtain ⟨its, rr, pl, hz⟩ := I2.tuple hp
  obtain ⟨ys, e1, e2⟩ := ints_of rr
  have hsz : ys.size = ns.length := by
    have := congrArg List.length e2
    rw [List.length_map, Array.length_toList] at this
    exact this
  refine call_maxDT (xs := ys) (I2.ok.hd hc) (e1 ▸ pl) (fun z h' tk k => ?_) (fun z v' h' tk hv k => ?_)
  · exact ⟨.int d, H2, I2.kept k, rv, q0 (List.length_eq_zero_iff.mp (by omega))⟩
  · obtain ⟨t, rfl⟩ := intItems_at hv
    obtain ⟨h1, h2⟩ := argBest_gt (numAt ys) (ys.size - 1)
    refine ⟨.int _, H2, I2.kept k, ⟨t, rfl⟩, qm (fun y => by have h3 : ys.size = 0 := (by rw [hsz, y]; rfl); omega) _ ?_ fun a ha => ?_⟩
    · rw [numAt_eq, e2]; exact getD_mem (by omega)
    · obtain ⟨j, hj, rfl⟩ := mem_getD ha
      rw [← e2, ← numAt_eq]; exact h2 j (by omega)
end

def rInD (K : Frag) : R2 := fun x y H Q => ∃ (q p : Addr) (as : List Addr) (e : Addr → Bool), x = .ref q ∧ y = .ref p ∧ SqL K H p (as.map V.ref) ∧ (∀ a ∈ as, EqD K H 3 (.ref a) x (e a)) ∧ Q (.bl (as.any e)) H
section
variable {X : Cx}
end
end L2


set_option Elab.async false
set_option linter.all false
set_option maxRecDepth 100000
set_option maxHeartbeats 1000000
namespace L2
open PySem PySem.Spec PyProof.Rows PySem.W

end L2


set_option Elab.async false
set_option linter.all false
set_option maxRecDepth 100000
set_option maxHeartbeats 1000000

namespace PySem
open Sem (wp)
section
variable {prog : Program} {w : World} {A : Around} {E : Value → Shared → Prop} {s : Shared}
end
end PySem
namespace L2
open PySem PySem.Spec PyProof.Rows PySem.W
section
variable {X : Cx}
def rTupR2 : List V → Hp → VK → Prop := fun xs H Q => ∃ p i j, xs = [.ref p] ∧ H p = some (.rng i j) ∧ -(2 ^ 62) ≤ i ∧ i < 2 ^ 62 ∧ -(2 ^ 62) ≤ j ∧ j < 2 ^ 62 ∧ j - i ≤ 1000 ∧ ∀ l, H l = none → Q (.ref l) (upd H l (.tup ((List.range (j - i).toNat).map fun (k : Nat) => V.int (i + (k : Int)))))
end
end L2


set_option Elab.async false
set_option linter.all false
set_option maxRecDepth 100000
set_option maxHeartbeats 1000000

namespace L2
open PySem PySem.Spec PyProof.Rows PySem.W

def QIt (h : Heap) (i l : Addr) (k : Nat) (xs : Array Value) : Prop := (h.IsListIter i l k ∧ h.IsList l xs) ∨ (h.IsTupleIter i l k ∧ h.IsTuple l xs)
theorem QIt.ext {h h' : Heap} {i l b : Addr} {k : Nat} {xs : Array Value} (x : QIt h i l k xs) (hs : Heap.ExtBut b h h') (n1 : i ≠ b) (n2 : l ≠ b) : QIt h' i l k xs := by
  rcases x with ⟨p, q⟩ | ⟨p, q⟩
  · exact .inl ⟨p.extBut hs n1, q.extBut hs n2⟩
  · obtain ⟨o, ho, r⟩ := q
    exact .inr ⟨p.extBut hs n1, ⟨o, hs _ _ n2 ho, r⟩⟩
theorem QIt.at {h h' : Heap} {i l : Addr} {k : Nat} {xs : Array Value} (x : QIt h i l k xs) (e1 : ∀ o, h.get? i = some o → h'.get? i = some o) (e2 : ∀ o, h.get? l = some o → h'.get? l = some o) : QIt h' i l k xs := by
  rcases x with ⟨p, ⟨o, ho, r⟩⟩ | ⟨⟨o1, p1, r1⟩, ⟨o, ho, r⟩⟩
  · exact .inl ⟨p.at e1, ⟨o, e2 o ho, r⟩⟩
  · exact .inr ⟨⟨o1, e1 _ p1, r1⟩, ⟨o, e2 o ho, r⟩⟩
theorem QIt.obj {h : Heap} {i l : Addr} {k : Nat} {xs : Array Value} (x : QIt h i l k xs) : (∃ o, h.get? i = some o ∧ ∀ v m, o.data ≠ .seq v m) ∧ ∃ o, h.get? l = some o := by
  rcases x with ⟨⟨o, p, p1, p2⟩, ⟨u, q, _⟩⟩ | ⟨⟨o, p, p1, p2⟩, ⟨u, q, _⟩⟩
  · exact ⟨⟨o, p, fun v m z => by rw [p2] at z; cases z⟩, ⟨u, q⟩⟩
  · exact ⟨⟨o, p, fun v m z => by rw [p2] at z; cases z⟩, ⟨u, q⟩⟩
section
variable {prog : Program} {w : World} {A : Around} {E Q : Value → Shared → Prop} {s : Shared} {it l : Addr} {k : Nat} {xs : Array Value}
end
section
variable {prog : Program} {w : World} {A : Around} {E : Value → Shared → Prop} {s : Shared} {z TI TO i1 i2 l1 l2 : Addr} {k1 k2 : Nat} {xs ys : Array Value} {a b : Value}
def SqH (h : Heap) (l : Addr) (xs : Array Value) : Prop := h.IsList l xs ∨ h.IsTuple l xs
theorem SqH.push {h : Heap} {l : Addr} {xs : Array Value} (q : SqH h l xs) (o : Obj) : SqH (h.push o) l xs := by
  rcases q with q | ⟨u, hu, r⟩
  · exact .inl (q.push o)
  · exact .inr ⟨u, Heap.get?_push_of_some _ hu, r⟩
theorem SqH.obj {h : Heap} {l : Addr} {xs : Array Value} (q : SqH h l xs) : ∃ o, h.get? l = some o := by
  rcases q with ⟨o, ho, _⟩ | ⟨o, ho, _⟩ <;> exact ⟨o, ho⟩
end
section
variable {X : Cx} {pins : List (Addr × Obj)} {σ : St} {H : Hp} {s : Shared}

def SqB (K : Frag) (t : Bool) (H : Hp) (a : Addr) (xs : List V) : Prop := match t with
  | true => SqT K H a xs
  | false => SqL K H a xs
def ItB (t : Bool) (h : Heap) (i a : Addr) (k : Nat) : Prop := match t with
  | true => h.IsTupleIter i a k
  | false => h.IsListIter i a k
theorem SqB.of {K : Frag} {H : Hp} {a : Addr} {xs : List V} (h : SqL K H a xs ∨ SqT K H a xs) : ∃ t, SqB K t H a xs := by
  rcases h with h | h
  · exact ⟨false, h⟩
  · exact ⟨true, h⟩
theorem ItB.keep {t : Bool} {h h' : Heap} {i a : Addr} {k : Nat} (q : ItB t h i a k) (e : ∀ o, h.get? i = some o → h'.get? i = some o) : ItB t h' i a k := by
  cases t
  · obtain ⟨o, ho, r⟩ := q; exact ⟨o, e o ho, r⟩
  · obtain ⟨o, ho, r⟩ := q; exact ⟨o, e o ho, r⟩
theorem ItB.obj {t : Bool} {h : Heap} {i a : Addr} {k : Nat} (q : ItB t h i a k) : ∃ o, h.get? i = some o ∧ ∃ v, o.data = .fields v := by
  cases t
  · obtain ⟨o, ho, _, d⟩ := q; exact ⟨o, ho, _, d⟩
  · obtain ⟨o, ho, _, d⟩ := q; exact ⟨o, ho, _, d⟩
def Itzq (K : Frag) (t u : Bool) (a b : Addr) : It :=
  ⟨fun i H => ∃ xs ys x y, SqB K t H a xs ∧ SqB K u H b ys ∧ xs[i]? = some x ∧ ys[i]? = some y,
   fun i H v H' => ∃ p x y, H p = none ∧ v = .ref p ∧ H' = upd H p (.tup [x, y]) ∧ (∀ xs, SqB K t H a xs → xs[i]? = some x) ∧ ∀ ys, SqB K u H b ys → ys[i]? = some y,
   fun i H => ∃ xs ys, SqB K t H a xs ∧ SqB K u H b ys ∧ (xs.length ≤ i ∨ ys.length ≤ i)⟩
def iZipQ (K : Frag) (ta : TA) : TI := fun σ H R => ta σ H fun vs H1 => ∃ a b t u xs ys, vs = [.ref a, .ref b] ∧ SqB K t H1 a xs ∧ SqB K u H1 b ys ∧ R (Itzq K t u a b) H1
end
end L2


set_option Elab.async false
set_option linter.all false
set_option maxRecDepth 100000
set_option maxHeartbeats 1000000
namespace L2
open PySem PySem.Spec PyProof.Rows PySem.W
theorem cut_m1 (xs : List V) : cutV xs (some (-1)) none = xs.drop (xs.length - 1) := by
  unfold cutV HT.sIx
  cases xs with
  | nil => simp
  | cons x r =>
    simp
    have e : (-1 + ((r.length : Int) + 1)).toNat = r.length := by omega
    rw [e]
    exact List.take_of_length_le (by simp)
theorem drop_last' {α : Type} (xs : List α) : xs.drop (xs.length - 1) = xs.getLast?.toList := by
  rcases List.eq_nil_or_concat xs with rfl | ⟨ys, y, rfl⟩
  · rfl
  · simp
theorem take_one' {α : Type} (xs : List α) : xs.take 1 = xs.head?.toList := by
  cases xs <;> simp
end L2
namespace L2
open PySem PySem.Spec PyProof.Rows PySem.W
end L2


set_option Elab.async false
set_option linter.all false
set_option maxRecDepth 100000
set_option maxHeartbeats 1000000
namespace L2
open PySem PySem.Spec PyProof.Rows PySem.W

theorem fence_bounds {f : Nat → Int} {n p : Nat} (hp : p < n) : -1 ≤ fenA f p ∧ fenA f p < p ∧ (p : Int) < fenB f n p ∧ fenB f n p ≤ n := by
  obtain ⟨hA, hB⟩ := fences_sides (elder_lists (f := f) hp)
  have a1 : -1 ≤ fenA f p ∧ fenA f p < p := by
    rcases hA with hA | ⟨q, hA⟩
    · rw [fenA_no hA]; omega
    · rw [fenA_prev hA]; have := hA.1; omega
  have a2 : (p : Int) < fenB f n p ∧ fenB f n p ≤ n := by
    rcases hB with hB | ⟨q, hB⟩
    · rw [fenB_no hB]; omega
    · rw [fenB_next hB]; have := hB.1; have := hB.2.1; omega
  exact ⟨a1.1, a1.2, a2.1, a2.2⟩
theorem map_range_set {F : Nat → Int} {n k : Nat} {v : Int} : ((List.range n).map F).set k v = (List.range n).map fun p => if p = k then v else F p := by
  refine List.ext_getElem (by simp) fun j h1 h2 => ?_
  simp only [List.length_set, List.length_map, List.length_range] at h1
  rw [List.getElem_set]
  by_cases e : k = j
  · simp [e]
  · have e' : ¬ j = k := fun z => e z.symm
    simp [e, e']
theorem map_range_nth {F : Nat → Int} {n k : Nat} (h : k < n) : nth ((List.range n).map F) k = F k := by simp [nth, List.getD_eq_getElem?_getD, h]
end L2
namespace L2
open PySem PySem.Spec PyProof.Rows PySem.W
end L2


set_option Elab.async false
set_option linter.all false
set_option maxRecDepth 100000
set_option maxHeartbeats 1000000
namespace L2
open PySem PySem.Spec PyProof.Rows PySem.W

end L2
namespace L2
open PySem PySem.Spec PyProof.Rows PySem.W
end L2
namespace L2
open PySem PySem.Spec PyProof.Rows PySem.W

end L2
namespace L2
theorem snoc_cases {α : Type} (xs : List α) : xs = [] ∨ ∃ ys y, xs = ys ++ [y] := by
  rcases List.eq_nil_or_concat xs with h | ⟨ys, y, h⟩
  · exact .inl h
  · exact .inr ⟨ys, y, by rw [h, List.concat_eq_append]⟩
end L2
namespace L2
open PySem PySem.Spec PyProof.Rows PySem.W
theorem cut_midN (xs : List V) {a c : Nat} (h1 : a ≤ c) (h2 : c ≤ xs.length) : cutV xs (some (a : Int)) (some (c : Int)) = (xs.drop a).take (c - a) := by
  unfold cutV
  rw [HT.sIx_nat, HT.sIx_nat, Nat.min_eq_left h2, Nat.min_eq_left (Nat.le_trans h1 h2)]
theorem cut_ints (ns : List Int) {a c : Nat} (h1 : a ≤ c) (h2 : c ≤ ns.length) : cutV (ns.map V.int) (some (a : Int)) (some (c : Int)) = (cutN ns a (c - a)).map V.int := by
  rw [cut_midN _ h1 (by simpa using h2)]
  unfold cutN
  rw [List.map_take, List.map_drop]
end L2


set_option Elab.async false
set_option linter.all false
set_option maxRecDepth 100000
set_option maxHeartbeats 1000000
namespace L2
open PySem PySem.Spec PyProof.Rows PySem.W

def sw (d : Int) (k : Nat) : Int := if d ≤ k then d else 0
theorem sw_sw {d : Int} {a b : Nat} (h : a ≤ b) : sw (sw d b) a = sw d a := by
  unfold sw
  by_cases h1 : d ≤ b
  · rw [if_pos h1]
  · rw [if_neg h1, if_pos (by omega : (0 : Int) ≤ a), if_neg (by omega)]
theorem distN_cases (f : Nat → Int) (p : Nat) : (NoPrev f p ∧ distN f p = 0) ∨ ∃ q, IsPrev f p q ∧ distN f p = (p : Int) - q := by
  rcases prev_or f p with h | ⟨q, h⟩
  · exact .inl ⟨h, by unfold distN; rw [fenA_no h, if_neg (by omega)]⟩
  · exact .inr ⟨q, h, by unfold distN; rw [fenA_prev h, if_pos (by omega)]⟩
theorem distN_bounds (f : Nat → Int) (p : Nat) : 0 ≤ distN f p ∧ distN f p ≤ p := by
  rcases distN_cases f p with ⟨_, e⟩ | ⟨q, h, e⟩
  · omega
  · have := h.1; omega
theorem sw_self (f : Nat → Int) (p : Nat) : sw (distN f p) p = distN f p := if_pos (distN_bounds f p).2

def KinD (f g : Nat → Int) (m : Nat) : Prop := ∀ i, i < m → distN f i = distN g i

def Mt (f g : Nat → Int) (m p : Nat) : Prop := ∀ i, i < m → distN f i = sw (distN g (p - m + i)) i
theorem Mt.succ {f g : Nat → Int} {m p : Nat} (h : m ≤ p) : Mt f g (m + 1) (p + 1) ↔ Mt f g m p ∧ distN f m = sw (distN g p) m := by
  constructor
  · intro H
    refine ⟨fun i hi => ?_, ?_⟩
    · have := H i (by omega); rw [show p + 1 - (m + 1) + i = p - m + i by omega] at this; exact this
    · have := H m (by omega); rw [show p + 1 - (m + 1) + m = p by omega] at this; exact this
  · rintro ⟨H, h2⟩ i hi
    rw [show p + 1 - (m + 1) + i = p - m + i by omega]
    by_cases e : i = m
    · rw [e, show p - m + m = p by omega]; exact h2
    · exact H i (by omega)
theorem Mt.part {f g : Nat → Int} {m c p : Nat} (hm : m ≤ c) (hc : c ≤ p) (h : Mt f g c p) : Mt f g m p ↔ Mt f f m c := by
  have key : ∀ j, j < m → sw (distN f (c - m + j)) j = sw (distN g (p - m + j)) j := fun j hj => by
    have := h (c - m + j) (by omega)
    rw [this, show p - c + (c - m + j) = p - m + j by omega, sw_sw (by omega)]
  constructor
  · intro H j hj; rw [key j hj]; exact H j hj
  · intro H j hj; rw [← key j hj]; exact H j hj
theorem Mt.zero (f g : Nat → Int) (p : Nat) : Mt f g 0 p := fun i hi => absurd hi (by omega)
theorem Mt.self (f : Nat → Int) (m : Nat) : Mt f f m m := fun i hi => by rw [Nat.sub_self, Nat.zero_add, sw_self]
def IsBorder (f : Nat → Int) (k m : Nat) : Prop := m < k ∧ Mt f f m k ∧ ∀ j, m < j → j < k → ¬ Mt f f j k
theorem IsBorder.unique {f : Nat → Int} {k m j : Nat} (h : IsBorder f k m) (h' : IsBorder f k j) : m = j := by
  rcases Nat.lt_trichotomy m j with z | z | z
  · exact absurd h'.2.1 (h.2.2 j z h'.1)
  · exact z
  · exact absurd h.2.1 (h'.2.2 m z h.1)
def Goes (f : Nat → Int) (n s : Nat) (d : Int) (m : Nat) : Prop := m ≤ s ∧ Mt f f m s ∧ m < n ∧ distN f m = sw d m ∧ ∀ j, m < j → j ≤ s → Mt f f j s → ¬ (j < n ∧ distN f j = sw d j)

def Walk (f : Nat → Int) (n s : Nat) (d : Int) (c : Nat) : Prop := c ≤ s ∧ Mt f f c s ∧ ∀ j, c < j → j ≤ s → Mt f f j s → ¬ (j < n ∧ distN f j = sw d j)
theorem Walk.start (f : Nat → Int) (n s : Nat) (d : Int) : Walk f n s d s := ⟨Nat.le_refl _, Mt.self f s, fun j h1 h2 => absurd h1 (by omega)⟩
theorem Walk.step {f : Nat → Int} {n s : Nat} {d : Int} {c b : Nat} (h : Walk f n s d c) (no : ¬ (c < n ∧ distN f c = sw d c)) (hb : IsBorder f c b) : Walk f n s d b := by
  obtain ⟨h1, h2, h3⟩ := h
  obtain ⟨b1, b2, b3⟩ := hb
  refine ⟨by omega, (Mt.part (by omega) h1 h2).mpr b2, fun j j1 j2 j3 => ?_⟩
  rcases Nat.lt_trichotomy j c with z | z | z
  · exact absurd ((Mt.part (by omega) h1 h2).mp j3) (b3 j j1 z)
  · rw [z]; exact no
  · exact h3 j z j2 j3
theorem Walk.goes {f : Nat → Int} {n s : Nat} {d : Int} {c : Nat} (h : Walk f n s d c) (ok : c < n ∧ distN f c = sw d c) : Goes f n s d c := ⟨h.1, h.2.1, ok.1, ok.2, h.2.2⟩

theorem filter_split {f : Nat → Int} {v : Int} {A B : List Nat} (hA : ∀ q ∈ A, f q ≤ v) (hB : ∀ q ∈ B, v < f q) : ((A ++ B).map f).filter (fun x => decide (x ≤ v)) = A.map f := by
  rw [List.map_append, List.filter_append]
  have e1 : (A.map f).filter (fun x => decide (x ≤ v)) = A.map f := List.filter_eq_self.mpr fun x hx => by
    obtain ⟨q, hq, rfl⟩ := List.mem_map.mp hx
    exact decide_eq_true (hA q hq)
  have e2 : (B.map f).filter (fun x => decide (x ≤ v)) = [] := List.filter_eq_nil_iff.mpr fun x hx => by
    obtain ⟨q, hq, rfl⟩ := List.mem_map.mp hx
    have := hB q hq
    simp; omega
  rw [e1, e2, List.append_nil]

end L2
namespace L2
open PySem PySem.Spec PyProof.Rows PySem.W
end L2


set_option Elab.async false
set_option linter.all false
set_option maxRecDepth 100000
set_option maxHeartbeats 1000000
namespace L2
open PySem PySem.Spec PyProof.Rows PySem.W
end L2
namespace L2
end L2


set_option Elab.async false
set_option linter.all false
set_option maxRecDepth 100000
set_option maxHeartbeats 1000000
namespace L2
open PySem PySem.Spec PyProof.Rows PySem.W

structure FunD (K : PySem.W.Frag) (x qual : Str) (st : Stmt) (f : Addr) (fd : FuncData) (dV : Value) : Prop where
  ex : ∃ (oc : Value) (od : Option Addr) (kV doc pm : Value) (an : Option Addr) (cdv ct : Value) (osl : Array (Option Value)),
    fd = PySem.W.fnOf x qual (defArgs st) (defBody st) (defScope st) dV kV doc pm an cdv ct ∧ K.lookup f = some ⟨oc, od, .func fd, osl⟩ ∧ PySem.W.codeIn K cdv qual = true
  kp : PySem.W.keepIn K (.ref f) = true
section
variable {P : Program} {w : World} {K : PySem.W.Frag} {mg : Str → Option Value} {base : Heap}
theorem FunD.okX {x qual : Str} {st : Stmt} {f : Addr} {fd : FuncData} {dV : Value} {N ps : List Str} {k : Nat} {sp : Sp} (F : FunD K x qual st f fd dV) (S : FnScope N ps (defScope st)) (len : ∀ vs H Q E, sp vs H Q E → vs.length = ps.length)
    (hbody : ∀ (cdv : Value) (A : Around) (outer : List Env) (s : Shared) (H : Hp) (vs : List V) (Q : VK) (E : XK), Room k (A.deeper (envOfC qual (defScope st) s.heap.objs.size f cdv)) → sp vs H Q E →
      ∃ t, PSs (cxOf (CXE P w) P w K mg base N qual (defScope st) f cdv A outer s H E) (defBody st) t ∧ t { nx := fun _ H' => Q .non H', rt := Q } (start N vs) H) : FnOk P w K mg base (CXE P w) (k + 1) f fd ps sp := by
  obtain ⟨oc, od, kV, doc, pm, an, cdv, ct, osl, rfl, lk, hcd⟩ := F.ex
  exact fn_of lk hcd S len fun A outer s H vs Q E hr hsp => hbody cdv A outer s H vs Q E hr hsp
theorem FunD.binds {x qual : Str} {st : Stmt} {f : Addr} {fd : FuncData} {D : Addr} {ps : List Str} {ds : List Value} {oc : Value} {od : Option Addr} {items : Array Value} {ep : Nat} {sl : Array (Option Value)} (F : FunD K x qual st f fd (.ref D))
    (lk : K.lookup D = some ⟨oc, od, .seq items ep, sl⟩)
    (h : ∀ (kV doc pm : Value) (an : Option Addr) (cdv ct : Value) (us : List Value), (us ++ ds).length = ps.length → ∃ k, bindArgs (PySem.W.fnOf x qual (defArgs st) (defBody st) (defScope st) (.ref D) kV doc pm an cdv ct) ⟨us, []⟩ = seqItems? (.ref D) >>= k ∧ k (some items) = pure (ps.zip (us ++ ds))) : Binds K fd ps ds := by
  obtain ⟨oc, od, kV, doc, pm, an, cdv, ct, osl, rfl, lf, hcd⟩ := F.ex
  intro s us KX hl
  obtain ⟨k, h1, h2⟩ := h kV doc pm an cdv ct us hl
  exact BindsTo.of_defaults rfl (KX _ _ lk) rfl h1 h2
end

end L2
namespace L2
open PySem PySem.Spec PyProof.Rows PySem.W
end L2


set_option Elab.async false
set_option linter.all false
set_option maxRecDepth 100000
set_option maxHeartbeats 1000000
namespace L2
open PySem PySem.Spec PyProof.Rows PySem.W

def RA (Z H : Hp) (l : Addr) (as : List Addr) (C : Nat) : Prop := H l = some (.lst (as.map V.ref)) ∧ l ∉ as ∧ Z l = none ∧ ∀ a ∈ as, Z a = none ∧ ∃ ns : List Int, H a = some (.lst (ns.map V.int)) ∧ ns.length ≤ C
theorem RA.exc {Z H H' : Hp} {l p : Addr} {as : List Addr} {C : Nat} (R : RA Z H l as C) (e : Exc p H H') (hp : Z p ≠ none) : RA Z H' l as C :=
  ⟨e _ _ (fun z => hp (by rw [← z]; exact R.2.2.1)) R.1, R.2.1, R.2.2.1, fun a ha => ⟨(R.2.2.2 a ha).1, by
    obtain ⟨z, ns, h, hl⟩ := R.2.2.2 a ha
    exact ⟨ns, e _ _ (fun y => hp (by rw [← y]; exact z)) h, hl⟩⟩⟩
theorem RA.same {Z H H' : Hp} {l : Addr} {as : List Addr} {C : Nat} (R : RA Z H l as C) (s : Same H H') : RA Z H' l as C :=
  ⟨s _ _ R.1, R.2.1, R.2.2.1, fun a ha => ⟨(R.2.2.2 a ha).1, by
    obtain ⟨z, ns, h, hl⟩ := R.2.2.2 a ha
    exact ⟨ns, s _ _ h, hl⟩⟩⟩
theorem RA.mono {Z H : Hp} {l : Addr} {as : List Addr} {C D : Nat} (R : RA Z H l as C) (h : C ≤ D) : RA Z H l as D :=
  ⟨R.1, R.2.1, R.2.2.1, fun a ha => ⟨(R.2.2.2 a ha).1, by
    obtain ⟨z, ns, e, hl⟩ := R.2.2.2 a ha
    exact ⟨ns, e, by omega⟩⟩⟩

theorem RA.outer {Z H : Hp} {l : Addr} {as bs : List Addr} {C : Nat} (R : RA Z H l as C) (h : ∀ b ∈ bs, b ∈ as) : RA Z (upd H l (.lst (bs.map V.ref))) l bs C :=
  ⟨upd_same, fun z => R.2.1 (h _ z), R.2.2.1, fun a ha => ⟨(R.2.2.2 a (h a ha)).1, by
    obtain ⟨z, ns, e, hl⟩ := R.2.2.2 a (h a ha)
    exact ⟨ns, by rw [upd_ne (fun y => R.2.1 (by rw [← y]; exact h a ha))]; exact e, hl⟩⟩⟩

theorem RA.more {Z H : Hp} {l q : Addr} {as bs : List Addr} {C : Nat} {ns : List Int} (R : RA Z H l as C) (h : ∀ b ∈ bs, b ∈ as ∨ b = q) (hq : H q = some (.lst (ns.map V.int))) (zq : Z q = none) (hl : ns.length ≤ C) (nq : q ≠ l) : RA Z (upd H l (.lst (bs.map V.ref))) l bs C :=
  ⟨upd_same, fun z => (h _ z).elim R.2.1 (fun y => nq y.symm), R.2.2.1, fun a ha => by
    rcases h a ha with h1 | rfl
    · obtain ⟨z, ns, e, hl⟩ := R.2.2.2 a h1
      exact ⟨z, ns, by rw [upd_ne (fun y => R.2.1 (by rw [← y]; exact h1))]; exact e, hl⟩
    · exact ⟨zq, ns, by rw [upd_ne nq]; exact hq, hl⟩⟩

theorem RA.fresh {Z H : Hp} {l q u : Addr} {as bs : List Addr} {C : Nat} {ns : List Int} (R : RA Z H l as C) (h : ∀ b ∈ bs, b ∈ as ∨ b = q) (hq : H q = some (.lst (ns.map V.int))) (zq : Z q = none) (hl : ns.length ≤ C) (hu : H u = none) (zu : Z u = none) : RA Z (upd H u (.lst (bs.map V.ref))) u bs C := by
  have key : ∀ b ∈ bs, b ≠ u ∧ Z b = none ∧ ∃ ns : List Int, H b = some (.lst (ns.map V.int)) ∧ ns.length ≤ C := fun b hb => by
    rcases h b hb with h1 | rfl
    · obtain ⟨z, ns, e, hl⟩ := R.2.2.2 b h1
      exact ⟨ne_of_none e hu, z, ns, e, hl⟩
    · exact ⟨ne_of_none hq hu, zq, ns, hq, hl⟩
  exact ⟨upd_same, fun z => (key u z).1 rfl, zu, fun a ha => by
    obtain ⟨n, z, ns, e, hl⟩ := key a ha
    exact ⟨z, ns, by rw [upd_ne n]; exact e, hl⟩⟩

theorem RA.at {Z H : Hp} {l : Addr} {as : List Addr} {C i : Nat} (R : RA Z H l as C) (h : i < as.length) : ∃ (a : Addr) (ns : List Int), a ∈ as ∧ as[i]? = some a ∧ atI (as.map V.ref) (i : Int) = some (.ref a) ∧ H a = some (.lst (ns.map V.int)) ∧ ns.length ≤ C ∧ Z a = none ∧ a ≠ l := by
  obtain ⟨z, ns, e, hl⟩ := R.2.2.2 as[i] (List.getElem_mem _)
  refine ⟨as[i], ns, List.getElem_mem _, List.getElem?_eq_getElem h, ?_, e, hl, z, fun y => R.2.1 (by rw [← y]; exact List.getElem_mem _)⟩
  rw [atI_at rfl (by simpa using h)]; simp
theorem RA.from {Z H H' : Hp} {l p : Addr} {as : List Addr} {C : Nat} (R : RA H H' l as C) (e : Exc p Z H) (hp : H p ≠ none) : RA Z H' l as C :=
  ⟨R.1, R.2.1, e.free (fun z => hp (by rw [← z]; exact R.2.2.1)) R.2.2.1, fun a ha => ⟨e.free (fun z => hp (by rw [← z]; exact (R.2.2.2 a ha).1)) (R.2.2.2 a ha).1, (R.2.2.2 a ha).2⟩⟩
theorem RowsN.exc {Z H H' : Hp} {l p : Addr} {rs : List (List Int)} (R : RowsN Z H l rs) (e : Exc p H H') (hp : Z p ≠ none) : RowsN Z H' l rs := by
  obtain ⟨as, h1, h2, h3, h4, h5, h6⟩ := R
  exact ⟨as, e _ _ (fun z => hp (by rw [← z]; exact h5)) h1, h2, h3, fun i i1 i2 => e _ _ (fun z => hp (by rw [← z]; exact h6 _ (List.getElem_mem _))) (h4 i i1 i2), h5, h6⟩
theorem PoolAt.updN {H : Hp} {p q : Addr} {o : HO} (P : PoolAt H p) (h : q ≠ p) : PoolAt (L2.upd H q o) p := by
  obtain ⟨x, y, e, z⟩ := P
  exact ⟨x, y, by rw [upd_ne (fun w => h w.symm)]; exact e, z⟩
theorem IsL.mono {K : Frag} {H H' : Hp} {α : Type} {P P' : V → α → Prop} {v : V} {as : List α} (h : IsL K H P v as) (s : Same H H') (hp : ∀ x y, P x y → P' x y) : IsL K H' P' v as := by
  obtain ⟨a, xs, e, q, l, r⟩ := h
  exact ⟨a, xs, e, s.seq q, l, fun j x y h1 h2 => hp _ _ (r j x y h1 h2)⟩
theorem IsL2.same {K : Frag} {H H' : Hp} {v : V} {rs : List (List Int)} (h : IsL K H (IsL K H IsI) v rs) (s : Same H H') : IsL K H' (IsL K H' IsI) v rs := IsL.mono h s fun x y q => IsL.mono q s fun _ _ z => z
end L2


set_option Elab.async false
set_option linter.all false
set_option maxRecDepth 100000
set_option maxHeartbeats 1000000
namespace L2
open PySem PySem.Spec PyProof.Rows PySem.W

section
variable {X : Cx}
end

structure KindsOf (K : Frag) (mg : Str → Option Value) (C : Addr) (b : Nat → Bool) : Prop where
  z : ExK K C
  k0 : kitOne K (.ref C) (.ref (clsAt mg "Unlike")) = some (b 0)
  k1 : kitOne K (.ref C) (.ref (clsAt mg "Empty")) = some (b 1)
  k2 : kitOne K (.ref C) (.ref (clsAt mg "TooMany")) = some (b 2)
  k3 : kitOne K (.ref C) (.ref (clsAt mg "NoTree")) = some (b 3)
  k4 : kitOne K (.ref C) (.ref (clsAt mg "NoTelling")) = some (b 4)
  k5 : kitOne K (.ref C) (.ref (clsAt mg "NoPlace")) = some (b 5)
  k6 : kitOne K (.ref C) (.ref (clsAt mg "NoNumber")) = some (b 6)
  k7 : kitOne K (.ref C) (.ref (clsAt mg "NoPast")) = some (b 7)
  k8 : kitOne K (.ref C) (.ref (clsAt mg "NoText")) = some (b 8)
  k9 : kitOne K (.ref C) (.ref (clsAt mg "NoLine")) = some (b 9)
  kd : kitOne K (.ref C) (.ref (clsAt mg "DipError")) = some true
  kv : kitOne K (.ref C) (.type "ValueError") = some true
end L2


set_option Elab.async false
set_option linter.all false
set_option maxRecDepth 100000
set_option maxHeartbeats 1000000
namespace L2
open PySem PySem.Spec PyProof.Rows PySem.W

def TupsAt (H : Hp) (l : Addr) (rs : List (List Int)) : Prop := ∃ as : List Addr, H l = some (.lst (as.map V.ref)) ∧ as.length = rs.length ∧ ∀ i (h1 : i < as.length) (h2 : i < rs.length), H as[i] = some (.tup (rs[i].map V.int))
theorem TupsAt.same {H H' : Hp} {l : Addr} {rs : List (List Int)} (R : TupsAt H l rs) (s : Same H H') : TupsAt H' l rs := by
  obtain ⟨as, h1, h2, h3⟩ := R
  exact ⟨as, s _ _ h1, h2, fun i i1 i2 => s _ _ (h3 i i1 i2)⟩
theorem TupsAt.nil {H : Hp} {l : Addr} (h : H l = some (.lst [])) : TupsAt H l [] := ⟨[], h, rfl, fun i i1 => absurd i1 (by simp)⟩
theorem TupsAt.push {H : Hp} {l t : Addr} {rs : List (List Int)} {r : List Int} {as : List Addr} (e : H l = some (.lst (as.map V.ref))) (hl : as.length = rs.length) (h : ∀ i (h1 : i < as.length) (h2 : i < rs.length), H as[i] = some (.tup (rs[i].map V.int))) (ht : H t = some (.tup (r.map V.int))) :
    TupsAt (upd H l (.lst (as.map V.ref ++ [V.ref t]))) l (rs ++ [r]) := by
  refine ⟨as ++ [t], by rw [upd_same]; simp, by simp [hl], fun i i1 i2 => ?_⟩
  have ne : ∀ (a : Addr) (xs : List V), H a = some (.tup xs) → a ≠ l := fun a xs h1 z => by rw [z, e] at h1; cases h1
  by_cases z : i < as.length
  · have h3 := h i z (by omega)
    rw [List.getElem_append_left z, List.getElem_append_left (show i < rs.length by omega), upd_ne (ne _ _ h3)]
    exact h3
  · have e1 : i = as.length := by simp at i1; omega
    subst e1
    rw [upd_ne (by simpa using ne _ _ ht)]
    simp [hl, ht]
end L2


set_option Elab.async false
set_option linter.all false
set_option maxRecDepth 100000
set_option maxHeartbeats 1000000
namespace L2
open PySem PySem.Spec PyProof.Rows PySem.W
def Once (k : Nat) (ss ls : List Int) : Prop := ss = ((List.range k).map fun (j : Nat) => (j : Int)).filter (fun j => decide (j ∉ ls)) ∧ ls = ((List.range k).map fun (j : Nat) => (j : Int)).filter (fun j => decide (j ∈ ls))
instance (k : Nat) (ss ls : List Int) : Decidable (Once k ss ls) := inferInstanceAs (Decidable (_ ∧ _))
theorem TupsAt.walk {K : Frag} {H1 : Hp} {d : Addr} {rs : List (List Int)} (R : TupsAt H1 d rs) : (∀ i H, Same H1 H → i < rs.length → (Itl K d).go i H) ∧ (∀ H, Same H1 H → (Itl K d).stop rs.length H) ∧
    ∀ i x H H' (h : i < rs.length), Same H1 H → (Itl K d).yld i H x H' → H' = H ∧ ∃ a, x = .ref a ∧ H a = some (.tup (rs[i].map V.int)) := by
  obtain ⟨as, e, hl, hh⟩ := R
  refine ⟨fun i H s hi => ⟨_, V.ref (as[i]'(by omega)), SqL.of (s _ _ e), by simp [show i < as.length by omega]⟩, fun H s => ⟨_, SqL.of (s _ _ e), by simp [hl]⟩, fun i x H H' hi s y => ?_⟩
  obtain ⟨e1, y⟩ := y
  have h1 := y _ (SqL.of (s _ _ e))
  rw [List.getElem?_map, List.getElem?_eq_getElem (show i < as.length by omega)] at h1
  cases h1
  exact ⟨e1, _, rfl, s _ _ (hh i (by omega) hi)⟩
theorem TupsAt.sq {K : Frag} {H : Hp} {l : Addr} {rs : List (List Int)} (R : TupsAt H l rs) : ∃ xs, SqL K H l xs := by
  obtain ⟨as, e, _⟩ := R
  exact ⟨_, SqL.of e⟩
end L2


set_option Elab.async false
set_option linter.all false
set_option maxRecDepth 100000
set_option maxHeartbeats 1000000
namespace L2
open PySem PySem.Spec PyProof.Rows PySem.W

theorem KinD.trans {f g h : Nat → Int} {n : Nat} (a : KinD f g n) (b : KinD g h n) : KinD f h n := fun i hi => (a i hi).trans (b i hi)
section
variable {X : Cx}
end
end L2


set_option Elab.async false
set_option linter.all false
set_option maxRecDepth 100000
set_option maxHeartbeats 1000000
namespace L2
open PySem PySem.Spec PyProof.Rows PySem.W

section
variable {N : Nat} {k : Nat → Int} {cmp : Nat → Nat → (Bool → Shared → Prop) → Shared → Prop} {s : Shared} {p : Array Nat}
def kk (k : Nat → Int) (p : Array Nat) (i : Nat) : Int := k (p.getD i 0)
def SoT (k : Nat → Int) (p : Array Nat) (m : Nat) : Prop := ∀ i j, i ≤ j → j < m → kk k p i ≤ kk k p j
def DeT (k : Nat → Int) (p : Array Nat) (m : Nat) : Prop := ∀ i j, i ≤ j → j < m → kk k p j ≤ kk k p i
def Bd (N : Nat) (p : Array Nat) : Prop := p.Perm (List.range N).toArray
theorem kk_congr {p q : Array Nat} {i j : Nat} (h : p[i]? = q[j]?) : kk k p i = kk k q j := by
  unfold kk; rw [Array.getD_eq_getD_getElem?, Array.getD_eq_getD_getElem?, h]
theorem Bd.size (h : Bd N p) : p.size = N := by
  have := (Array.perm_iff_toList_perm.mp h).length_eq
  simpa using this
theorem Bd.lt (h : Bd N p) (hN : 0 < N) (i : Nat) : p.getD i 0 < N := by
  rw [Array.getD_eq_getD_getElem?]
  by_cases hi : i < p.size
  · rw [getElem?_pos p i hi]
    have := (Array.Perm.mem_iff h (a := p[i])).mp (Array.getElem_mem hi)
    simpa using this
  · rw [getElem?_neg p i hi]; exact hN
theorem Bd.rev (h : Bd N p) (i j : Nat) : Bd N (kas_rev p i j) := (mirror_perm p i j _).trans h
theorem Bd.bub (h : Bd N p) (i j : Nat) : Bd N (bubble p i j) := (bubble_perm p i j).trans h
theorem kk_rev {i j : Nat} (hj : j ≤ p.size) (x : Nat) : kk k (kas_rev p i j) x = if i ≤ x ∧ x < j then kk k p (i + j - 1 - x) else kk k p x := by
  have e := getElem?_mirror_all (xs := p) (i := i) hj x
  by_cases h : i ≤ x ∧ x < j
  · rw [if_pos h] at e ⊢; exact kk_congr e
  · rw [if_neg h] at e ⊢; exact kk_congr e
theorem kk_rev_eq {i j : Nat} (hj : j ≤ p.size) (heq : ∀ x, i ≤ x → x < j → kk k p x = kk k p (j - 1)) (x : Nat) : kk k (kas_rev p i j) x = kk k p x := by
  rw [kk_rev hj]
  split
  · rw [heq _ (by omega) (by omega), heq x (by omega) (by omega)]
  · rfl
theorem kk_bub {src d : Nat} (hs : src < p.size) (hd : d ≤ src) (x : Nat) : kk k (bubble p src d) x = if x = src - d then kk k p src else if src - d < x ∧ x ≤ src then kk k p (x - 1) else kk k p x := by
  have e := getElem?_bubble hs d hd x
  by_cases h1 : x = src - d
  · rw [if_pos h1] at e ⊢; exact kk_congr e
  · rw [if_neg h1] at e ⊢
    by_cases h2 : src - d < x ∧ x ≤ src
    · rw [if_pos h2] at e ⊢; exact kk_congr e
    · rw [if_neg h2] at e ⊢; exact kk_congr e
def AskOk (N : Nat) (k : Nat → Int) (cmp : Nat → Nat → (Bool → Shared → Prop) → Shared → Prop) (s : Shared) : Prop := ∀ i j C, i < N → j < N → C (decide (k i < k j)) s → cmp i j C s
theorem SoT.next {m : Nat} (h : SoT k p m) (h1 : 1 ≤ m) (h2 : kk k p (m - 1) ≤ kk k p m) : SoT k p (m + 1) := by
  intro i j hij hj
  by_cases e : j = m
  · subst e
    by_cases e2 : i = j
    · rw [e2]; exact Int.le_refl _
    · exact Int.le_trans (h i (j - 1) (by omega) (by omega)) h2
  · exact h i j hij (by omega)
theorem DeT.next {m : Nat} (h : DeT k p m) (h1 : 1 ≤ m) (h2 : kk k p m ≤ kk k p (m - 1)) : DeT k p (m + 1) := by
  intro i j hij hj
  by_cases e : j = m
  · subst e
    by_cases e2 : i = j
    · rw [e2]; exact Int.le_refl _
    · exact Int.le_trans h2 (h i (j - 1) (by omega) (by omega))
  · exact h i j hij (by omega)
theorem asc_wp (hc : AskOk N k cmp s) (hN : 0 < N) (hB : Bd N p) {Q : Nat → Shared → Prop} : ∀ f n, 1 ≤ n → SoT k p n → (∀ m, n ≤ m → m ≤ n + f → SoT k p m → (m < n + f → kk k p m < kk k p (m - 1)) → Q m s) → (kas_asc p f n).kasWp cmp Q s
  | 0, n, h1, hS, h => h n (Nat.le_refl _) (by omega) hS (fun z => by omega)
  | f + 1, n, h1, hS, h => by
    refine hc _ _ _ (hB.lt hN n) (hB.lt hN (n - 1)) ?_
    by_cases z : kk k p n < kk k p (n - 1)
    · have : decide (k (p.getD n 0) < k (p.getD (n - 1) 0)) = true := decide_eq_true z
      rw [this]
      exact h n (Nat.le_refl _) (by omega) hS fun _ => z
    · have : decide (k (p.getD n 0) < k (p.getD (n - 1) 0)) = false := decide_eq_false z
      rw [this]
      exact asc_wp hc hN hB f (n + 1) (by omega) (hS.next h1 (by omega)) fun m m1 m2 hm hl => h m (by omega) (by omega) hm fun y => hl (by omega)
theorem desc_wp (hc : AskOk N k cmp s) (hN : 0 < N) {Q : Array Nat × Nat × Nat → Shared → Prop} : ∀ f (p : Array Nat) n q, Bd N p → 1 ≤ n → n + f ≤ N → q < n → DeT k p n → (∀ x, n - (q + 1) ≤ x → x < n → kk k p x = kk k p (n - 1)) →
    (∀ p' n' q', Bd N p' → n ≤ n' → n' ≤ n + f → q' < n' → DeT k p' n' → (∀ x, n' - (q' + 1) ≤ x → x < n' → kk k p' x = kk k p' (n' - 1)) → Q (p', n', q') s) → (kas_desc f p n q).kasWp cmp Q s
  | 0, p, n, q, hB, h1, hn, hq, hD, he, h => h p n q hB (Nat.le_refl _) (by omega) hq hD he
  | f + 1, p, n, q, hB, h1, hn, hq, hD, he, h => by
    refine hc _ _ _ (hB.lt hN n) (hB.lt hN (n - 1)) ?_
    have hz := hB.size
    by_cases z : kk k p n < kk k p (n - 1)
    · have : decide (k (p.getD n 0) < k (p.getD (n - 1) 0)) = true := decide_eq_true z
      rw [this]
      show KasT.kasWp cmp (if q > 0 then kas_desc f (kas_rev p (n - (q + 1)) n) (n + 1) 0 else kas_desc f p (n + 1) 0) Q s
      by_cases y : q > 0
      · rw [if_pos y]
        have ke := kk_rev_eq (k := k) (p := p) (i := n - (q + 1)) (j := n) (by omega) he
        refine desc_wp hc hN f _ (n + 1) 0 (hB.rev _ _) (by omega) (by omega) (by omega) ?_ (fun x x1 x2 => by rw [show x = n + 1 - 1 by omega]) fun p' n' q' b1 b2 b3 => h p' n' q' b1 (by omega) (by omega)
        refine DeT.next (fun i j i1 j1 => by rw [ke, ke]; exact hD i j i1 j1) h1 (by rw [ke, ke]; omega)
      · rw [if_neg y]
        exact desc_wp hc hN f p (n + 1) 0 hB (by omega) (by omega) (by omega) (hD.next h1 (by omega)) (fun x x1 x2 => by rw [show x = n + 1 - 1 by omega]) fun p' n' q' b1 b2 b3 => h p' n' q' b1 (by omega) (by omega)
    · have : decide (k (p.getD n 0) < k (p.getD (n - 1) 0)) = false := decide_eq_false z
      rw [this]
      refine hc _ _ _ (hB.lt hN (n - 1)) (hB.lt hN n) ?_
      by_cases y : kk k p (n - 1) < kk k p n
      · have : decide (k (p.getD (n - 1) 0) < k (p.getD n 0)) = true := decide_eq_true y
        rw [this]
        exact h p n q hB (Nat.le_refl _) (by omega) hq hD he
      · have : decide (k (p.getD (n - 1) 0) < k (p.getD n 0)) = false := decide_eq_false y
        rw [this]
        have e : kk k p n = kk k p (n - 1) := by omega
        refine desc_wp hc hN f p (n + 1) (q + 1) hB (by omega) (by omega) (by omega) (hD.next h1 (by omega)) (fun x x1 x2 => ?_) fun p' n' q' b1 b2 b3 => h p' n' q' b1 (by omega) (by omega)
        rw [Nat.add_sub_cancel]
        by_cases w : x = n
        · rw [w]
        · rw [e]; exact he x (by omega) (by omega)
theorem tail3_wp (hc : AskOk N k cmp s) (hN : 0 < N) {Q : Nat × Array Nat → Shared → Prop} {n nrem : Nat} (hB : Bd N p) (h1 : 1 ≤ n) (hn : n ≤ nrem) (hr : nrem ≤ N) (hD : DeT k p n)
    (h : ∀ m p', Bd N p' → n ≤ m → m ≤ nrem → SoT k p' m → Q (m, p') s) : (kas_tail3 n nrem p).kasWp cmp Q s := by
  unfold kas_tail3
  rw [KasT.kasWp_bind]
  have hz := hB.size
  refine asc_wp hc hN (hB.rev 0 n) _ n h1 (fun i j hij hj => ?_) fun m m1 m2 hS _ => h m _ (hB.rev 0 n) m1 (by omega) hS
  rw [kk_rev (by omega), kk_rev (by omega), if_pos (by omega), if_pos (by omega)]
  exact hD _ _ (by omega) (by omega)
theorem descPart_wp (hc : AskOk N k cmp s) (hN : 0 < N) {Q : Nat × Array Nat → Shared → Prop} {n nrem : Nat} (hB : Bd N p) (hn : n + 1 ≤ nrem) (hr : nrem ≤ N) (hD : DeT k p (n + 1))
    (h : ∀ m p', Bd N p' → 1 ≤ m → m ≤ nrem → SoT k p' m → Q (m, p') s) : (kas_descPart n nrem p).kasWp cmp Q s := by
  unfold kas_descPart
  rw [KasT.kasWp_bind]
  refine desc_wp hc hN _ p (n + 1) 0 hB (by omega) (by omega) (by omega) hD (fun x x1 x2 => by rw [show x = n + 1 - 1 by omega]) fun p' n' q' b1 b2 b3 b4 hD' he => ?_
  show KasT.kasWp cmp (if q' > 0 then kas_tail3 n' nrem (kas_rev p' (n' - (q' + 1)) n') else kas_tail3 n' nrem p') Q s
  have hz := b1.size
  by_cases y : q' > 0
  · rw [if_pos y]
    have ke := kk_rev_eq (k := k) (p := p') (i := n' - (q' + 1)) (j := n') (by omega) he
    exact tail3_wp hc hN (b1.rev _ _) (by omega) (by omega) hr (fun i j i1 j1 => by rw [ke, ke]; exact hD' i j i1 j1) fun m p2 c1 c2 c3 => h m p2 c1 (by omega) c3
  · rw [if_neg y]
    exact tail3_wp hc hN b1 (by omega) (by omega) hr hD' fun m p2 c1 c2 c3 => h m p2 c1 (by omega) c3
theorem count_wp (hc : AskOk N k cmp s) (hN : 0 < N) {Q : Nat × Array Nat → Shared → Prop} {nrem : Nat} (hB : Bd N p) (h0 : 1 ≤ nrem) (hr : nrem ≤ N)
    (h : ∀ m p', Bd N p' → 1 ≤ m → m ≤ nrem → SoT k p' m → Q (m, p') s) : (kas_count nrem p).kasWp cmp Q s := by
  unfold kas_count
  rw [KasT.kasWp_bind]
  have hz := hB.size
  refine asc_wp hc hN hB _ 1 (Nat.le_refl _) (fun i j hij hj => by rw [show i = j by omega]; exact Int.le_refl _) fun n n1 n2 hS hl => ?_
  by_cases e : (n == nrem) = true
  · rw [if_pos e]
    exact h n p hB n1 (by omega) hS
  · rw [if_neg e]
    have ne : n ≠ nrem := fun z => e (by rw [z]; exact beq_self_eq_true _)
    have hlt := hl (by omega)
    by_cases y : n > 1
    · rw [if_pos y]
      refine hc _ _ _ (hB.lt hN 0) (hB.lt hN (n - 1)) ?_
      by_cases z : kk k p 0 < kk k p (n - 1)
      · have : decide (k (p.getD 0 0) < k (p.getD (n - 1) 0)) = true := decide_eq_true z
        rw [this]
        exact h n p hB n1 (by omega) hS
      · have : decide (k (p.getD 0 0) < k (p.getD (n - 1) 0)) = false := decide_eq_false z
        rw [this]
        have alle : ∀ x, 0 ≤ x → x < n → kk k p x = kk k p (n - 1) := fun x _ hx => by
          have a := hS 0 x (by omega) hx
          have b := hS x (n - 1) (by omega) (by omega)
          omega
        have ke := kk_rev_eq (k := k) (p := p) (i := 0) (j := n) (by omega) alle
        refine descPart_wp hc hN (hB.rev 0 n) (by omega) hr (DeT.next (fun i j i1 j1 => ?_) (by omega) (by rw [ke, ke]; omega)) h
        rw [ke, ke, alle i (by omega) (by omega), alle j (by omega) (by omega)]
        exact Int.le_refl _
    · rw [if_neg y]
      have : n = 1 := by omega
      subst this
      exact descPart_wp hc hN hB (by omega) hr (DeT.next (fun i j i1 j1 => by rw [show i = j by omega]; exact Int.le_refl _) (Nat.le_refl _) (by omega)) h
theorem place_wp (hc : AskOk N k cmp s) (hN : 0 < N) (hB : Bd N p) {x : Nat} {Q : Nat → Shared → Prop} (hS : SoT k p x) : ∀ f l r, l ≤ r → r ≤ x → r - l ≤ f → (∀ i, i < l → kk k p i ≤ kk k p x) → (∀ i, r ≤ i → i < x → kk k p x < kk k p i) →
    (∀ l, l ≤ x → (∀ i, i < l → kk k p i ≤ kk k p x) → (∀ i, l ≤ i → i < x → kk k p x < kk k p i) → Q l s) → (kas_place p x f l r).kasWp cmp Q s
  | 0, l, r, h1, h2, h3, hlo, hhi, h => h l (by omega) hlo (fun i i1 i2 => hhi i (by omega) i2)
  | f + 1, l, r, h1, h2, h3, hlo, hhi, h => by
    show KasT.kasWp cmp (if l ≥ r then .ret l else .ask (p.getD x 0) (p.getD ((l + r) / 2) 0) fun c => if c = true then kas_place p x f l ((l + r) / 2) else kas_place p x f ((l + r) / 2 + 1) r) Q s
    by_cases y : l ≥ r
    · rw [if_pos y]
      exact h l (by omega) hlo (fun i i1 i2 => hhi i (by omega) i2)
    · rw [if_neg y]
      refine hc _ _ _ (hB.lt hN x) (hB.lt hN _) ?_
      by_cases z : kk k p x < kk k p ((l + r) / 2)
      · have : decide (k (p.getD x 0) < k (p.getD ((l + r) / 2) 0)) = true := decide_eq_true z
        rw [this]
        exact place_wp hc hN hB hS f l ((l + r) / 2) (by omega) (by omega) (by omega) hlo (fun i i1 i2 => Int.lt_of_lt_of_le z (hS _ _ i1 i2)) h
      · have : decide (k (p.getD x 0) < k (p.getD ((l + r) / 2) 0)) = false := decide_eq_false z
        rw [this]
        exact place_wp hc hN hB hS f ((l + r) / 2 + 1) r (by omega) (by omega) (by omega) (fun i i1 => Int.le_trans (hS i ((l + r) / 2) (by omega) (by omega)) (Int.not_lt.mp z)) hhi h
theorem bin_wp (hc : AskOk N k cmp s) (hN : 0 < N) {Q : Array Nat → Shared → Prop} : ∀ f (p : Array Nat) x, Bd N p → x + f ≤ N → SoT k p x → (∀ p', Bd N p' → SoT k p' (x + f) → Q p' s) → (kas_bin f p x).kasWp cmp Q s
  | 0, p, x, hB, hx, hS, h => h p hB hS
  | f + 1, p, x, hB, hx, hS, h => by
    show KasT.kasWp cmp ((kas_place p x x 0 x).bind fun l => kas_bin f (bubble p x (x - l)) (x + 1)) Q s
    rw [KasT.kasWp_bind]
    have hz := hB.size
    refine place_wp hc hN hB hS x 0 x (by omega) (Nat.le_refl _) (by omega) (fun i hi => by omega) (fun i i1 i2 => by omega) fun l hl hlo hhi => ?_
    refine bin_wp hc hN f _ (x + 1) (hB.bub _ _) (by omega) (fun i j hij hj => ?_) fun p' b1 b2 => h p' b1 (by rw [show x + (f + 1) = x + 1 + f by omega]; exact b2)
    rw [kk_bub (by omega) (by omega), kk_bub (by omega) (by omega), show x - (x - l) = l by omega]
    repeat' split
    all_goals first
      | (exfalso; omega)
      | exact Int.le_refl _
      | exact hlo _ (by omega)
      | exact Int.le_of_lt (hhi _ (by omega) (by omega))
      | exact hS _ _ (by omega) (by omega)
theorem sort_wp (hN : 0 < N) (hc : AskOk N k cmp s) {Q : Array Nat → Shared → Prop} (h : ∀ p, Bd N p → SoT k p N → Q p s) : (kas_sort N).kasWp cmp Q s := by
  unfold kas_sort
  rw [KasT.kasWp_bind]
  refine count_wp hc hN (show Bd N (List.toArray (List.range N)) from Array.Perm.refl _) (by omega) (Nat.le_refl _) fun m p' b1 b2 b3 b4 => ?_
  show KasT.kasWp cmp (if m < N then kas_bin (N - max m 1) p' (max m 1) else .ret p') Q s
  by_cases y : m < N
  · rw [if_pos y]
    have e : max m 1 = m := by omega
    rw [e]
    exact bin_wp hc hN _ p' m b1 (by omega) b4 fun p2 c1 c2 => h p2 c1 (by rw [show m + (N - m) = N by omega] at c2; exact c2)
  · rw [if_neg y]
    have : m = N := by omega
    subst this
    exact h p' b1 b4
end
end L2


set_option Elab.async false
set_option linter.all false
set_option maxRecDepth 100000
set_option maxHeartbeats 1000000
namespace L2
open PySem PySem.Spec PyProof.Rows PySem.W

section
variable {prog : Program} {w : World} {E : Value → Shared → Prop} {s : Shared}
def outBy (vs : List Value) (p : Array Nat) : Array Value := List.toArray (p.toList.map fun i => vs.getD i Value.none)
theorem list_sortX {A : Around} {κ : SortKind} {key : Nat → Int} {a : Addr} {vs : List Value} {n : Nat} {P : PySem.Fin → Shared → Prop} (ho : s.heap.get? a = some (seqObj "list" vs.toArray n)) (h64 : vs.length < 64)
    (hk : ∀ s' : Shared, (∀ b o, b ≠ a → s.heap.get? b = some o → s'.heap.get? b = some o) → 2 ≤ vs.length → (∀ Q : SortKind → Shared → Prop, Q κ s' → wpAny (model prog w) A (keyKind' vs.toArray) Q E s') ∧ AskOk vs.length key (kas_ask prog w A κ vs) s')
    (fin : ∀ p : Array Nat, Bd vs.length p → SoT key p vs.length → P (.done (.ret .none)) { s with heap := sortedHeap s.heap a vs (outBy vs p) }) : wpAny (model prog w) A (Builtin.«list.sort» ⟨[.ref a], []⟩) P E s := by
  have lt := Heap.lt_size ho
  obtain ⟨c1, oc1⟩ : ∃ c1, (s.heap.update a (Obj.mapSeq fun _ => #[])).get? a = some (seqObj "list" #[] c1) := ⟨_, get?_update_seq ho fun _ => #[]⟩
  have oc6 : (((s.heap.update a (Obj.mapSeq fun _ => #[])).push (seqObj "tuple" vs.toArray 0)).push (seqObj "list" #[] 0)).get? a = some (seqObj "list" #[] c1) := Heap.get?_push_of_some _ (Heap.get?_push_of_some _ oc1)
  have kp : ∀ b o, b ≠ a → s.heap.get? b = some o → (((s.heap.update a (Obj.mapSeq fun _ => #[])).push (seqObj "tuple" vs.toArray 0)).push (seqObj "list" #[] 0)).get? b = some o := fun b o nb e =>
    Heap.get?_push_of_some _ (Heap.get?_push_of_some _ (by rw [Heap.get?_update_ne _ _ _ _ nb]; exact e))
  have z1 : vs.toArray.size = vs.length := List.size_toArray ..
  have za : ∀ p : Array Nat, Bd vs.length p → (outBy vs p).size ≤ sizeLine := fun p hp => by
    have := hp.size
    unfold outBy
    rw [List.size_toArray, List.length_map, Array.length_toList, this, sizeLine_eq]; omega
  rw [list_sort_plain]
  have hob := ho
  refine wpAny_bind (listItems_at hob rfl (wpAny_bind ?_))
  refine listUpdate_at hob rfl (wpAny_bind (seqEpoch_at oc1 rfl (wpAny_bind ?_))) (by rw [z1, sizeLine_eq]; omega) (Nat.zero_le _)
  refine wpAny_newTuple (wpAny_bind ?_) (Nat.le_trans (show vs.length ≤ 64 by omega) (by decide))
  refine wpAny_newList (wpAny_holding ?_) (Nat.zero_le _)
  show wpAny (model prog w) A _ P E { s with heap := (((s.heap.update a (Obj.mapSeq fun _ => #[])).push (seqObj "tuple" vs.toArray 0)).push (seqObj "list" #[] 0)) }
  dsimp only
  by_cases h2 : vs.toArray.size < 2
  · rw [if_pos h2, if_pos h2]
    refine wpAny_bind (wpAny_pure ?_)
    rw [StateT.run_pure]
    refine wpAny_bind (wpAny_pure ?_)
    have hB : Bd vs.length (List.range vs.length).toArray := Array.Perm.refl _
    have e := kas_range (vs.toArray.zip vs.toArray)
    rw [show (vs.toArray.zip vs.toArray).size = vs.length by simp] at e
    have eo : (arrOf (SortSt.mk' general' (vs.toArray.zip vs.toArray) #[] 7 none)).map (·.2) = outBy vs (List.range vs.length).toArray := kat_snds (ks := vs) (vs := vs) rfl e.symm
    dsimp only
    rw [eo]
    refine wpAny_bind (seqEpoch_at oc6 rfl (wpAny_bind (listUpdate_at oc6 rfl ?_ (Nat.zero_le _) (Nat.le_succ_of_le (za _ hB)))))
    simp only [bne_self_eq_false, Bool.false_eq_true, if_false]
    exact wpAny_pure (fin _ hB fun i j h1 hj => by rw [show i = j by omega]; exact Int.le_refl _)
  · rw [if_neg h2, if_neg h2]
    have h2' : 2 ≤ vs.length := by omega
    obtain ⟨hk1, hk2⟩ := hk { s with heap := (((s.heap.update a (Obj.mapSeq fun _ => #[])).push (seqObj "tuple" vs.toArray 0)).push (seqObj "list" #[] 0)) } kp h2'
    refine wpAny_bind (hk1 _ (wpAny_bind (wpAny_mono (kat_run (ks := vs) (vs := vs) (Q := fun st s' => ∃ p : Array Nat, Bd vs.length p ∧ SoT key p vs.length ∧ arrOf st = p.map (kas_item (vs.toArray.zip vs.toArray)) ∧ failedOf st = none ∧ s' = { s with heap := (((s.heap.update a (Obj.mapSeq fun _ => #[])).push (seqObj "tuple" vs.toArray 0)).push (seqObj "list" #[] 0)) })
      (G := fun p s' => Bd vs.length p ∧ SoT key p vs.length ∧ s' = { s with heap := (((s.heap.update a (Obj.mapSeq fun _ => #[])).push (seqObj "tuple" vs.toArray 0)).push (seqObj "list" #[] 0)) }) rfl h2' h64 (fun p st s' _ a2 a3 a4 => ⟨p, a4.1, a4.2.1, a2, a3, a4.2.2⟩) (sort_wp (by omega) hk2 fun p b1 b2 => ⟨b1, b2, rfl⟩)) ?_ fun _ _ z => z)))
    rintro ⟨⟨⟩, st⟩ s' ⟨p, b1, b2, har, hf, rfl⟩
    have eo : (arrOf st).map (·.2) = outBy vs p := kat_snds (ks := vs) (vs := vs) rfl har
    dsimp only
    rw [eo]
    refine wpAny_bind (seqEpoch_at oc6 rfl (wpAny_bind (listUpdate_at oc6 rfl ?_ (Nat.zero_le _) (Nat.le_succ_of_le (za _ b1)))))
    rw [hf]
    simp only [bne_self_eq_false, Bool.false_eq_true, if_false]
    exact wpAny_pure (fin p b1 b2)
theorem sortedX {A : Around} {κ : SortKind} {key : Nat → Int} {l : Addr} {vs : List Value} {Q : Value → Shared → Prop} (hl : s.heap.IsList l vs.toArray) (h64 : vs.length < 64)
    (hk : ∀ (A' : Around) (E' : Value → Shared → Prop) (s' : Shared), (∀ b o, s.heap.get? b = some o → s'.heap.get? b = some o) → 2 ≤ vs.length → (∀ Q : SortKind → Shared → Prop, Q κ s' → wpAny (model prog w) A' (keyKind' vs.toArray) Q E' s') ∧ AskOk vs.length key (kas_ask prog w A' κ vs) s')
    (fin : ∀ p : Array Nat, Bd vs.length p → SoT key p vs.length → Q (.ref (s.heap.objs.size + 1)) { s with heap := sortedAll s.heap vs (outBy vs p) }) : wpAny (model prog w) A (call (.builtin "sorted") [.ref l]) Q E s := by
  refine Calls.call_function_entry kind_sorted plain_sorted entry_sorted (args_sorted1 _) ?_
  unfold Builtin.«sorted»
  refine wpAny_bind (m := checkCount "sorted" 1 1 _) (wpAny_pure (wpAny_bind (collect_list hl (wpAny_bind (wpAny_newList ?_ (by rw [sizeLine_eq]; omega))) (by rw [sizeLine_eq]; omega))))
  have z5 : ((s.heap.push (seqObj "list" #[] 0)).update s.heap.objs.size (Obj.mapSeq (· ++ vs.toArray))).objs.size = s.heap.objs.size + 1 := (Heap.size_update ..).trans (size_push' ..)
  have o5 : (((s.heap.push (seqObj "list" #[] 0)).update s.heap.objs.size (Obj.mapSeq (· ++ vs.toArray))).push (seqObj "list" vs.toArray 0)).get? (s.heap.objs.size + 1) = some (seqObj "list" vs.toArray 0) := z5 ▸ Heap.get?_push_size _ rfl
  have kp : ∀ b o, s.heap.get? b = some o → (((s.heap.push (seqObj "list" #[] 0)).update s.heap.objs.size (Obj.mapSeq (· ++ vs.toArray))).push (seqObj "list" vs.toArray 0)).get? b = some o := fun b o e => by
    have hlt := Heap.lt_size e
    refine Heap.get?_push_of_some _ ?_
    rw [Heap.get?_update_ne _ _ _ _ (Nat.ne_of_lt hlt)]
    exact Heap.get?_push_of_some _ e
  show wpAny _ _ _ _ _ { s with heap := (((s.heap.push (seqObj "list" #[] 0)).update s.heap.objs.size (Obj.mapSeq (· ++ vs.toArray))).push (seqObj "list" vs.toArray 0)) }
  rw [z5]
  refine wpAny_bind (wpAny_holding (wpAny_call_entry slot_list_sort ⟨_, o5, rfl⟩ entry_list_sort (list_sortX (κ := κ) (key := key) o5 h64 (fun s' k6 h2 => hk _ _ s' (fun b o e => k6 b o (Nat.ne_of_lt (Nat.lt_succ_of_lt (Heap.lt_size e))) (kp b o e)) h2) fun p b1 b2 => ⟨_, rfl, ?_⟩) (args_list_sort _)))
  exact wpAny_pure ⟨_, rfl, fin p b1 b2⟩

def Pr (h : Heap) (v : Value) (x y : Int) : Prop := ∃ a o n t u, v = .ref a ∧ h.get? a = some o ∧ o.cls = .type "tuple" ∧ o.data = .seq #[.int x t, .int y u] n
theorem Pr.keep {h h' : Heap} {v : Value} {x y : Int} (p : Pr h v x y) (k : ∀ b o, h.get? b = some o → h'.get? b = some o) : Pr h' v x y := by
  obtain ⟨a, o, n, t, u, e, g, r⟩ := p
  exact ⟨a, o, n, t, u, e, k _ _ g, r⟩
theorem tups_of {h : Heap} : ∀ {vs : List Value}, (∀ v ∈ vs, ∃ x y, Pr h v x y) → ∃ fs, KatTups h vs fs ∧ fs.length = vs.length ∧ ∀ f ∈ fs, ∃ x t, f = Value.int x t
  | [], _ => ⟨[], trivial, rfl, fun f hf => by cases hf⟩
  | v :: vs, hv => by
    obtain ⟨fs, h1, h2, h3⟩ := tups_of (fun u hu => hv u (List.mem_cons_of_mem _ hu))
    obtain ⟨x, y, a, o, n, t, u, rfl, e, c, d⟩ := hv v List.mem_cons_self
    refine ⟨.int x t :: fs, KatTups.cons e c d rfl h1, by simp [h2], fun f hf => ?_⟩
    rcases List.mem_cons.mp hf with rfl | hf
    · exact ⟨x, t, rfl⟩
    · exact h3 f hf
theorem pairs_kind {A : Around} {vs : List Value} {Q : SortKind → Shared → Prop} (h2 : 2 ≤ vs.length) (hv : ∀ v ∈ vs, ∃ x y, Pr s.heap v x y) (h : Q (tuples' true) s) : wpAny (model prog w) A (keyKind' vs.toArray) Q E s := by
  obtain ⟨fs, h1, hl, h3⟩ := tups_of hv
  refine kat_kind h1 (by omega) (T := .type "int") (fun f hf => ?_) (by decide) ?_
  · obtain ⟨x, t, rfl⟩ := h3 f hf
    exact .now
  · rw [show (Value.type "int" != Value.type "tuple") = true by decide]; exact h
theorem pairs_lt {A : Around} {v v' : Value} {x y x' y' : Int} {C : Bool → Shared → Prop} (p : Pr s.heap v x y) (p' : Pr s.heap v' x' y') (h : C (decide (x < x' ∨ (x = x' ∧ y < y'))) s) : wpAny (model prog w) A (keyLt' (tuples' true) v v') C E s := by
  obtain ⟨a, o, n, t, u, rfl, e, c, d⟩ := p
  obtain ⟨a', o', n', t', u', rfl, e', c', d'⟩ := p'
  refine kat_lt e d e' d' ?_
  show KatLex prog w A true _ C [(.int x t, .int x' t'), (.int y u, .int y' u')] 0 s
  refine kat_cons (wpAny_eqBool_int ?_)
  by_cases ex : x = x'
  · rw [show (x == x') = true from beq_iff_eq.mpr ex]
    refine kat_yes (kat_cons (wpAny_eqBool_int ?_))
    by_cases ey : y = y'
    · rw [show (y == y') = true from beq_iff_eq.mpr ey]
      refine kat_yes (kat_nil ?_)
      have : decide (x < x' ∨ (x = x' ∧ y < y')) = false := decide_eq_false (by omega)
      rw [this] at h
      exact h
    · rw [show (y == y') = false from beq_eq_false_iff_ne.mpr ey]
      refine kat_no (kat_one _ _ (PyProof.Rows.lt_int (show C (decide (y < y')) s from ?_)))
      have : decide (x < x' ∨ (x = x' ∧ y < y')) = decide (y < y') := decide_eq_decide.mpr (by omega)
      rw [this] at h
      exact h
  · rw [show (x == x') = false from beq_eq_false_iff_ne.mpr ex]
    refine kat_no (oneLt_int ?_)
    have : decide (x < x' ∨ (x = x' ∧ y < y')) = decide (x < x') := decide_eq_decide.mpr (by omega)
    rw [this] at h
    exact h
end
section
variable {X : Cx}
def pairK (r : List Int) : Int := r.getD 0 0 * 100000 + r.getD 1 0
def rSortT (K : Frag) : List V → Hp → VK → Prop := fun xs H Q => ∃ (p : Addr) (rs : List (List Int)), xs = [.ref p] ∧ TupsAt H p rs ∧ (∀ r ∈ rs, ∃ x y, r = [x, y] ∧ 0 ≤ y ∧ y < 100000) ∧ rs.length < 64 ∧ ∀ (rs' : List (List Int)) (l : Addr) (H' : Hp), rs'.Perm rs → rs'.Pairwise (fun r r' => pairK r ≤ pairK r') → H l = none → Same H H' → TupsAt H' l rs' → Q (.ref l) H'
theorem call_sortedT {K : Frag} (hK : X.K = K) : CallR X (.builtin "sorted") (rSortT K) := by
  subst hK
  intro pins s σ H xs us Q I r h
  obtain ⟨p, rs, rfl, ⟨as, hp, hla, hT⟩, hR, hn, q⟩ := h
  obtain ⟨u, rfl, ru⟩ := r.one
  cases (show u = Value.ref p from ru)
  obtain ⟨its, rv, pl, hz⟩ := I.list (SqL.of hp)
  have hl : its.length = rs.length := by have := rv.length; rw [List.length_map] at this; omega
  have hits : ∀ i (h1 : i < its.length) (h2 : i < as.length), its[i] = Value.ref as[i] := fun i h1 h2 => by
    obtain ⟨v, e1, e2⟩ := rv.get (i := i) (x := V.ref as[i]) (by rw [List.getElem?_map, List.getElem?_eq_getElem h2]; rfl)
    rw [List.getElem?_eq_getElem h1] at e1
    cases e1
    exact e2
  have hPr : ∀ i (h1 : i < its.length) (h2 : i < rs.length), ∃ x y, rs[i] = [x, y] ∧ 0 ≤ y ∧ y < 100000 ∧ Pr s.heap its[i] x y := fun i h1 h2 => by
    obtain ⟨x, y, e, y0, y1⟩ := hR _ (List.getElem_mem h2)
    obtain ⟨_, tv, hv, o, g, c, n, d⟩ := I.hok _ _ (hT i (by omega) h2)
    rw [e] at hv
    obtain ⟨v1, v2, rfl, ⟨t1, rfl⟩, ⟨t2, rfl⟩⟩ := hv.two
    exact ⟨x, y, e, y0, y1, as[i]'(by omega), o, n, t1, t2, hits i h1 (by omega), g, c, d⟩
  have hPm : ∀ v ∈ its, ∃ x y, Pr s.heap v x y := fun v hv => by
    obtain ⟨i, h1, rfl⟩ := List.getElem_of_mem hv
    obtain ⟨x, y, _, _, _, hp⟩ := hPr i h1 (by omega)
    exact ⟨x, y, hp⟩
  refine sortedX (κ := tuples' true) (key := fun i => pairK (rs.getD i [])) pl.isList (by omega) (fun A' E' s' kp h2 => ⟨fun Q' hq => pairs_kind h2 (fun v hv => ?_) hq, fun i j C hi hj hC => ?_⟩) fun p' hB hS => ?_
  · obtain ⟨x, y, hp⟩ := hPm v hv
    exact ⟨x, y, hp.keep kp⟩
  · obtain ⟨x, y, e, y0, y1, hp1⟩ := hPr i hi (by omega)
    obtain ⟨x', y', e', y0', y1', hp2⟩ := hPr j hj (by omega)
    unfold kas_ask
    rw [show its.getD i Value.none = its[i] by simp [hi], show its.getD j Value.none = its[j] by simp [hj]]
    refine pairs_lt (hp1.keep kp) (hp2.keep kp) ?_
    have ei : pairK (rs.getD i []) = x * 100000 + y := by simp [pairK, List.getD_eq_getElem?_getD, show i < rs.length by omega, e]
    have ej : pairK (rs.getD j []) = x' * 100000 + y' := by simp [pairK, List.getD_eq_getElem?_getD, show j < rs.length by omega, e']
    have : decide (pairK (rs.getD i []) < pairK (rs.getD j [])) = decide (x < x' ∨ (x = x' ∧ y < y')) := by rw [ei, ej]; exact decide_eq_decide.mpr (by omega)
    rw [← this]; exact hC
  · have hsz : p'.size = rs.length := hB.size.trans hl
    have hlt : ∀ i ∈ p'.toList, i < rs.length := fun i hi => by
      have := (Array.perm_iff_toList_perm.mp hB).mem_iff.mp hi
      simpa [hl] using this
    have sm : Same H (upd H (s.heap.objs.size + 1) (.lst ((p'.toList.map fun i => as.getD i 0).map V.ref))) := (Same.refl H).upd (I.hok.fresh (Nat.le_succ _))
    refine ⟨.ref (s.heap.objs.size + 1), _, I.laid (t' := s.toks) (a := s.heap.objs.size + 1) (o := .lst ((p'.toList.map fun i => as.getD i 0).map V.ref)) (fun b o e => sortedAll_old e) (Nat.le_succ _) ?_, rfl, q (p'.toList.map fun i => rs.getD i []) _ _ ?_ ?_ (I.hok.fresh (Nat.le_succ _)) sm ⟨_, upd_same, by simp, fun i i1 i2 => sm _ _ ?_⟩⟩
    · obtain ⟨n, e⟩ := sortedAll_at s.heap its (outBy its p')
      refine ⟨Nat.le_trans (show _ ≤ 1000 by simp; omega) (by decide), (outBy its p').toList, n, ?_, by rw [e]⟩
      have key : ∀ (l : List Nat), (∀ i ∈ l, i < rs.length) → Vals ((l.map fun i => as.getD i 0).map V.ref) (l.map fun i => its.getD i Value.none) := by
        intro l
        induction l with
        | nil => intro _; exact .nil
        | cons a l ih =>
          intro hl'
          refine .cons ?_ (ih fun i hi => hl' i (List.mem_cons_of_mem _ hi))
          have ha := hl' a List.mem_cons_self
          have h1 : a < its.length := by omega
          have h2 : a < as.length := by omega
          show its.getD a Value.none = Value.ref (as.getD a 0)
          rw [show its.getD a Value.none = its[a] by simp [h1], show as.getD a 0 = as[a] by simp [h2]]
          exact hits a h1 h2
      exact key _ hlt
    · have := (Array.perm_iff_toList_perm.mp hB).map fun i => rs.getD i []
      refine this.trans ?_
      have e : ((List.range its.length).toArray.toList.map fun i => rs.getD i []) = rs := by
        rw [hl]
        refine List.ext_getElem (by simp) fun i i1 i2 => ?_
        have : i < rs.length := i2
        simp [List.getD_eq_getElem?_getD, this]
      rw [e]
    · rw [List.pairwise_iff_getElem]
      intro i j i1 j1 hij
      have i2 : i < p'.size := by simpa using i1
      have j2 : j < p'.size := by simpa using j1
      have := hS i j (by omega) (by omega)
      unfold kk at this
      rw [Array.getD_eq_getD_getElem?, Array.getD_eq_getD_getElem?, getElem?_pos p' i i2, getElem?_pos p' j j2] at this
      simpa using this
    · have i3 : i < p'.toList.length := by simpa using i1
      have hi := hlt _ (List.getElem_mem i3)
      have h2 : p'.toList[i] < as.length := by omega
      have := hT _ h2 hi
      have e1 : (p'.toList.map fun i => as.getD i 0)[i]'(by simpa using i1) = as[p'.toList[i]] := by rw [List.getElem_map, List.getD_eq_getElem?_getD, List.getElem?_eq_getElem h2]; rfl
      have e2 : (p'.toList.map fun i => rs.getD i [])[i]'(by simpa using i2) = rs[p'.toList[i]] := by rw [List.getElem_map, List.getD_eq_getElem?_getD, List.getElem?_eq_getElem hi]; rfl
      rw [e1, e2]; exact this
end
end L2


set_option Elab.async false
set_option linter.all false
set_option maxRecDepth 100000
set_option maxHeartbeats 1000000
namespace L2
open PySem PySem.Spec PyProof.Rows PySem.W

theorem kin_tree {ns T ms : List Int} (hT : TreeIs ns T) (hl : ms.length = T.length) (h : ∀ p q : Nat, p < T.length → nth T p = q → nth ms q + (if p < q then 1 else 0) ≤ nth ms p) : TreeIs ms T := by
  have eT : T.length = ns.length := hT.1
  refine ⟨hl.symm, fun p hp => ?_⟩
  have := tree_row (g := nth ms) hT (fun q p hq hp hO => ?_) p (by omega)
  · rw [hl, eT]; exact this
  · have R := over_ind hT (R := fun o p => nth ms o ≤ nth ms p ∧ (p < o → nth ms o < nth ms p)) (fun p q p1 q1 e _ => ?_) (fun o q p O1 O2 r1 r2 => ?_) _ _ _ hp hq rfl hO
    · exact ⟨fun _ => R.1, R.2⟩
    · have := h p q (by omega) e
      refine ⟨?_, fun z => ?_⟩
      · split at this <;> omega
      · rw [if_pos z] at this; omega
    · refine ⟨by omega, fun z => ?_⟩
      by_cases y : p < q
      · have := r2.2 y; omega
      · have := O2.ne
        have := r1.2 (by omega)
        omega
theorem spine_congr {f g : Nat → Int} {i : Nat} {S : List Nat} (h : ∀ q, q < i → f q = g q) (hs : Spine f i S) : Spine g i S := by
  refine ⟨hs.1, fun q => (hs.2 q).trans ⟨fun ⟨h1, h2⟩ => ⟨h1, fun r r1 r2 => by rw [← h q h1, ← h r r2]; exact h2 r r1 r2⟩, fun ⟨h1, h2⟩ => ⟨h1, fun r r1 r2 => by rw [h q h1, h r r2]; exact h2 r r1 r2⟩⟩⟩
theorem elder_congr {f g : Nat → Int} {i p : Nat} {e : Int} (h : ∀ q, q < i → f q = g q) (hp : p < i) (he : ElderIs f i p e) : ElderIs g i p e := by
  have c1 : NoPrev f p → NoPrev g p := fun z q hq => by rw [← h p hp, ← h q (by omega)]; exact z q hq
  have c2 : NoNext f i p → NoNext g i p := fun z r r1 r2 => by rw [← h p hp, ← h r r2]; exact z r r1 r2
  have c3 : ∀ q, IsPrev f p q → IsPrev g p q := fun q ⟨z1, z2, z3⟩ => ⟨z1, by rw [← h p hp, ← h q (by omega)]; exact z2, fun r r1 r2 => by rw [← h p hp, ← h r (by omega)]; exact z3 r r1 r2⟩
  have c4 : ∀ r, IsNext f i p r → IsNext g i p r := fun r ⟨z1, z2, z3, z4⟩ => ⟨z1, z2, by rw [← h p hp, ← h r z2]; exact z3, fun s s1 s2 => by rw [← h p hp, ← h s (by omega)]; exact z4 s s1 s2⟩
  rcases he with ⟨a, b, c⟩ | ⟨q, a, b, c⟩ | ⟨r, a, b, c⟩ | ⟨q, r, a, b, c⟩
  · exact .inl ⟨c1 a, c2 b, c⟩
  · exact .inr (.inl ⟨q, c3 q a, c2 b, c⟩)
  · exact .inr (.inr (.inl ⟨r, c1 a, c4 r b, c⟩))
  · exact .inr (.inr (.inr ⟨q, r, c3 q a, c4 r b, by rw [← h q (Nat.lt_trans a.1 hp), ← h r b.2.1]; exact c⟩))

def Hung (n i : Nat) (S : List Nat) (es : List Int) : Prop := ∃ f : Nat → Int, Spine f i S ∧ S.Pairwise (fun q r => f q + 2 ^ (n - i) ≤ f r) ∧ ∀ p, p < i → ElderIs f i p (es.getD p 0)
theorem Hung.lt {n i : Nat} {S : List Nat} {es : List Int} (h : Hung n i S es) : ∀ q ∈ S, q < i := by
  obtain ⟨f, hS, _⟩ := h
  exact fun q hq => ((hS.2 q).mp hq).1
theorem Hung.len {n i : Nat} {S : List Nat} {es : List Int} (h : Hung n i S es) : S.length ≤ i := by
  have hl := h.lt
  obtain ⟨f, hS, _⟩ := h
  rcases pw_len S i 0 hS.1 (fun q hq => ⟨Nat.zero_le _, hl q hq⟩) with z | z
  · omega
  · rw [z]; simp
theorem Hung.step {n i : Nat} {A B : List Nat} {es : List Int} (h : Hung n i (A ++ B) es) (hi : i < n) (hl : es.length = n) (he : es.getD i 0 = -1) : Hung n (i + 1) (A ++ [i]) (setE es A B i) := by
  have hlt := h.lt
  obtain ⟨f, hS, hg, hE⟩ := h
  have eD : (2 : Int) ^ (n - i) = 2 * 2 ^ (n - (i + 1)) := by
    rw [show n - i = n - (i + 1) + 1 by omega, Int.pow_succ, Int.mul_comm]
  have pD : (0 : Int) < 2 ^ (n - (i + 1)) := Int.pow_pos (by decide)
  rw [eD] at hg
  generalize hDD : (2 : Int) ^ (n - (i + 1)) = D at hg pD
  have hgA := (List.pairwise_append.mp hg).1
  have hgB := (List.pairwise_append.mp hg).2.1
  have hgX := (List.pairwise_append.mp hg).2.2
  obtain ⟨v, vA, vB⟩ : ∃ v : Int, (∀ q ∈ A, f q + D ≤ v) ∧ ∀ q ∈ B, v < f q := by
    cases B with
    | cons b Br =>
      refine ⟨f b - D, fun q hq => ?_, fun q hq => ?_⟩
      · have := hgX q hq b (by simp); omega
      · rcases List.mem_cons.mp hq with rfl | hq
        · omega
        · have := (List.pairwise_cons.mp hgB).1 q hq; omega
    | nil =>
      rcases snoc_cases A with rfl | ⟨A', a, rfl⟩
      · exact ⟨0, (fun q hq => by cases hq), fun q hq => by cases hq⟩
      · refine ⟨f a + D, fun q hq => ?_, fun q hq => by cases hq⟩
        rcases List.mem_append.mp hq with hq | hq
        · have := (List.pairwise_append.mp hgA).2.2 q hq a (by simp); omega
        · rw [List.mem_singleton.mp hq]; omega
  have hag : ∀ q, q < i → f q = (if q = i then v else f q) := fun q hq => by rw [if_neg (by omega)]
  have gi : (fun q => if q = i then v else f q) i = v := if_pos rfl
  have gq : ∀ q, q < i → (fun q => if q = i then v else f q) q = f q := fun q hq => if_neg (by omega)
  generalize (fun q => if q = i then v else f q) = g at gi gq
  have hag : ∀ q, q < i → f q = g q := fun q hq => (gq q hq).symm
  have lA : ∀ q ∈ A, q < i := fun q hq => hlt q (List.mem_append_left _ hq)
  have lB : ∀ q ∈ B, q < i := fun q hq => hlt q (List.mem_append_right _ hq)
  have SS := spine_step (f := g) (i := i) (A := A) (B := B) (spine_congr hag hS) (fun q hq => by rw [gi, gq q (lA q hq)]; have := vA q hq; omega) (fun q hq => by rw [gi, gq q (lB q hq)]; exact vB q hq)
  refine ⟨g, SS.1, ?_, fun p hp => ?_⟩
  · rw [hDD]
    refine List.pairwise_append.mpr ⟨?_, List.pairwise_singleton _ _, fun q hq r hr => ?_⟩
    · refine hgA.imp_of_mem fun {q r} hq hr z => ?_
      rw [gq q (lA q hq), gq r (lA r hr)]; omega
    · rw [List.mem_singleton.mp hr, gi, gq q (lA q hq)]; exact vA q hq
  · have hbi : ∀ b, B.head? = some b → b ≠ i := fun b hb => by
      have := lB b (List.mem_of_head? hb); omega
    rw [setE_at _ _ _ _ _ (by omega) hbi]
    by_cases z : p = i
    · subst z
      rw [if_pos rfl, he]; exact SS.2.1
    · rw [if_neg z]
      exact SS.2.2 p _ (by omega) (elder_congr hag (by omega) (hE p (by omega)))
theorem Hung.tree {n : Nat} {S : List Nat} {es : List Int} (h : Hung n n S es) (hl : es.length = n) : ∃ ns, TreeIs ns es := by
  obtain ⟨f, _, _, hE⟩ := h
  refine ⟨(List.range n).map f, by simp [hl], fun p hp => ?_⟩
  have hp : p < n := by simpa using hp
  have := hE p hp
  rw [show ((List.range n).map f).length = n by simp]
  exact elder_congr (f := f) (fun q hq => (map_range_nth hq).symm) hp this
theorem perm_map_inv {β : Type} {F : Nat → β} {G : β → Nat} {l : List β} {n : Nat} (hG : ∀ p, p < n → G (F p) = p) (h : l.Perm ((List.range n).map F)) : ∃ os : List Nat, os.Perm (List.range n) ∧ l = os.map F := by
  refine ⟨l.map G, ?_, ?_⟩
  · have := h.map G
    rw [List.map_map] at this
    have e : (List.range n).map (G ∘ F) = List.range n := by
      exact (List.map_congr_left (f := G ∘ F) (g := id) fun p hp => hG p (List.mem_range.mp hp)).trans (List.map_id _)
    rwa [e] at this
  · rw [List.map_map]
    have : l.map (F ∘ G) = l.map id := List.map_congr_left fun x hx => by
      obtain ⟨p, hp, rfl⟩ := List.mem_map.mp (h.mem_iff.mp hx)
      show F (G (F p)) = F p
      rw [hG p (List.mem_range.mp hp)]
    rw [this, List.map_id]

def openN (ds : List Nat) : Nat → Nat
  | 0 => 0
  | k + 1 => openN ds k - ds.getD k 0 + 1
def DropsOk (ds : List Nat) : Prop := ∀ k, k < ds.length → ds.getD k 0 ≤ openN ds k
theorem openN_le (ds : List Nat) (k : Nat) : openN ds k ≤ k := by
  induction k with
  | zero => exact Nat.le_refl _
  | succ k ih => unfold openN; omega
theorem openN_app (ds : List Nat) (d : Nat) : ∀ k, k ≤ ds.length → openN (ds ++ [d]) k = openN ds k
  | 0, _ => rfl
  | k + 1, h => by
    unfold openN
    rw [openN_app ds d k (by omega)]
    congr 2
    simp [List.getD_eq_getElem?_getD, List.getElem?_append_left (show k < ds.length by omega)]
theorem split_last {α : Type} (S : List α) {d : Nat} (h : d ≤ S.length) : ∃ A B, S = A ++ B ∧ B.length = d := ⟨S.take (S.length - d), S.drop (S.length - d), (List.take_append_drop _ _).symm, by simp; omega⟩
end L2
namespace L2
open PySem PySem.Spec PyProof.Rows PySem.W
section
variable {X : Cx}
end
end L2
namespace L2
open PySem PySem.Spec PyProof.Rows PySem.W
theorem cp58 : CPow 10 58 := by unfold CPow; decide
theorem TupsAt.keep {H H' : Hp} {l : Addr} {rs : List (List Int)} (R : TupsAt H l rs) (h1 : ∀ xs, H l = some (.lst xs) → H' l = some (.lst xs)) (h2 : ∀ a xs, H a = some (.tup xs) → H' a = some (.tup xs)) : TupsAt H' l rs := by
  obtain ⟨as, e, hl, h⟩ := R
  exact ⟨as, h1 _ e, hl, fun i i1 i2 => h2 _ _ (h i i1 i2)⟩
theorem TupsAt.exc {H H' : Hp} {l p : Addr} {rs : List (List Int)} (R : TupsAt H l rs) (e : Exc p H H') (P : PoolAt H p) (n : l ≠ p) : TupsAt H' l rs := by
  obtain ⟨x, y, hp, _⟩ := P
  exact R.keep (fun xs h => e _ _ n h) fun a xs h => e _ _ (fun z => by rw [z, hp] at h; cases h) h
theorem TupsAt.updL {H : Hp} {l b : Addr} {rs : List (List Int)} {ys zs : List V} (R : TupsAt H l rs) (hb : H b = some (.lst ys)) (n : l ≠ b) : TupsAt (upd H b (.lst zs)) l rs :=
  R.keep (fun xs h => by rw [upd_ne n]; exact h) fun a xs h => by rw [upd_ne (fun z => by rw [z, hb] at h; cases h)]; exact h

def rankF (T : List Int) (q : Nat) : List Int := [((way T q).length : Int), (q : Int)]
theorem rank_order {T : List Int} {rs : List (List Int)} {n : Nat} (hn : n ≤ 1000) (hp : rs.Perm ((List.range n).map (rankF T))) (hs : rs.Pairwise fun r r' => pairK r ≤ pairK r') : ∃ os : List Nat, os.Perm (List.range n) ∧ rs = os.map (rankF T) ∧ ∀ i j, i < j → j < os.length → os.getD i 0 ≠ os.getD j 0 ∧ (way T (os.getD i 0)).length ≤ (way T (os.getD j 0)).length := by
  obtain ⟨os, ho, rfl⟩ := perm_map_inv (F := rankF T) (G := fun r => (r.getD 1 0).toNat) (fun p _ => by simp [rankF]) hp
  refine ⟨os, ho, rfl, fun i j hij hj => ?_⟩
  have hlt : ∀ q ∈ os, q < n := fun q hq => List.mem_range.mp (ho.mem_iff.mp hq)
  have nd : os.Nodup := ho.nodup_iff.mpr List.nodup_range
  have hi : i < os.length := by omega
  have e1 : os.getD i 0 = os[i] := by simp [hi]
  have e2 : os.getD j 0 = os[j] := by simp [hj]
  rw [e1, e2]
  refine ⟨fun z => ?_, ?_⟩
  · exact List.pairwise_iff_getElem.mp nd i j hi hj hij z
  · rw [List.pairwise_map] at hs
    have := List.pairwise_iff_getElem.mp hs i j hi hj hij
    have a := hlt _ (List.getElem_mem hi)
    have b := hlt _ (List.getElem_mem hj)
    simp only [pairK, rankF, List.getD_cons_zero, List.getD_cons_succ] at this
    omega
end L2


set_option Elab.async false
set_option linter.all false
set_option maxRecDepth 100000
set_option maxHeartbeats 1000000
namespace L2
open PySem PySem.Spec PyProof.Rows PySem.W

end L2


set_option Elab.async false
set_option linter.all false
set_option maxRecDepth 100000
set_option maxHeartbeats 1000000
namespace L2
open PySem PySem.Spec PyProof.Rows PySem.W

theorem next_or (f : Nat → Int) (n p : Nat) : NoNext f n p ∨ ∃ r, IsNext f n p r := by
  by_cases h : ∀ j, j < n - (p + 1) → f p ≤ f (p + 1 + j)
  · exact .inl fun r h1 h2 => by
      have := h (r - (p + 1)) (by omega)
      rwa [show p + 1 + (r - (p + 1)) = r by omega] at this
  · obtain ⟨j, hj, h1, h2⟩ := first_not _ h
    refine .inr ⟨p + 1 + j, by omega, by omega, by omega, fun s s1 s2 => ?_⟩
    have := h2 (s - (p + 1)) (by omega)
    rwa [show p + 1 + (s - (p + 1)) = s by omega] at this
end L2


set_option Elab.async false
set_option linter.all false
set_option maxRecDepth 100000
set_option maxHeartbeats 1000000
namespace L2
open PySem PySem.Spec PyProof.Rows PySem.W

section
variable {X : Cx}
end

def rSlU (K : Frag) : V → Option Int → Option Int → Hp → VK → Prop := fun x lo hi H Q => ∃ a xs, x = .ref a ∧ SqT K H a xs ∧ ∀ p H', Same H H' → SqT K H' p (cutV xs lo hi) → Q (.ref p) H'
theorem TupsAt.at {K : Frag} {H : Hp} {l : Addr} {rs : List (List Int)} {p : Nat} (R : TupsAt H l rs) (h : p < rs.length) : ∃ xs a, SqL K H l xs ∧ atI xs (p : Int) = some (V.ref a) ∧ H a = some (.tup (rs[p].map V.int)) := by
  obtain ⟨as, e, hl, ht⟩ := R
  refine ⟨as.map V.ref, as[p]'(by omega), SqL.of e, ?_, ht p (by omega) h⟩
  rw [atI_at rfl (by rw [List.length_map]; omega)]; simp

end L2


set_option Elab.async false
set_option linter.all false
set_option maxRecDepth 100000
set_option maxHeartbeats 1000000
namespace L2
open PySem PySem.Spec PyProof.Rows PySem.W

theorem get_list {X : Cx} {K : Frag} (hK : X.K = K) : PGet X (rIxL K) := by
  subst hK
  intro pins s σ H x y v u Q I rx ry h
  obtain ⟨p, xs, i, z, rfl, rfl, hq, he, q⟩ := h
  cases rx
  obtain ⟨t, rfl⟩ := ry
  obtain ⟨its, r, pl, hz⟩ := I.list hq
  obtain ⟨j, h1, h2, h3, h4, h5⟩ := atI_get he
  obtain ⟨w, ew, rw'⟩ := r.get h2
  have hl := r.length
  have hn := line63
  have fin : EP X pins σ Q w s := ⟨z, H, I, rw', q⟩
  by_cases h0 : 0 ≤ i
  · have hj : i.toNat = j := by
      rw [seqIndex_of h0 h5] at h1
      exact Option.some.inj h1
    exact wpAny_getItem_list pl.isList h0 (by omega) (by rw [hj]; simpa using ew) fin
  · have hj : (i + (its.toArray.size : Int)).toNat = j := by
      rw [seqIndex_neg (by omega) h4] at h1
      rw [List.size_toArray, ← hl]
      exact Option.some.inj h1
    exact wpAny_getItem_list_neg pl.isList (by omega) (by rw [List.size_toArray] <;> omega) (by omega) (by rw [hj]; simpa using ew) fin

def NextAt (f : Nat → Int) (p k : Nat) : Prop := p < k ∧ f k < f p ∧ ∀ s, p < s → s < k → f p ≤ f s
theorem nextAt_iff {f : Nat → Int} {n p k : Nat} (hk : k < n) : NextAt f p k ↔ IsNext f n p k := ⟨fun ⟨a, b, c⟩ => ⟨a, hk, b, c⟩, fun ⟨a, _, b, c⟩ => ⟨a, b, c⟩⟩
open Classical in

noncomputable def dropAt (f : Nat → Int) (k : Nat) : Nat := (List.range k).countP fun p => decide (NextAt f p k)
theorem count_mem {B : List Nat} {n : Nat} (hB : B.Nodup) (hlt : ∀ q ∈ B, q < n) : (List.range n).countP (fun p => decide (p ∈ B)) = B.length := by
  rw [List.countP_eq_length_filter]
  refine List.Perm.length_eq ((List.perm_ext_iff_of_nodup (List.nodup_range.filter _) hB).mpr fun a => ?_)
  rw [List.mem_filter, List.mem_range, decide_eq_true_iff]
  exact ⟨fun h => h.2, fun h => ⟨hlt a h, h⟩⟩
theorem spine_drop {f : Nat → Int} {i : Nat} {A B : List Nat} (hs : Spine f i (A ++ B)) (hA : ∀ q ∈ A, f q ≤ f i) (hB : ∀ q ∈ B, f i < f q) : dropAt f i = B.length := by
  have hm : ∀ p, NextAt f p i ↔ p ∈ B := fun p => by
    constructor
    · rintro ⟨h1, h2, h3⟩
      rcases List.mem_append.mp ((hs.2 p).mpr ⟨h1, h3⟩) with z | z
      · have := hA p z; omega
      · exact z
    · intro z
      obtain ⟨h1, h2⟩ := (hs.2 p).mp (List.mem_append_right _ z)
      exact ⟨h1, hB p z, h2⟩
  have nd : B.Nodup := (List.pairwise_append.mp hs.1).2.1.imp fun h => Nat.ne_of_lt h
  have hlt : ∀ q ∈ B, q < i := fun q hq => ((hs.2 q).mp (List.mem_append_right _ hq)).1
  unfold dropAt
  rw [← count_mem nd hlt]
  refine List.countP_congr fun p _ => ?_
  simp [hm p]
theorem dropAt_congr {f g : Nat → Int} {k : Nat} (h : ∀ q, q ≤ k → f q = g q) : dropAt f k = dropAt g k := by
  unfold dropAt
  refine List.countP_congr fun p hp => ?_
  have hp := List.mem_range.mp hp
  simp only [decide_eq_true_eq]
  constructor
  · rintro ⟨a, b, c⟩
    exact ⟨a, by rw [← h k (Nat.le_refl _), ← h p (by omega)]; exact b, fun s s1 s2 => by rw [← h p (by omega), ← h s (by omega)]; exact c s s1 s2⟩
  · rintro ⟨a, b, c⟩
    exact ⟨a, by rw [h k (Nat.le_refl _), h p (by omega)]; exact b, fun s s1 s2 => by rw [h p (by omega), h s (by omega)]; exact c s s1 s2⟩
def HungD (n i : Nat) (S : List Nat) (es : List Int) (ds : List Nat) : Prop := ∃ f : Nat → Int, Spine f i S ∧ S.Pairwise (fun q r => f q + 2 ^ (n - i) ≤ f r) ∧ (∀ p, p < i → ElderIs f i p (es.getD p 0)) ∧ ∀ k, k < i → dropAt f k = ds.getD k 0
theorem hungD_zero (n : Nat) (es : List Int) (ds : List Nat) : HungD n 0 [] es ds := ⟨fun _ => 0, ⟨List.Pairwise.nil, fun q => by simp⟩, List.Pairwise.nil, (fun p hp => by omega), fun k hk => by omega⟩
theorem HungD.lt {n i : Nat} {S ds : List Nat} {es : List Int} (h : HungD n i S es ds) : ∀ q ∈ S, q < i := by
  obtain ⟨f, hS, _⟩ := h
  exact fun q hq => ((hS.2 q).mp hq).1
theorem HungD.step {n i : Nat} {A B ds : List Nat} {es : List Int} (h : HungD n i (A ++ B) es ds) (hi : i < n) (hl : es.length = n) (he : es.getD i 0 = -1) (hd : ds.getD i 0 = B.length) : HungD n (i + 1) (A ++ [i]) (setE es A B i) ds := by
  have hlt := h.lt
  obtain ⟨f, hS, hg, hE, hD⟩ := h
  have eD : (2 : Int) ^ (n - i) = 2 * 2 ^ (n - (i + 1)) := by
    rw [show n - i = n - (i + 1) + 1 by omega, Int.pow_succ, Int.mul_comm]
  have pD : (0 : Int) < 2 ^ (n - (i + 1)) := Int.pow_pos (by decide)
  rw [eD] at hg
  generalize hDD : (2 : Int) ^ (n - (i + 1)) = D at hg pD
  have hgA := (List.pairwise_append.mp hg).1
  have hgB := (List.pairwise_append.mp hg).2.1
  have hgX := (List.pairwise_append.mp hg).2.2
  obtain ⟨v, vA, vB⟩ : ∃ v : Int, (∀ q ∈ A, f q + D ≤ v) ∧ ∀ q ∈ B, v < f q := by
    cases B with
    | cons b Br =>
      refine ⟨f b - D, fun q hq => ?_, fun q hq => ?_⟩
      · have := hgX q hq b (by simp); omega
      · rcases List.mem_cons.mp hq with rfl | hq
        · omega
        · have := (List.pairwise_cons.mp hgB).1 q hq; omega
    | nil =>
      rcases snoc_cases A with rfl | ⟨A', a, rfl⟩
      · exact ⟨0, (fun q hq => by cases hq), fun q hq => by cases hq⟩
      · refine ⟨f a + D, fun q hq => ?_, fun q hq => by cases hq⟩
        rcases List.mem_append.mp hq with hq | hq
        · have := (List.pairwise_append.mp hgA).2.2 q hq a (by simp); omega
        · rw [List.mem_singleton.mp hq]; omega
  have gi : (fun q => if q = i then v else f q) i = v := if_pos rfl
  have gq : ∀ q, q < i → (fun q => if q = i then v else f q) q = f q := fun q hq => if_neg (by omega)
  generalize (fun q => if q = i then v else f q) = g at gi gq
  have hag : ∀ q, q < i → f q = g q := fun q hq => (gq q hq).symm
  have lA : ∀ q ∈ A, q < i := fun q hq => hlt q (List.mem_append_left _ hq)
  have lB : ∀ q ∈ B, q < i := fun q hq => hlt q (List.mem_append_right _ hq)
  have sA : ∀ q ∈ A, g q ≤ g i := fun q hq => by rw [gi, gq q (lA q hq)]; have := vA q hq; omega
  have sB : ∀ q ∈ B, g i < g q := fun q hq => by rw [gi, gq q (lB q hq)]; exact vB q hq
  have SS := spine_step (f := g) (i := i) (A := A) (B := B) (spine_congr hag hS) sA sB
  refine ⟨g, SS.1, ?_, fun p hp => ?_, fun k hk => ?_⟩
  · rw [hDD]
    refine List.pairwise_append.mpr ⟨?_, List.pairwise_singleton _ _, fun q hq r hr => ?_⟩
    · refine hgA.imp_of_mem fun {q r} hq hr z => ?_
      rw [gq q (lA q hq), gq r (lA r hr)]; omega
    · rw [List.mem_singleton.mp hr, gi, gq q (lA q hq)]; exact vA q hq
  · have hbi : ∀ b, B.head? = some b → b ≠ i := fun b hb => by
      have := lB b (List.mem_of_head? hb); omega
    rw [setE_at _ _ _ _ _ (by omega) hbi]
    by_cases z : p = i
    · subst z
      rw [if_pos rfl, he]; exact SS.2.1
    · rw [if_neg z]
      exact SS.2.2 p _ (by omega) (elder_congr hag (by omega) (hE p (by omega)))
  · by_cases z : k = i
    · subst z
      rw [hd]; exact spine_drop (spine_congr hag hS) sA sB
    · rw [← dropAt_congr (f := f) (g := g) (k := k) (fun q hq => hag q (by omega))]
      exact hD k (by omega)

def hungSt (ds : List Nat) : Nat → List Nat × List Int
  | 0 => ([], List.replicate ds.length (-1))
  | i + 1 => (((hungSt ds i).1.take ((hungSt ds i).1.length - ds.getD i 0)) ++ [i], setE (hungSt ds i).2 ((hungSt ds i).1.take ((hungSt ds i).1.length - ds.getD i 0)) ((hungSt ds i).1.drop ((hungSt ds i).1.length - ds.getD i 0)) i)
def hungT (ds : List Nat) : List Int := (hungSt ds ds.length).2
theorem hungSt_step {ds : List Nat} {i : Nat} {A B : List Nat} (h : (hungSt ds i).1 = A ++ B) (hB : B.length = ds.getD i 0) : hungSt ds (i + 1) = (A ++ [i], setE (hungSt ds i).2 A B i) := by
  have e : (hungSt ds i).1.length - ds.getD i 0 = A.length := by rw [h, List.length_append]; omega
  show (((hungSt ds i).1.take ((hungSt ds i).1.length - ds.getD i 0)) ++ [i], setE (hungSt ds i).2 ((hungSt ds i).1.take ((hungSt ds i).1.length - ds.getD i 0)) ((hungSt ds i).1.drop ((hungSt ds i).1.length - ds.getD i 0)) i) = _
  rw [e, h, List.take_left, List.drop_left]
theorem hungSt_ok {ds : List Nat} (h : DropsOk ds) : ∀ i, i ≤ ds.length → HungD ds.length i (hungSt ds i).1 (hungSt ds i).2 ds ∧ (hungSt ds i).1.length = openN ds i ∧ (hungSt ds i).2.length = ds.length ∧ ∀ p, i ≤ p → p < ds.length → (hungSt ds i).2.getD p 0 = -1
  | 0, _ => ⟨hungD_zero _ _ _, rfl, by simp [hungSt], fun p _ hp => by simp [hungSt, List.getD_eq_getElem?_getD, hp]⟩
  | i + 1, hi => by
    obtain ⟨h1, h2, h3, h4⟩ := hungSt_ok h i (by omega)
    have hd := h i (by omega)
    obtain ⟨A, B, hAB, hBl⟩ := split_last (hungSt ds i).1 (d := ds.getD i 0) (by omega)
    rw [hungSt_step hAB hBl]
    rw [hAB] at h1
    have hlt := h1.lt
    have hbi : ∀ b, B.head? = some b → b ≠ i := fun b hb => by
      have := hlt b (List.mem_append_right _ (List.mem_of_head? hb)); omega
    refine ⟨h1.step (by omega) h3 (h4 i (Nat.le_refl _) (by omega)) hBl.symm, ?_, by rw [setE_len]; exact h3, fun p p1 p2 => ?_⟩
    · have := congrArg List.length hAB
      rw [List.length_append] at this
      show (A ++ [i]).length = openN ds i - ds.getD i 0 + 1
      rw [List.length_append, List.length_singleton]; omega
    · show (setE (hungSt ds i).2 A B i).getD p 0 = -1
      rw [setE_at _ _ _ _ _ (by omega) hbi, if_neg (by omega), if_neg (fun z => ?_)]
      · exact h4 p (by omega) p2
      · have := hlt p (List.mem_append_right _ (List.mem_of_head? z)); omega
theorem hungT_len {ds : List Nat} (h : DropsOk ds) : (hungT ds).length = ds.length := (hungSt_ok h _ (Nat.le_refl _)).2.2.1
theorem hungT_tree {ds : List Nat} (h : DropsOk ds) : ∃ ns, TreeIs ns (hungT ds) ∧ ∀ k, k < ds.length → dropAt (nth ns) k = ds.getD k 0 := by
  obtain ⟨⟨f, _, _, hE, hD⟩, _, hl, _⟩ := hungSt_ok h _ (Nat.le_refl _)
  have ln : ((List.range ds.length).map f).length = ds.length := by simp
  refine ⟨(List.range ds.length).map f, ⟨by rw [ln]; exact hl, fun p hp => ?_⟩, fun k hk => ?_⟩
  · rw [ln] at hp ⊢
    exact elder_congr (f := f) (fun q hq => (map_range_nth hq).symm) hp (hE p hp)
  · rw [← hD k hk]
    exact (dropAt_congr fun q hq => (map_range_nth (show q < ds.length by omega)).symm).symm

theorem fenB_dropAt {f : Nat → Int} {n k : Nat} (hk : k < n) : (List.range n).countP (fun p => decide (fenB f n p = (k : Int))) = dropAt f k := by
  have key : ∀ p, fenB f n p = (k : Int) ↔ NextAt f p k := fun p => by
    rw [nextAt_iff hk]
    rcases next_or f n p with h | ⟨r, h⟩
    · rw [fenB_no h]
      exact ⟨fun z => by omega, fun z => by have := h k z.1 z.2.1; have := z.2.2.1; omega⟩
    · rw [fenB_next h]
      constructor
      · intro z
        have : r = k := by omega
        exact this ▸ h
      · intro z
        rcases Nat.lt_trichotomy r k with y | y | y
        · have := z.2.2.2 r h.1 y; have := h.2.2.1; omega
        · rw [y]
        · have := h.2.2.2 k z.1 y; have := z.2.2.1; omega
  unfold dropAt
  have e : List.range n = List.range k ++ (List.range (n - k)).map (k + ·) := by
    have := List.range_add (n := k) (m := n - k)
    rw [show k + (n - k) = n by omega] at this
    exact this
  rw [e, List.countP_append]
  have z : ((List.range (n - k)).map (k + ·)).countP (fun p => decide (fenB f n p = (k : Int))) = 0 := by
    rw [List.countP_eq_zero]
    intro p hp
    obtain ⟨q, _, rfl⟩ := List.mem_map.mp hp
    simp only [decide_eq_true_eq, key]
    rintro ⟨a, _⟩
    omega
  rw [z, Nat.add_zero]
  refine List.countP_congr fun p _ => ?_
  simp only [decide_eq_true_eq, key]

noncomputable def dropsN (f : Nat → Int) (n : Nat) : List Nat := (List.range n).map (dropAt f)
theorem dropsN_len (f : Nat → Int) (n : Nat) : (dropsN f n).length = n := by simp [dropsN]
theorem dropsN_at {f : Nat → Int} {n k : Nat} (h : k < n) : (dropsN f n).getD k 0 = dropAt f k := by simp [dropsN, List.getD_eq_getElem?_getD, h]
theorem fenB_trees {ns ms T : List Int} (h1 : TreeIs ns T) (h2 : TreeIs ms T) {p : Nat} (hp : p < ns.length) : fenB (nth ns) ns.length p = fenB (nth ms) ms.length p := by
  have e : ns.length = ms.length := h1.1.symm.trans h2.1
  have F2 := fenB_min h2 (show p < ms.length by omega)
  have hL : ∀ a ∈ (wayI T p).filter fun o => decide ((p : Int) < o), ∃ o : Nat, a = o ∧ p < o ∧ o < ns.length ∧ Over (nth ns) o p := fun a ha => by
    obtain ⟨h3, h4⟩ := List.mem_filter.mp ha
    obtain ⟨o, ho, rfl⟩ := List.mem_map.mp h3
    have := (way_over h1 hp).mp ho
    have h4 := of_decide_eq_true h4
    exact ⟨o, rfl, by omega, this.1, this.2⟩
  rcases next_or (nth ns) ns.length p with h | ⟨r, h⟩
  · rw [fenB_no h, F2.1 (List.eq_nil_iff_forall_not_mem.mpr fun a ha => ?_), e]
    obtain ⟨o, _, h3, h4, h5⟩ := hL a ha
    have := h o h3 h4
    rcases h5 with ⟨h6, _⟩ | ⟨_, h6⟩
    · omega
    · have := h6 p (Nat.le_refl _) h3; omega
  · rw [fenB_next h]
    have hr : (r : Int) ∈ (wayI T p).filter fun o => decide ((p : Int) < o) := List.mem_filter.mpr ⟨(way_mem h1 hp).mpr ⟨h.2.1, h.over⟩, decide_eq_true (by have := h.1; omega)⟩
    refine F2.2 (List.ne_nil_of_mem hr) _ hr fun a ha => ?_
    obtain ⟨o, rfl, h3, h4, h5⟩ := hL a ha
    by_cases z : o < r
    · have := h.2.2.2 o h3 z
      rcases h5 with ⟨h6, _⟩ | ⟨_, h6⟩
      · omega
      · have := h6 p (Nat.le_refl _) h3; omega
    · omega
theorem drops_trees {ns ms T : List Int} (h1 : TreeIs ns T) (h2 : TreeIs ms T) {k : Nat} (hk : k < ns.length) : dropAt (nth ns) k = dropAt (nth ms) k := by
  have e : ns.length = ms.length := h1.1.symm.trans h2.1
  rw [← fenB_dropAt hk, ← fenB_dropAt (show k < ms.length by omega), e]
  refine List.countP_congr fun p hp => ?_
  have hp := List.mem_range.mp hp
  have := fenB_trees h1 h2 (show p < ns.length by omega)
  rw [e] at this
  simp only [decide_eq_true_eq, this]
theorem dropsN_trees {ns ms T : List Int} (h1 : TreeIs ns T) (h2 : TreeIs ms T) : dropsN (nth ns) ns.length = dropsN (nth ms) ms.length := by
  have e : ns.length = ms.length := h1.1.symm.trans h2.1
  unfold dropsN
  rw [← e]
  exact List.map_congr_left fun k hk => drops_trees h1 h2 (List.mem_range.mp hk)
theorem dropsN_open (f : Nat → Int) (n : Nat) : ∀ k, k ≤ n → ∃ S, Spine f k S ∧ S.length = openN (dropsN f n) k
  | 0, _ => ⟨[], ⟨List.Pairwise.nil, fun q => by simp⟩, rfl⟩
  | k + 1, h => by
    obtain ⟨S, hS, hl⟩ := dropsN_open f n k (by omega)
    obtain ⟨A, B, rfl, hA, hB⟩ := split_at (f := f) (f k) S hS.mono
    refine ⟨A ++ [k], (spine_step hS hA hB).1, ?_⟩
    show _ = openN (dropsN f n) k - (dropsN f n).getD k 0 + 1
    rw [dropsN_at (by omega), spine_drop hS hA hB, ← hl, List.length_append, List.length_append, List.length_singleton]
    omega
theorem dropsN_ok (f : Nat → Int) (n : Nat) : DropsOk (dropsN f n) := by
  intro k hk
  rw [dropsN_len] at hk
  obtain ⟨S, hS, hl⟩ := dropsN_open f n k (by omega)
  obtain ⟨A, B, rfl, hA, hB⟩ := split_at (f := f) (f k) S hS.mono
  rw [dropsN_at hk, spine_drop hS hA hB, ← hl, List.length_append]
  omega

def goN : Nat → Nat → Int
  | 0, _ => 1
  | r + 1, j => ((List.range (j + 1)).map fun i => goN r (i + 1)).sum
def goRow (r m : Nat) : List Int := (List.range m).map (goN r)
theorem goRow_len (r m : Nat) : (goRow r m).length = m := by simp [goRow]
theorem goRow_nth {r m j : Nat} (h : j < m) : nth (goRow r m) j = goN r j := map_range_nth h
theorem goN_succ (r j : Nat) : goN (r + 1) (j + 1) = goN (r + 1) j + goN r (j + 2) := by
  show ((List.range (j + 1 + 1)).map fun i => goN r (i + 1)).sum = _
  rw [List.range_succ, List.map_append, List.sum_append]
  simp [goN]
theorem goN_first (r : Nat) : goN (r + 1) 0 = goN r 1 := by simp [goN]
theorem goRow_drop (r m : Nat) : (goRow r (m + 1)).drop 1 = (List.range m).map fun i => goN r (i + 1) := by
  unfold goRow
  rw [List.range_succ_eq_map]
  simp
theorem sums_goRow (r : Nat) : ∀ m, sumsFrom 0 ((goRow r (m + 1)).drop 1) = goRow (r + 1) m := by
  intro m
  rw [goRow_drop]
  induction m with
  | zero => rfl
  | succ m ih =>
    rw [List.range_succ, List.map_append, sumsFrom_append, ih]
    unfold goRow
    rw [List.range_succ, List.map_append]
    congr 1
    show [0 + ((List.range m).map fun i => goN r (i + 1)).sum + goN r (m + 1)] = [goN (r + 1) m]
    congr 1
    show _ = ((List.range (m + 1)).map fun i => goN r (i + 1)).sum
    rw [List.range_succ, List.map_append, List.sum_append]
    simp
def goTab (w n : Nat) : List (List Int) := (List.range (n + 1)).map fun r => goRow r (w - r)

def fewer (r st d : Nat) : Int := ((List.range d).map fun f => goN r (st + 1 - f)).sum
def rankTo (n : Nat) (ds : List Nat) : Nat → Int
  | 0 => 0
  | k + 1 => rankTo n ds k + fewer (n - 1 - k) (openN ds k) (ds.getD k 0)
end L2


set_option Elab.async false
set_option linter.all false
set_option maxRecDepth 100000
set_option maxHeartbeats 1000000
namespace L2
open PySem PySem.Spec PyProof.Rows PySem.W

def CDivM (i j : Int) : Prop := 0 < j ∧ j < 1267650600228229401496703205376
theorem op_fdivM {X : Cx} : OpR X (binaryOp .FloorDiv) (rI CDivM fun i j => .int (i / j)) := opI fun i j _ _ _ _ _ hc q => by
  have h1 : (0 : Int) < j := hc.1
  have h2 : j < 1267650600228229401496703205376 := hc.2
  refine floordiv_int (by omega) (by rw [Int.fdiv_eq_ediv_of_nonneg i (by omega)]; exact q) (.inl (PyProof.noPylong_of_log2 ?_))
  have h3 : j.natAbs < 2 ^ 100 := by omega
  have : j.natAbs.log2 < 100 := (Nat.log2_lt (by omega)).mpr h3
  omega
end L2
namespace L2
open PySem PySem.Spec PyProof.Rows PySem.W

theorem sub_ri_reversed : isSubtype (.type "range_iterator") (.type "reversed") = pure false := by rw [isSubtype_type]; kernel_rfl
section
variable {prog : Program} {w : World} {A : Around} {E : Value → Shared → Prop} {s : Shared}
def rriObj (a n : Int) : Obj := { cls := .type "range_iterator", data := .fields #[rawInt a, rawInt n, rawInt (-1)] }
def RevSmall (a b : Int) : Prop := (Builtin.Range.rangeFitsLong a && Builtin.Range.rangeFitsLong b && Builtin.Range.rangeFitsLong 1 && Builtin.Range.rangeFitsLong (-1) && Builtin.Range.rangeFitsLong (a - 1) && Builtin.Range.rangeFitsLong (Builtin.Range.rangeSize a b 1)) = true
theorem call_range_rev {r : Addr} {a b : Int} {t u v : Tok} {Q : Value → Shared → Prop} (hr : IsRange s.heap r a b 1 t u v) (hsm : RevSmall a b)
    (h : Q (.ref s.heap.objs.size) { s with heap := s.heap.push (rriObj (a + (Builtin.Range.rangeSize a b 1 - 1) * 1) (Builtin.Range.rangeSize a b 1)) }) : wpAny (model prog w) A (call (.builtin "range.__reversed__") [.ref r]) Q E s := by
  have hT : s.TypeIs (.ref r) "range" := ⟨_, hr, rfl⟩
  have hr' : s.heap.get? r = some { cls := .type "range", dict := none, data := .fields #[.int a t, .int b u, .int 1 v], slots := #[] } := hr
  refine wpAny_call_entry F.slot_range_reversed hT F.entry_range_reversed ?_ (F.args_range_reversed_1 _)
  unfold Builtin.«range.__reversed__»
  refine wpAny_bind (wpAny_of_eq (a := Value.ref r) rfl ?_)
  obtain ⟨hp, g, d, tk, os⟩ := s
  have hl := hr'
  unfold RevSmall at hsm
  simp only [Builtin.Range.rangeFields]
  wp_walk
  refine ⟨_, rfl, ?_⟩
  unfold rriObj at h
  dsimp only at h ⊢
  rw [if_pos hsm]
  exact h
theorem code_reversed_rng {r : Addr} {a b : Int} {t u v : Tok} {Q₁ : Value → Shared → Prop} (hr : IsRange s.heap r a b 1 t u v) (hsm : RevSmall a b)
    (h : Q₁ (.ref s.heap.objs.size) { s with heap := s.heap.push (rriObj (a + (Builtin.Range.rangeSize a b 1 - 1) * 1) (Builtin.Range.rangeSize a b 1)) }) :
    codeAny (model prog w) A (.call (.builtin "reversed.__new__") ⟨[.type "reversed", .ref r], []⟩) (wants Q₁ E) s := by
  have hT : s.TypeIs (.ref r) "range" := ⟨_, hr, rfl⟩
  refine codeAny_of_tree ?_
  show wpAny _ A.in1 (do checkBuiltinCall "reversed.__new__" ⟨[.type "reversed", .ref r], []⟩; again (.builtin "reversed.__new__" ⟨[.type "reversed", .ref r], []⟩)) _ _ s
  refine wpAny_bind (wpAny_of_eq (F.newCall_reversed_1 _) (wpAny_pure ⟨plainId_quiet F.plain_reversed_new _, codeAny_builtin F.entry_reversed_new ?_⟩))
  rw [Around.under_plainId F.plain_reversed_new _]
  unfold Builtin.«reversed.__new__»
  refine wpAny_bind (wpAny_of_eq (newClass_reversed _) ?_)
  try dsimp only
  refine wpAny_bind (wpAny_of_eq (a := ()) (by first | rfl | kernel_rfl) ?_)
  refine wpAny_bind (wpAny_of_eq (a := ()) (by first | rfl | kernel_rfl) ?_)
  try dsimp only
  refine wpAny_bind (wpAny_specialOf hT F.slot_range_reversed.lookup ?_)
  try dsimp only
  refine wpAny_bind (wpAny_of_eq (F.slot_range_reversed.bind _) ?_)
  try dsimp only
  first
  | rw [if_neg (show ¬ ((Value.builtin "range.__reversed__" == Value.none) = true) from Bool.false_ne_true)]
  | (show wpAny _ _ (if (Value.builtin "range.__reversed__" == Value.none) = true then _ else _) _ _ _; rw [if_neg (show ¬ ((Value.builtin "range.__reversed__" == Value.none) = true) from Bool.false_ne_true)])
  refine wpAny_bind (wpAny_rule ?_)
  refine wpAny_bind (m := runValue (.call (.builtin "range.__reversed__") ⟨[.ref r], []⟩)) (show wpAny _ _ (call (.builtin "range.__reversed__") [.ref r]) _ _ _ from call_range_rev hr hsm ?_)
  first
  | exact wpAny_pure h
  | exact wpAny_bind (wpAny_pure (wpAny_pure h))
theorem call_reversed_rng {r : Addr} {a b : Int} {t u v : Tok} {Q : Value → Shared → Prop} (hr : IsRange s.heap r a b 1 t u v) (hsm : RevSmall a b)
    (h : Q (.ref s.heap.objs.size) { s with heap := s.heap.push (rriObj (a + (Builtin.Range.rangeSize a b 1 - 1) * 1) (Builtin.Range.rangeSize a b 1)) }) : wpAny (model prog w) A (call (.type "reversed") [.ref r]) Q E s := by
  refine callType_other (U := "range_iterator") (Q₁ := fun obj s₁ => obj = .ref s.heap.objs.size ∧ s₁ = { s with heap := s.heap.push (rriObj (a + (Builtin.Range.rangeSize a b 1 - 1) * 1) (Builtin.Range.rangeSize a b 1)) }) (by decide +kernel) F.create_reversed ⟨_, _, F.mro_reversed⟩ F.made_reversed sub_ri_reversed (F.typeCall_reversed_1 _) (code_reversed_rng hr hsm ⟨rfl, rfl⟩) ?_
  rintro obj s₁ ⟨rfl, rfl⟩
  exact ⟨⟨_, Heap.get?_push_size _ rfl, rfl⟩, h⟩
end
theorem rev_small {a b : Int} (ha : -(2 ^ 62) ≤ a) (ha' : a < 2 ^ 62) (hb : -(2 ^ 62) ≤ b) (hb' : b < 2 ^ 62) : RevSmall a b := by
  unfold RevSmall
  rw [rangeSize_one]
  simp only [Builtin.Range.rangeFitsLong, Bool.and_eq_true, Bool.or_eq_true, decide_eq_true_eq, beq_iff_eq]
  split <;> omega

def Itrv (lo : Int) (n : Nat) : It := ⟨fun i _ => i < n, fun i H x H' => H' = H ∧ x = .int (lo + n - 1 - i), fun i _ => n ≤ i⟩
theorem turn_rngrev {P : Program} {w : World} {K : PySem.W.Frag} {tg : Expr} (it : Addr) (lo : Int) (n : Nat) : Turn P w K tg (Itrv lo n) [it] it (fun i h => IsRangeIter h it (lo + n - 1 + (i : Nat) * (-1)) ((n : Int) - (i : Nat)) (-1)) where
  mem := by simp
  obj := fun i h st b hb => by
    have e : b = it := by simpa using hb
    subst e
    exact ⟨_, st, fun v z => by
      have z' : Data.fields _ = Data.cell v := z
      cases z'⟩
  keep := fun i h h' st k => k it (by simp) _ st
  item := by
    intro X hP hw hK hc i pins s σ H E I hf st hg
    subst hP hw hK
    obtain ⟨f0, f1, f2, f3, f4, f5⟩ := hf it (by simp)
    have W := Walks.range (prog := X.prog) (w := X.w) (I.ok.hd hc) it (lo + n - 1) (-1) n
    refine W.item i s _ _ hg st fun v h' tk hv st' kk => ?_
    obtain ⟨t, rfl⟩ := hv
    have I1 : Inv X pins σ H { s with heap := h', toks := tk } := I.turned (fun b o hb e => kk b o (by simpa using hb) e) f0 f1 f3 f4 f5
    refine ⟨_, rfl, go_of (s := { s with heap := h', toks := tk }) (n := "range_iterator") st' rfl rfl (by decide) ⟨.int (lo + n - 1 - i), H, I1, ⟨t, ?_⟩, ⟨rfl, rfl⟩, st', fun b hb => (hf b hb).1⟩⟩
    congr 1; omega
  done := by
    intro X hP hw hK hc i pins s σ H E I hf st hg
    subst hP hw hK
    obtain ⟨f0, f1, f2, f3, f4, f5⟩ := hf it (by simp)
    exact wpAny_pyNext_range_end (I.ok.hd hc) st (by have : n ≤ i := hg; omega) fun h' eb => ⟨rfl, I.turned (t' := s.toks) (fun b o hb e => eb b o hb e) f0 f1 f3 f4 f5⟩
  self := fun _ _ _ _ _ st h => wpAny_pyIter_rangeiter st h
section
variable {X : Cx} {tg : Expr}
def iRevR (ta : TA) : TI := fun σ H R => ta σ H fun vs H1 => ∃ (a : Addr) (lo hi : Int), vs = [.ref a] ∧ H1 a = some (.rng lo hi) ∧ -(2 ^ 62) ≤ lo ∧ lo < 2 ^ 62 ∧ -(2 ^ 62) ≤ hi ∧ hi < 2 ^ 62 ∧ R (Itrv lo (hi - lo).toNat) H1
theorem pi_revR {e : Expr} {ta : TA} {p pos : Pos} (hg : Gl X "reversed") (hm : X.mg "reversed" = none) (ha : PA X [e] ta) (hs : starEach [e] X.env = [(false, eval e X.env)] := by rfl) : PI X tg (.Call (.Name "reversed" p) [e] [] pos) (iRevR ta) := by
  intro pins s σ H R I h
  refine wpAny_Call_Name_kw (ld_blt I hg hm PyProof.Rows.boot_reversed ?_)
  refine PyProof.Rows.callWith_type1 (thn (ha pos pins s σ H _ I h) fun us s1 ⟨vs, H1, I1, r1, a, lo, hi, e1, hq, h1, h2, h3, h4, q⟩ => ?_) hs (by rfl)
  subst e1
  obtain ⟨u, rfl, ru⟩ := r1.one
  cases (show u = Value.ref a from ru)
  obtain ⟨t, u, v, hob⟩ := (show ∃ t u v, s1.heap.get? a = some { cls := .type "range", data := .fields #[.int lo t, .int hi u, .int 1 v] } from I1.hok a _ hq)
  refine call_reversed_rng hob (rev_small h1 h2 h3 h4) ?_
  refine wpAny_pyIter_rangeiter (it := s1.heap.objs.size) (x := lo + (Builtin.Range.rangeSize lo hi 1 - 1) * 1) (left := Builtin.Range.rangeSize lo hi 1) (step := -1) (Heap.get?_push_size _ rfl) ?_
  refine ⟨s1.heap.objs.size, [s1.heap.objs.size], _, _, H1, rfl, I1.kept (t' := s1.toks) fun b o e => Heap.get?_push_of_some _ e, turn_rngrev _ lo (hi - lo).toNat, ?_, fun b hb => ?_, q⟩
  · have e2 : (((hi - lo).toNat : Nat) : Int) - ((0 : Nat) : Int) = Builtin.Range.rangeSize lo hi 1 := by rw [rangeSize_one]; split <;> omega
    have e1 : lo + ((hi - lo).toNat : Nat) - 1 + ((0 : Nat) : Int) * (-1) = lo + (Builtin.Range.rangeSize lo hi 1 - 1) * 1 := by rw [← e2]; omega
    show IsRangeIter _ _ (lo + ((hi - lo).toNat : Nat) - 1 + ((0 : Nat) : Int) * (-1)) ((((hi - lo).toNat : Nat) : Int) - ((0 : Nat) : Int)) (-1)
    rw [e1, e2]
    exact Heap.get?_push_size _ rfl
  · have e : b = s1.heap.objs.size := by simpa using hb
    subst e
    exact I1.fpOk (Nat.le_refl _) (I1.hok.fresh (Nat.le_refl _))
end
end L2
namespace L2

def pickN : List Int → Int → Nat × Int
  | [], x => (0, x)
  | a :: ws, x => if a ≤ x then ((pickN ws (x - a)).1 + 1, (pickN ws (x - a)).2) else (0, x)
theorem pickN_ok : ∀ (ws : List Int) (x : Int), 0 ≤ x → x < ws.sum → (pickN ws x).1 < ws.length ∧ 0 ≤ (pickN ws x).2 ∧ (pickN ws x).2 < ws.getD (pickN ws x).1 0
  | [], x, h0, h1 => by simp at h1; omega
  | a :: ws, x, h0, h1 => by
    rw [List.sum_cons] at h1
    unfold pickN
    by_cases h : a ≤ x
    · rw [if_pos h]
      have ih := pickN_ok ws (x - a) (by omega) (by omega)
      refine ⟨by simp; omega, ih.2.1, ?_⟩
      simpa using ih.2.2
    · rw [if_neg h]
      exact ⟨by simp, h0, by simp; omega⟩
def waysL (r st : Nat) : List Int := (List.range (st + 1)).map fun f => goN r (st + 1 - f)
theorem waysL_len (r st : Nat) : (waysL r st).length = st + 1 := by simp [waysL]
theorem waysL_at {r st f : Nat} (h : f < st + 1) : (waysL r st).getD f 0 = goN r (st + 1 - f) := by simp [waysL, List.getD_eq_getElem?_getD, h]
theorem waysL_sum (r : Nat) : ∀ st, (waysL r st).sum = goN (r + 1) st
  | 0 => by simp [waysL, goN]
  | st + 1 => by
    rw [goN_succ, ← waysL_sum r st]
    unfold waysL
    rw [List.range_succ_eq_map, List.map_cons, List.sum_cons, List.map_map, Int.add_comm]
    congr 2
    refine List.map_congr_left fun f _ => ?_
    show goN r (st + 1 + 1 - (f + 1)) = _
    congr 1; omega
theorem goN_pos : ∀ r j, 1 ≤ goN r j
  | 0, _ => by simp [goN]
  | r + 1, 0 => by rw [goN_first]; exact goN_pos r 1
  | r + 1, j + 1 => by
    rw [goN_succ]
    have := goN_pos (r + 1) j
    have := goN_pos r (j + 2)
    omega
def unrk (n : Nat) (x : Int) : Nat → List Nat × Int
  | 0 => ([], x)
  | k + 1 => ((unrk n x k).1 ++ [(pickN (waysL (n - 1 - k) (openN (unrk n x k).1 k)) (unrk n x k).2).1], (pickN (waysL (n - 1 - k) (openN (unrk n x k).1 k)) (unrk n x k).2).2)
def unrank (n : Nat) (x : Int) : List Nat := (unrk n x n).1
theorem unrk_ok {n : Nat} {x : Int} (h0 : 0 ≤ x) (h1 : x < goN n 0) : ∀ k, k ≤ n → (unrk n x k).1.length = k ∧ DropsOk (unrk n x k).1 ∧ 0 ≤ (unrk n x k).2 ∧ (unrk n x k).2 < goN (n - k) (openN (unrk n x k).1 k)
  | 0, _ => ⟨rfl, fun k hk => absurd hk (Nat.not_lt_zero _), h0, h1⟩
  | k + 1, hk => by
    obtain ⟨a, b, c, d⟩ := unrk_ok h0 h1 k (by omega)
    have ew : goN (n - k) (openN (unrk n x k).1 k) = (waysL (n - 1 - k) (openN (unrk n x k).1 k)).sum := by
      rw [waysL_sum]; congr 1; omega
    rw [ew] at d
    have P := pickN_ok _ _ c d
    rw [waysL_len] at P
    rw [waysL_at P.1] at P
    unfold unrk
    generalize pickN (waysL (n - 1 - k) (openN (unrk n x k).1 k)) (unrk n x k).2 = p at P
    generalize (unrk n x k).1 = ds at a b P
    have el : (ds ++ [p.1]).getD k 0 = p.1 := by simp [List.getD_eq_getElem?_getD, ← a]
    refine ⟨by simp [a], fun j hj => ?_, P.2.1, ?_⟩
    · rw [List.length_append, List.length_singleton, a] at hj
      rw [openN_app _ _ _ (by omega)]
      by_cases z : j = k
      · subst z; rw [el]; omega
      · have := b j (by omega)
        rwa [show (ds ++ [p.1]).getD j 0 = ds.getD j 0 by rw [List.getD_eq_getElem?_getD, List.getD_eq_getElem?_getD, List.getElem?_append_left (by omega)]]
    · show p.2 < goN (n - (k + 1)) (openN (ds ++ [p.1]) k - (ds ++ [p.1]).getD k 0 + 1)
      rw [el, openN_app _ _ _ (by omega)]
      have e1 : n - (k + 1) = n - 1 - k := by omega
      have e2 : openN ds k - p.1 + 1 = openN ds k + 1 - p.1 := by omega
      rw [e1, e2]; exact P.2.2
theorem unrk_open {n : Nat} {x : Int} {k : Nat} (hl : (unrk n x k).1.length = k) : openN (unrk n x (k + 1)).1 (k + 1) = openN (unrk n x k).1 k - (pickN (waysL (n - 1 - k) (openN (unrk n x k).1 k)) (unrk n x k).2).1 + 1 := by
  show openN ((unrk n x k).1 ++ [_]) k - ((unrk n x k).1 ++ [_]).getD k 0 + 1 = _
  rw [openN_app _ _ _ (by omega)]
  congr 2
  generalize (pickN (waysL (n - 1 - k) (openN (unrk n x k).1 k)) (unrk n x k).2).1 = d
  generalize (unrk n x k).1 = ds at hl
  subst hl
  simp [List.getD_eq_getElem?_getD]
theorem pickN_step {ws : List Int} {i : Nat} {x a : Int} (h : ws[i]? = some a) : pickN (ws.drop i) x = if a ≤ x then ((pickN (ws.drop (i + 1)) (x - a)).1 + 1, (pickN (ws.drop (i + 1)) (x - a)).2) else (0, x) := by
  obtain ⟨h1, h2⟩ := List.getElem?_eq_some_iff.mp h
  rw [List.drop_eq_getElem_cons h1, h2]; rfl
end L2


set_option Elab.async false
set_option linter.all false
set_option maxRecDepth 100000
set_option maxHeartbeats 1000000
namespace L2
open PySem PySem.Spec PyProof.Rows PySem.W
section
variable {X : Cx}

def rMulS : R2 := fun x y H Q => ∃ (i : Str) (n : Int), x = .str i ∧ y = .int n ∧ -1000 ≤ n ∧ n ≤ 1000 ∧ i.length ≤ 1000 ∧ Q (.str (Txt.mul i n)) H
def rJoin (K : Frag) : V → List V → Hp → VK → Prop := fun x xs H Q => ∃ (sep : Str) (a : Addr) (ss : List Str), x = .str sep ∧ xs = [.ref a] ∧ SqL K H a (ss.map V.str) ∧ JoinOk sep ss = true ∧ Q (.str (Txt.join sep ss)) H
def Its (x : Str) : It := ⟨fun i _ => i < x.cps.size, fun i H v H' => H' = H ∧ ∃ c, x.cps[i]? = some c ∧ v = .str ⟨#[c]⟩, fun i _ => x.cps.size ≤ i⟩
def iStr (tl : TE) : TI := fun σ H R => tl σ H fun x H1 => ∃ y : Str, x = .str y ∧ y.cps.all (· < 128) = true ∧ R (Its y) H1
end

end L2
namespace L2
open PySem PySem.Spec PyProof.Rows PySem.W
end L2
namespace L2
open PySem PySem.Spec PyProof.Rows PySem.W

theorem sum_intTup {prog : Program} {w : World} {A : Around} {E Q : Value → Shared → Prop} {s : Shared} {l : Addr} {xs : Array (Int × Tok)} (hA : A.handled = none) (hl : s.heap.IsTuple l (intItems xs))
    (h : ∀ h' tk t', (∀ b o, s.heap.get? b = some o → h'.get? b = some o) → Q (.int (preSum (numAt xs) xs.size) t') { s with heap := h', toks := tk }) :
    wpAny (model prog w) A (call (.builtin "sum") [.ref l]) Q E s := by
  have hlt : l < s.heap.objs.size := by obtain ⟨o, e, _⟩ := hl; exact Heap.lt_size e
  refine call_sum_walkG (wpAny_pyIter_tuple hl ?_)
  refine ⟨_, _, _, _, _, _, numAt xs, rfl, Walks.tuple (A := A.in1) hA s.heap.objs.size l (Nat.ne_of_lt hlt) (intItems xs), ⟨⟨_, Heap.get?_push_size _ rfl, rfl, rfl⟩, hl.push _⟩, fun b hb => ?_, fun _ _ => intItems_at, fun h' tk t' hk => ?_⟩
  · have e : (s.heap.push { cls := .type "tuple_iterator", data := .fields #[.ref l, .int 0 0] }).objs.size = s.heap.objs.size + 1 := Heap.size_push ..
    show b < (s.heap.push _).objs.size
    rw [e]
    simp only [List.mem_cons, List.not_mem_nil, or_false] at hb
    rcases hb with rfl | rfl
    · exact Nat.lt_succ_self _
    · exact Nat.lt_succ_of_lt hlt
  · have := h h' tk t' fun b o e => hk b o (fun hm => by
      have eb : b = s.heap.objs.size := by simpa using hm
      exact absurd (Heap.lt_size e) (by rw [eb]; exact Nat.lt_irrefl _)) (Heap.get?_push_of_some _ e)
    simpa [intItems] using this
def rSumT (K : Frag) : List V → Hp → VK → Prop := fun xs H Q => ∃ (p : Addr) (ns : List Int), xs = [.ref p] ∧ SqT K H p (ns.map V.int) ∧ Q (.int ns.sum) H
theorem call_sumT {X : Cx} {K : Frag} (hK : X.K = K) (hc : X.calm = true) : CallR X (.builtin "sum") (rSumT K) := by
  subst hK
  intro pins s σ H xs us Q I r h
  obtain ⟨p, ns, rfl, hp, q⟩ := h
  obtain ⟨u, rfl, ru⟩ := r.one
  cases (show u = Value.ref p from ru)
  obtain ⟨its, rv, pl, hz⟩ := I.tuple hp
  obtain ⟨ys, e1, e2⟩ := ints_of rv
  refine sum_intTup (xs := ys) (I.ok.hd hc) (e1 ▸ pl) fun h' tk t' k => ⟨.int ns.sum, H, I.kept k, ⟨t', ?_⟩, q⟩
  congr 1
  rw [preSum_eq, ← e2, List.take_of_length_le (by simp)]
theorem nats_ints (ds : List Nat) : natsV ds = (ds.map fun (d : Nat) => (d : Int)).map V.int := by simp [natsV, Function.comp_def]
theorem sum_cast : ∀ ds : List Nat, (ds.map fun (d : Nat) => (d : Int)).sum = ((ds.sum : Nat) : Int)
  | [] => rfl
  | d :: ds => by rw [List.map_cons, List.sum_cons, List.sum_cons, sum_cast ds]; omega
end L2


set_option Elab.async false
set_option linter.all false
set_option maxRecDepth 100000
set_option maxHeartbeats 1000000
namespace L2
open PySem PySem.Spec PyProof.Rows PySem.W
section
variable {X : Cx}

end
end L2


set_option Elab.async false
set_option linter.all false
set_option maxRecDepth 100000
set_option maxHeartbeats 1000000
namespace L2
open PySem PySem.Spec PyProof.Rows PySem.W
section
variable {X : Cx}

def rCountS : V → List V → Hp → VK → Prop := fun x xs H Q => ∃ a b : Str, x = .str a ∧ xs = [.str b] ∧ Q (.int (Txt.count a b)) H
def rRstrip : V → List V → Hp → VK → Prop := fun x xs H Q => ∃ a b : Str, x = .str a ∧ xs = [.str b] ∧ a.length ≤ sizeLine ∧ Q (.str (Txt.rstripChars a b)) H
def rLenS : List V → Hp → VK → Prop := fun xs H Q => ∃ a : Str, xs = [.str a] ∧ a.length ≤ sizeLine ∧ Q (.int (a.length : Nat)) H
end

end L2


set_option Elab.async false
set_option linter.all false
set_option maxRecDepth 100000
set_option maxHeartbeats 1000000
namespace L2

theorem pickN_sum : ∀ (ws : List Int) (x : Int), x = (ws.take (pickN ws x).1).sum + (pickN ws x).2
  | [], x => by simp [pickN]
  | a :: ws, x => by
    unfold pickN
    by_cases h : a ≤ x
    · rw [if_pos h]
      have := pickN_sum ws (x - a)
      show x = ((a :: ws).take ((pickN ws (x - a)).1 + 1)).sum + _
      rw [List.take_succ_cons, List.sum_cons]
      omega
    · rw [if_neg h]; simp
theorem waysL_take {r st d : Nat} (h : d ≤ st + 1) : ((waysL r st).take d).sum = fewer r st d := by
  unfold waysL fewer
  rw [← List.map_take, List.take_range, Nat.min_eq_left h]
theorem fewer_succ (r st d : Nat) : fewer r st (d + 1) = fewer r st d + goN r (st + 1 - d) := by
  unfold fewer
  rw [List.range_succ, List.map_append, List.sum_append]; simp
theorem fewer_mono (r st : Nat) {d e : Nat} (h : d ≤ e) : fewer r st d ≤ fewer r st e := by
  induction h with
  | refl => exact Int.le_refl _
  | @step m _ ih =>
    rw [fewer_succ]
    have := goN_pos r (st + 1 - m)
    omega
theorem fewer_all (r st : Nat) : fewer r st (st + 1) = goN (r + 1) st := by
  rw [← waysL_sum, ← waysL_take (Nat.le_refl _), List.take_of_length_le (by rw [waysL_len]; exact Nat.le_refl _)]
def rk : Nat → List Nat → Int
  | _, [] => 0
  | st, d :: ds => fewer ds.length st d + rk (st - d + 1) ds
def uk : Nat → Nat → Int → List Nat
  | 0, _, _ => []
  | r + 1, st, x => (pickN (waysL r st) x).1 :: uk r (st - (pickN (waysL r st) x).1 + 1) (pickN (waysL r st) x).2
def Ok : Nat → List Nat → Prop
  | _, [] => True
  | st, d :: ds => d ≤ st ∧ Ok (st - d + 1) ds
theorem rk_bd : ∀ (ds : List Nat) (st : Nat), Ok st ds → 0 ≤ rk st ds ∧ rk st ds < goN ds.length st
  | [], st, _ => by simp [rk, goN]
  | d :: ds, st, h => by
    obtain ⟨h1, h2⟩ := rk_bd ds (st - d + 1) h.2
    have hd : d ≤ st := h.1
    unfold rk
    rw [List.length_cons]
    have h3 := fewer_mono ds.length st (Nat.zero_le d)
    have h4 := fewer_mono ds.length st (show d + 1 ≤ st + 1 by omega)
    rw [fewer_all, fewer_succ] at h4
    have h5 : fewer ds.length st 0 = 0 := rfl
    rw [show st - d + 1 = st + 1 - d by omega] at h1 h2 ⊢
    omega
theorem uk_ok : ∀ (r st : Nat) (x : Int), 0 ≤ x → x < goN r st → Ok st (uk r st x) ∧ (uk r st x).length = r ∧ rk st (uk r st x) = x
  | 0, st, x, h0, h1 => by
    have : x = 0 := by simp [goN] at h1; omega
    subst this
    exact ⟨trivial, rfl, rfl⟩
  | r + 1, st, x, h0, h1 => by
    rw [← waysL_sum] at h1
    have P := pickN_ok _ _ h0 h1
    rw [waysL_len] at P
    rw [waysL_at P.1] at P
    have hs := pickN_sum (waysL r st) x
    rw [waysL_take (by omega)] at hs
    unfold uk
    generalize pickN (waysL r st) x = p at P hs
    rw [show st + 1 - p.1 = st - p.1 + 1 by omega] at P
    obtain ⟨a, b, c⟩ := uk_ok r (st - p.1 + 1) p.2 P.2.1 P.2.2
    refine ⟨⟨by omega, a⟩, by rw [List.length_cons, b], ?_⟩
    rw [rk, b, c]; omega
open PySem in

theorem rk_lt : ∀ (ds es : List Nat) (st : Nat), ds.length = es.length → Ok st ds → Ok st es → (HT.lexLt (ds.map fun (d : Nat) => (d : Int)) (es.map fun (d : Nat) => (d : Int)) = true ↔ rk st ds < rk st es)
  | [], [], st, _, _, _ => by simp [rk, HT.lexLt]
  | d :: ds, e :: es, st, hl0, h1, h2 => by
    have hl : ds.length = es.length := by simpa using hl0
    clear hl0
    obtain ⟨a0, a1⟩ := rk_bd ds (st - d + 1) h1.2
    obtain ⟨b0, b1⟩ := rk_bd es (st - e + 1) h2.2
    have hd : d ≤ st := h1.1
    have he : e ≤ st := h2.1
    rw [rk, rk, List.map_cons, List.map_cons, HT.lexLt_cons]
    rcases Nat.lt_trichotomy d e with z | z | z
    · have h3 := fewer_mono ds.length st (show d + 1 ≤ e by omega)
      rw [fewer_succ] at h3
      rw [if_neg (by omega), decide_eq_true_iff]
      rw [show st - d + 1 = st + 1 - d by omega] at a1 a0 ⊢
      rw [← hl]
      exact ⟨fun _ => by omega, fun _ => by omega⟩
    · subst z
      have ih := rk_lt ds es (st - d + 1) hl h1.2 h2.2
      rw [if_pos rfl, ih, ← hl]
      exact ⟨fun h => by omega, fun h => by omega⟩
    · have h3 := fewer_mono ds.length st (show e + 1 ≤ d by omega)
      rw [fewer_succ] at h3
      rw [if_neg (by omega), decide_eq_true_iff]
      rw [show st - e + 1 = st + 1 - e by omega, ← hl] at b1
      rw [show st - e + 1 = st + 1 - e by omega, ← hl]
      rw [show st - e + 1 = st + 1 - e by omega] at b0
      exact ⟨fun h => by omega, fun h => by omega⟩

theorem rankTo_rk {ds : List Nat} : ∀ k, k ≤ ds.length → rankTo ds.length ds k + rk (openN ds k) (ds.drop k) = rk 0 ds
  | 0, _ => by simp [rankTo, openN]
  | k + 1, hk => by
    have ih := rankTo_rk (ds := ds) k (by omega)
    have hkl : k < ds.length := hk
    have e : ds.drop k = ds.getD k 0 :: ds.drop (k + 1) := by
      rw [List.drop_eq_getElem_cons hkl]
      congr 1
      simp [hkl]
    rw [e, rk, List.length_drop, show ds.length - (k + 1) = ds.length - 1 - k by omega] at ih
    show rankTo ds.length ds k + fewer (ds.length - 1 - k) (openN ds k) (ds.getD k 0) + rk (openN ds k - ds.getD k 0 + 1) (ds.drop (k + 1)) = _
    omega
theorem rank_eq (ds : List Nat) : rankTo ds.length ds ds.length = rk 0 ds := by
  have := rankTo_rk (ds := ds) ds.length (Nat.le_refl _)
  rw [List.drop_of_length_le (Nat.le_refl _), rk] at this
  omega
theorem unrk_uk {n : Nat} {x : Int} (h0 : 0 ≤ x) (h1 : x < goN n 0) : ∀ k, k ≤ n → (unrk n x k).1 ++ uk (n - k) (openN (unrk n x k).1 k) (unrk n x k).2 = uk n 0 x
  | 0, _ => rfl
  | k + 1, hk => by
    have ih := unrk_uk h0 h1 k (by omega)
    obtain ⟨hl, _, _, _⟩ := unrk_ok h0 h1 k (by omega)
    rw [unrk_open hl]
    rw [show n - k = (n - 1 - k) + 1 by omega, uk] at ih
    rw [← ih]
    show ((unrk n x k).1 ++ [_]) ++ uk (n - (k + 1)) _ _ = _
    rw [List.append_assoc, List.singleton_append, show n - (k + 1) = n - 1 - k by omega]
    rfl
theorem unrank_eq {n : Nat} {x : Int} (h0 : 0 ≤ x) (h1 : x < goN n 0) : unrank n x = uk n 0 x := by
  have := unrk_uk h0 h1 n (Nat.le_refl _)
  rw [Nat.sub_self, uk, List.append_nil] at this
  exact this

theorem rank_unrank {n : Nat} {x : Int} (h0 : 0 ≤ x) (h1 : x < goN n 0) : rankTo n (unrank n x) n = x := by
  obtain ⟨_, b, c⟩ := uk_ok n 0 x h0 h1
  rw [unrank_eq h0 h1]
  have := rank_eq (uk n 0 x)
  rw [b, c] at this
  exact this
end L2
namespace L2

def goTop : Nat → List Int → Int
  | 0, l => l.headD 0
  | n + 1, l => goTop n (sumsFrom 0 (l.drop 1))
theorem goTop_eq : ∀ (n r m : Nat), n < m → goTop n (goRow r m) = goN (r + n) 0
  | 0, r, m, h => by
    obtain ⟨k, rfl⟩ : ∃ k, m = k + 1 := ⟨m - 1, by omega⟩
    simp [goTop, goRow, List.range_succ_eq_map]
  | n + 1, r, m, h => by
    obtain ⟨k, rfl⟩ : ∃ k, m = k + 1 := ⟨m - 1, by omega⟩
    rw [goTop, sums_goRow, goTop_eq n (r + 1) k (by omega), show r + 1 + n = r + (n + 1) by omega]
theorem goN_top_eq (n : Nat) : goN n 0 = goTop n (List.replicate (n + 1) 1) := by
  have := goTop_eq n 0 (n + 1) (by omega)
  rw [Nat.zero_add] at this
  rw [← this]
  congr 1
  exact (List.eq_replicate_iff.mpr ⟨by simp [goRow], fun b hb => by simp [goRow, goN] at hb; exact hb.2.symm⟩)
end L2
namespace L2
def tnL : Nat → List Int
  | 0 => [1]
  | t + 1 => grow (tnL t)
def openL : Nat → List Int
  | 0 => [1]
  | n + 1 => 0 :: tnL n
theorem open_go : ∀ n, n < 41 → (openL n).sum = goTop n (List.replicate (n + 1) 1) := by decide +kernel
end L2
namespace L2
open PySem PySem.Spec PyProof.Rows PySem.W
theorem op_ltQ {X : Cx} {K : Frag} (hK : X.K = K) {k : Nat} (hr : Room k X.A) : OpR X (compareOp .Lt) (rLtT K) := by
  subst hK
  exact op_ltT (by have := hr.un; omega)
end L2


set_option Elab.async false
set_option linter.all false
set_option maxRecDepth 100000
set_option maxHeartbeats 1000000
namespace L2
open PySem PySem.Spec PyProof.Rows PySem.W

section
variable {X : Cx}
def rRepU : R2 := fun x y H Q => ∃ (a : Addr) (n : Int) (xs : List V), x = .ref a ∧ y = .int n ∧ H a = some (.tup xs) ∧ xs ≠ [] ∧ xs.length ≤ 1000 ∧ -1000 ≤ n ∧ n < 1000 ∧ ∀ (p : Addr) H', Same H H' → H' p = some (.tup (List.replicate n.toNat xs).flatten) → Q (.ref p) H'
end
end L2


set_option Elab.async false
set_option linter.all false
set_option maxRecDepth 100000
set_option maxHeartbeats 1000000
namespace L2
end L2


set_option Elab.async false
set_option linter.all false
set_option maxRecDepth 100000
set_option maxHeartbeats 1000000

namespace L2
open PySem PySem.Spec PyProof.Rows PySem.W
def fallsI (ns : List Int) : Nat := ((List.range (ns.length - 1)).filter fun k => decide (nth ns (k + 1) < nth ns k)).length
theorem over_next {f : Nat → Int} {k : Nat} : Over f (k + 1) k ↔ f (k + 1) < f k := by
  constructor
  · rintro (⟨h, _⟩ | ⟨_, h⟩)
    · omega
    · exact h k (Nat.le_refl _) (by omega)
  · intro h
    refine .inr ⟨by omega, fun r r1 r2 => ?_⟩
    rw [show r = k by omega]; exact h
theorem falls_trees {ns ms T : List Int} (h1 : TreeIs ns T) (h2 : TreeIs ms T) : fallsI ns = fallsI ms := by
  have e : ns.length = ms.length := h1.1.symm.trans h2.1
  unfold fallsI
  rw [e]
  congr 1
  refine List.filter_congr fun k hk => ?_
  have hk := List.mem_range.mp hk
  have a := way_over h1 (p := k) (o := k + 1) (by omega)
  have b := way_over h2 (p := k) (o := k + 1) (by omega)
  rw [over_next] at a b
  rw [decide_eq_decide]
  constructor
  · intro z; exact (b.mp (a.mpr ⟨by omega, z⟩)).2
  · intro z; exact (a.mp (b.mpr ⟨by omega, z⟩)).2
def maxI (ns : List Int) : Int := ns.foldr max (-1)
theorem maxI_is {m : Int} : ∀ {ns : List Int}, m ∈ ns → (∀ a ∈ ns, a ≤ m) → -1 ≤ m → maxI ns = m
  | [], h, _, _ => absurd h (by simp)
  | x :: ns, h, h2, h3 => by
    unfold maxI
    rw [List.foldr_cons]
    have hx := h2 x (by simp)
    rcases List.mem_cons.mp h with rfl | h
    · have : ∀ l : List Int, (∀ a ∈ l, a ≤ m) → l.foldr max (-1) ≤ m := fun l => by
        induction l with
        | nil => intro _; exact h3
        | cons y l ih => intro z; rw [List.foldr_cons]; have := z y (by simp); have := ih fun a ha => z a (by simp [ha]); omega
      have := this ns fun a ha => h2 a (by simp [ha])
      omega
    · have := maxI_is h (fun a ha => h2 a (by simp [ha])) h3
      unfold maxI at this
      omega
def shapeL (n : Nat) (j : Nat) : List Int := [(n : Int) - ((unrank n (j : Int)).sum : Nat), fallsI (flatI (hungT (unrank n (j : Int)))), maxI (flatI (hungT (unrank n (j : Int))))]
theorem unrank_lt {n : Nat} {x y : Int} (h0 : 0 ≤ x) (h1 : x < y) (h2 : y < goN n 0) : HT.lexLt ((unrank n x).map fun (d : Nat) => (d : Int)) ((unrank n y).map fun (d : Nat) => (d : Int)) = true := by
  rw [unrank_eq h0 (by omega), unrank_eq (by omega) h2]
  obtain ⟨o1, l1, r1⟩ := uk_ok n 0 x h0 (by omega)
  obtain ⟨o2, l2, r2⟩ := uk_ok n 0 y (by omega) h2
  exact (rk_lt _ _ 0 (by omega) o1 o2).mpr (by rw [r1, r2]; exact h1)
theorem flatI_pos {T : List Int} : ∀ a ∈ flatI T, 0 ≤ a := fun a ha => by
  unfold flatI at ha
  obtain ⟨p, _, rfl⟩ := List.mem_map.mp ha
  omega
end L2


set_option Elab.async false
set_option linter.all false
set_option maxRecDepth 100000
set_option maxHeartbeats 4000000
namespace K27
open PySem PySem.Spec PyProof.Rows L2
local macro_rules | `(tactic| walk_at "rd") => `(tactic| simp only [tIfS, tNot, tTest, tChain, rI0, rI, rU, tVar, tC, tB, tIf, tAndV, tOrV, tNotV, tCall, tCallX, tCons, tNil, tAsg, tSeq, tRet, tNext, tOp, tUn, tAnd, tOr, tDrop, gName, gSub, tAug, tCB, tSl, tRaise, tLst, tTup, L2.start, tYes, gTup, gCons, gNil, iniC, Option.join_some, Option.join_none, rEq, rNe, scal_ii, scal_bb, scal_ss, scal_nn, scal_ni, scal_in, tBM, Bool.true_eq_false, List.map_cons, List.map_nil, List.cons_append, List.nil_append, List.length_cons, List.length_nil, List.replicate, List.append_nil, List.set_cons_zero, List.set_cons_succ, List.getElem?_cons_zero, List.getElem?_cons_succ, Option.some.injEq, V.int.injEq, V.bl.injEq, V.ref.injEq, List.cons.injEq, and_true, true_and, exists_eq_left, exists_eq_left', exists_and_left, exists_eq, decide_eq_true_eq, Bool.not_eq_true', decide_eq_false_iff_not, cxK, and_assoc, Bool.false_eq_true, ↓reduceIte, tFor_eq, tWhile_eq, tComp_eq, iRng1, iRng2, iList, iTup, iZip, iRev, rIxL, rIxT, rSetL, rCat, rIsi, rSum, rCount, tDelT, rPop, rIntB, tPar, rInsert, rIndex, rLen, rLof, rTof, tChain3, rBits, iSeq, tBM0, rEqD, tRngV, rLstR, tRngV2, rLstR2, rIn, gSubSl, rSlQ, iEnum, iEnumT, rInD, tMaxDT, tMaxD, tMinD, rIndexF, rSorted, rOr, rAll, rAny, ipM, rIxQ, tRev, rSlL, tPart, tNoPart, tSl, ipI, rAppend, rRep, cOf_ref, cOf_ty, rTupR2, rPopAt, iZipQ, rExtend, rSortT, rSlU, tAugS, iRevR, rMulS, rJoin, iStr, rSumT, V.str.injEq, rCountS, rRstrip, rLenS, rLtT, rRepU])
def top (i : Nat) : Stmt := PySem.Challenge.pw_dipkin_k27_whole_all_trees_of_few_places.main.body.getD i (.Pass ⟨0, 0, 0, 0⟩)
abbrev s_settle : Stmt := top 14
abbrev s_tree_of : Stmt := top 15
abbrev s_way_up : Stmt := top 16
abbrev s_is_tree : Stmt := top 17
abbrev s_need_tree : Stmt := top 18
abbrev s_fences_of : Stmt := top 19
abbrev s_need_count : Stmt := top 21
abbrev s_running_sums : Stmt := top 22
abbrev s_one_more : Stmt := top 23
abbrev s_climbs : Stmt := top 24
abbrev s_many_trees : Stmt := top 25
abbrev s_many_open : Stmt := top 26
abbrev s_choices : Stmt := top 27
abbrev s_many_falls : Stmt := top 28
abbrev s_many_flat : Stmt := top 29
abbrev s_drops_of : Stmt := top 31
abbrev s_need_short : Stmt := top 32
abbrev s_by_drops : Stmt := top 33
abbrev s_pick : Stmt := top 35
abbrev s_goings_on : Stmt := top 36
abbrev s_drop_ways : Stmt := top 37
abbrev s_tree_at : Stmt := top 38
abbrev s_number_of : Stmt := top 39
abbrev s__law_pool : Stmt := top 41
abbrev s__law_pick : Stmt := top 42
abbrev s__law_over : Stmt := top 43
abbrev s__law_flats : Stmt := top 44
abbrev s__law_tree_of : Stmt := top 45
abbrev s__law_is_tree : Stmt := top 46
abbrev s__law_kin_row : Stmt := top 47
abbrev s__law_alone : Stmt := top 48
abbrev s__law_drops_of : Stmt := top 49
abbrev s__law_none_behind : Stmt := top 50
abbrev s__law_falls : Stmt := top 51
abbrev s_law : Stmt := top 52
structure Txt (K : PySem.W.Frag) (mg : Str → Option Value) : Prop where
  b_ValueError : mg "ValueError" = none
  b_enumerate : mg "enumerate" = none
  b_int : mg "int" = none
  b_isinstance : mg "isinstance" = none
  b_len : mg "len" = none
  b_max : mg "max" = none
  b_min : mg "min" = none
  b_range : mg "range" = none
  b_reversed : mg "reversed" = none
  b_sorted : mg "sorted" = none
  b_sum : mg "sum" = none
  b_tuple : mg "tuple" = none
  c_DipError : mg "DipError" = some (.ref (clsAt mg "DipError"))
  x_DipError : PySem.W.excIn K (clsAt mg "DipError") bmV newV = true
  c_Unlike : mg "Unlike" = some (.ref (clsAt mg "Unlike"))
  x_Unlike : PySem.W.excIn K (clsAt mg "Unlike") bmV newV = true
  c_Empty : mg "Empty" = some (.ref (clsAt mg "Empty"))
  x_Empty : PySem.W.excIn K (clsAt mg "Empty") bmV newV = true
  c_TooMany : mg "TooMany" = some (.ref (clsAt mg "TooMany"))
  x_TooMany : PySem.W.excIn K (clsAt mg "TooMany") bmV newV = true
  c_NoTree : mg "NoTree" = some (.ref (clsAt mg "NoTree"))
  x_NoTree : PySem.W.excIn K (clsAt mg "NoTree") bmV newV = true
  c_NoTelling : mg "NoTelling" = some (.ref (clsAt mg "NoTelling"))
  x_NoTelling : PySem.W.excIn K (clsAt mg "NoTelling") bmV newV = true
  c_NoPlace : mg "NoPlace" = some (.ref (clsAt mg "NoPlace"))
  x_NoPlace : PySem.W.excIn K (clsAt mg "NoPlace") bmV newV = true
  c_NoNumber : mg "NoNumber" = some (.ref (clsAt mg "NoNumber"))
  x_NoNumber : PySem.W.excIn K (clsAt mg "NoNumber") bmV newV = true
  c_NoPast : mg "NoPast" = some (.ref (clsAt mg "NoPast"))
  x_NoPast : PySem.W.excIn K (clsAt mg "NoPast") bmV newV = true
  c_NoText : mg "NoText" = some (.ref (clsAt mg "NoText"))
  x_NoText : PySem.W.excIn K (clsAt mg "NoText") bmV newV = true
  c_NoLine : mg "NoLine" = some (.ref (clsAt mg "NoLine"))
  x_NoLine : PySem.W.excIn K (clsAt mg "NoLine") bmV newV = true
  ex_TooMany : ExK K (clsAt mg "TooMany")
  up_TooMany : PySem.W.mroIn K (clsAt mg "TooMany") (.ref (clsAt mg "DipError")) = some true
  is_TooMany_DipError : PySem.W.kitOne K (.ref (clsAt mg "TooMany")) (.ref (clsAt mg "DipError")) = some true
  is_TooMany_Unlike : PySem.W.kitOne K (.ref (clsAt mg "TooMany")) (.ref (clsAt mg "Unlike")) = some false
  is_TooMany_Empty : PySem.W.kitOne K (.ref (clsAt mg "TooMany")) (.ref (clsAt mg "Empty")) = some false
  is_TooMany_TooMany : PySem.W.kitOne K (.ref (clsAt mg "TooMany")) (.ref (clsAt mg "TooMany")) = some true
  is_TooMany_NoTree : PySem.W.kitOne K (.ref (clsAt mg "TooMany")) (.ref (clsAt mg "NoTree")) = some false
  is_TooMany_NoTelling : PySem.W.kitOne K (.ref (clsAt mg "TooMany")) (.ref (clsAt mg "NoTelling")) = some false
  is_TooMany_NoPlace : PySem.W.kitOne K (.ref (clsAt mg "TooMany")) (.ref (clsAt mg "NoPlace")) = some false
  is_TooMany_NoNumber : PySem.W.kitOne K (.ref (clsAt mg "TooMany")) (.ref (clsAt mg "NoNumber")) = some false
  is_TooMany_NoPast : PySem.W.kitOne K (.ref (clsAt mg "TooMany")) (.ref (clsAt mg "NoPast")) = some false
  is_TooMany_NoText : PySem.W.kitOne K (.ref (clsAt mg "TooMany")) (.ref (clsAt mg "NoText")) = some false
  is_TooMany_NoLine : PySem.W.kitOne K (.ref (clsAt mg "TooMany")) (.ref (clsAt mg "NoLine")) = some false
  is_TooMany_V : PySem.W.kitOne K (.ref (clsAt mg "TooMany")) (.type "ValueError") = some true
  ex_NoNumber : ExK K (clsAt mg "NoNumber")
  up_NoNumber : PySem.W.mroIn K (clsAt mg "NoNumber") (.ref (clsAt mg "DipError")) = some true
  is_NoNumber_DipError : PySem.W.kitOne K (.ref (clsAt mg "NoNumber")) (.ref (clsAt mg "DipError")) = some true
  is_NoNumber_Unlike : PySem.W.kitOne K (.ref (clsAt mg "NoNumber")) (.ref (clsAt mg "Unlike")) = some false
  is_NoNumber_Empty : PySem.W.kitOne K (.ref (clsAt mg "NoNumber")) (.ref (clsAt mg "Empty")) = some false
  is_NoNumber_TooMany : PySem.W.kitOne K (.ref (clsAt mg "NoNumber")) (.ref (clsAt mg "TooMany")) = some false
  is_NoNumber_NoTree : PySem.W.kitOne K (.ref (clsAt mg "NoNumber")) (.ref (clsAt mg "NoTree")) = some false
  is_NoNumber_NoTelling : PySem.W.kitOne K (.ref (clsAt mg "NoNumber")) (.ref (clsAt mg "NoTelling")) = some false
  is_NoNumber_NoPlace : PySem.W.kitOne K (.ref (clsAt mg "NoNumber")) (.ref (clsAt mg "NoPlace")) = some false
  is_NoNumber_NoNumber : PySem.W.kitOne K (.ref (clsAt mg "NoNumber")) (.ref (clsAt mg "NoNumber")) = some true
  is_NoNumber_NoPast : PySem.W.kitOne K (.ref (clsAt mg "NoNumber")) (.ref (clsAt mg "NoPast")) = some false
  is_NoNumber_NoText : PySem.W.kitOne K (.ref (clsAt mg "NoNumber")) (.ref (clsAt mg "NoText")) = some false
  is_NoNumber_NoLine : PySem.W.kitOne K (.ref (clsAt mg "NoNumber")) (.ref (clsAt mg "NoLine")) = some false
  is_NoNumber_V : PySem.W.kitOne K (.ref (clsAt mg "NoNumber")) (.type "ValueError") = some true
  ex_NoTree : ExK K (clsAt mg "NoTree")
  up_NoTree : PySem.W.mroIn K (clsAt mg "NoTree") (.ref (clsAt mg "DipError")) = some true
  is_NoTree_DipError : PySem.W.kitOne K (.ref (clsAt mg "NoTree")) (.ref (clsAt mg "DipError")) = some true
  is_NoTree_Unlike : PySem.W.kitOne K (.ref (clsAt mg "NoTree")) (.ref (clsAt mg "Unlike")) = some false
  is_NoTree_Empty : PySem.W.kitOne K (.ref (clsAt mg "NoTree")) (.ref (clsAt mg "Empty")) = some false
  is_NoTree_TooMany : PySem.W.kitOne K (.ref (clsAt mg "NoTree")) (.ref (clsAt mg "TooMany")) = some false
  is_NoTree_NoTree : PySem.W.kitOne K (.ref (clsAt mg "NoTree")) (.ref (clsAt mg "NoTree")) = some true
  is_NoTree_NoTelling : PySem.W.kitOne K (.ref (clsAt mg "NoTree")) (.ref (clsAt mg "NoTelling")) = some false
  is_NoTree_NoPlace : PySem.W.kitOne K (.ref (clsAt mg "NoTree")) (.ref (clsAt mg "NoPlace")) = some false
  is_NoTree_NoNumber : PySem.W.kitOne K (.ref (clsAt mg "NoTree")) (.ref (clsAt mg "NoNumber")) = some false
  is_NoTree_NoPast : PySem.W.kitOne K (.ref (clsAt mg "NoTree")) (.ref (clsAt mg "NoPast")) = some false
  is_NoTree_NoText : PySem.W.kitOne K (.ref (clsAt mg "NoTree")) (.ref (clsAt mg "NoText")) = some false
  is_NoTree_NoLine : PySem.W.kitOne K (.ref (clsAt mg "NoTree")) (.ref (clsAt mg "NoLine")) = some false
  is_NoTree_V : PySem.W.kitOne K (.ref (clsAt mg "NoTree")) (.type "ValueError") = some true
  m_MOST_PLACES : mg "MOST_PLACES" = some (.int 40 (tokAt mg "MOST_PLACES"))
abbrev SpT := PySem.W.Frag → (Str → Option Value) → Sp
def spLaw (K : PySem.W.Frag) : Sp := fun vs H Q E => ∃ (a : Addr) (ns : List Int), vs = [.ref a] ∧ SqL K H a (ns.map V.int) ∧ ns.length ≤ 63 ∧ ∀ H', Q (.bl true) H'
def sp__law_pool : SpT := fun K mg vs H Q E => ∃ (a : Addr) (ns : List Int) (k : Int), vs = [.ref a, .int k] ∧ SqL K H a (ns.map V.int) ∧ 0 ≤ k ∧ k ≤ 100 ∧ ∀ p H', H p = none → Same H H' → PoolAt H' p → Q (.ref p) H'
def sp__law_pick : SpT := fun K mg vs H Q E => ∃ (p : Addr) (many : Int), vs = [.ref p, .int many] ∧ 0 < many ∧ many < 1267650600228229401496703205376 ∧ PoolAt H p ∧ ∀ d H', 0 ≤ d → d < many → PoolAt H' p → Exc p H H' → Q (.int d) H'
def sp__law_whole : SpT := fun K mg vs H Q E => ∃ i : Int, vs = [.int i] ∧ Q (.bl true) H

def cTM (mg : Str → Option Value) : Value := .ref (clsAt mg "TooMany")
def cNN (mg : Str → Option Value) : Value := .ref (clsAt mg "NoNumber")
def sp_need_short : SpT := fun K mg vs H Q E => ∃ (t : Addr) (xs : List V), vs = [.ref t] ∧ H t = some (.tup xs) ∧ xs.length ≤ 40 ∧ Q .non H
def sp_by_drops : SpT := fun K mg vs H Q E => ∃ (t : Addr) (ds : List Nat), vs = [.ref t] ∧ H t = some (.tup (natsV ds)) ∧ ds.length ≤ 40 ∧ DropsOk ds ∧ ∀ (u : Addr) H', Same H H' → H' u = some (.tup ((hungT ds).map V.int)) → Q (.ref u) H'
def sp_pick : SpT := fun K mg vs H Q E => ∃ (a : Addr) (ws : List Int) (x : Int), vs = [.ref a, .int x] ∧ H a = some (.lst (ws.map V.int)) ∧ 0 ≤ x ∧ x < ws.sum ∧ ∀ (u : Addr) H', Same H H' → H' u = some (.tup [.int ((pickN ws x).1 : Nat), .int (pickN ws x).2]) → Q (.ref u) H'
def sp_tree_at : SpT := fun K mg vs H Q E => ∃ (n x : Int), vs = [.int n, .int x] ∧ (¬ (0 ≤ n ∧ n ≤ 40) → ∀ H', Same H H' → E (cTM mg) none H') ∧ (∀ m : Nat, n = m → m ≤ 40 → ¬ (0 ≤ x ∧ x < goN m 0) → ∀ H', Same H H' → E (cNN mg) none H') ∧ (∀ m : Nat, n = m → m ≤ 40 → 0 ≤ x → x < goN m 0 → ∀ (u : Addr) H', Same H H' → H' u = some (.tup ((hungT (unrank m x)).map V.int)) → Q (.ref u) H')
def sp__law_unranked : SpT := fun K mg vs H Q E => ∃ (n : Nat) (x : Int), vs = [.int (n : Int), .int x] ∧ n ≤ 40 ∧ 0 ≤ x ∧ x < goN n 0 ∧ ∀ (u : Addr) H', Same H H' → H' u = some (.tup (natsV (unrank n x))) → Q (.ref u) H'
def sp__law_refused : SpT := fun K mg vs H Q E => ∃ (n x c : Int), vs = [.int n, .int x, .int c] ∧ ((c = 2 ∧ ¬ (0 ≤ n ∧ n ≤ 40)) ∨ (c = 6 ∧ ∃ m : Nat, n = m ∧ m ≤ 40 ∧ ¬ (0 ≤ x ∧ x < goN m 0))) ∧ ∀ H', Same H H' → Q (.bl true) H'

def sp__law_alone : SpT := fun K mg vs H Q E => (∃ e : Addr, vs = [.ref e, .int 2] ∧ H e = some (ExcO e (clsAt mg "TooMany")) ∧ ∀ H', Same H H' → Q (.bl true) H') ∨ (∃ e : Addr, vs = [.ref e, .int 6] ∧ H e = some (ExcO e (clsAt mg "NoNumber")) ∧ ∀ H', Same H H' → Q (.bl true) H')

def sp_need_count : SpT := fun K mg vs H Q E => ∃ n : Int, vs = [.int n] ∧ ((0 ≤ n ∧ n ≤ 40) → Q .non H) ∧ (¬ (0 ≤ n ∧ n ≤ 40) → E (cTM mg) none H)

def sp_settle : SpT := fun K mg vs H Q E => ∃ (el sp : Addr) (es : List Int) (A B : List Nat) (i : Nat), vs = [.ref el, .ref sp, .int i, .int A.length] ∧ H el = some (.lst (es.map V.int)) ∧ H sp = some (.lst (natsV (A ++ B))) ∧ el ≠ sp ∧ i < es.length ∧ (∀ q ∈ A ++ B, q < es.length) ∧ (A ++ B).length ≤ 1000 ∧
  ∀ H', (∀ b o, b ≠ el → b ≠ sp → H b = some o → H' b = some o) → H' el = some (.lst ((setE es A B i).map V.int)) → H' sp = some (.lst (natsV (A ++ [i]))) → Q .non H'
def sp_tree_of : SpT := fun K mg vs H Q E => ∃ (r : Addr) (ns : List Int), vs = [.ref r] ∧ (SqL K H r (ns.map V.int) ∨ SqT K H r (ns.map V.int)) ∧ ns.length ≤ 1000 ∧ ∀ (t : Addr) (es : List Int) H', TreeIs ns es → Same H H' → H' t = some (.tup (es.map V.int)) → Q (.ref t) H'

def sp_way_up : SpT := fun K mg vs H Q E => ∃ (t : Addr) (T : List Int) (p : Nat), vs = [.ref t, .int p] ∧ H t = some (.tup (T.map V.int)) ∧ T.length ≤ 1000 ∧ p < T.length ∧ ∀ (w : Addr) H', H w = none → Same H H' → H' w = some (.lst ((wayI T p).map V.int)) → Q (.ref w) H'
def sp_is_tree : SpT := fun K mg vs H Q E => ∃ (t : Addr) (T : List Int), vs = [.ref t] ∧ H t = some (.tup (T.map V.int)) ∧ T.length ≤ 1000 ∧ (GoodT T → ∀ H', Same H H' → Q (.bl true) H') ∧ (¬ GoodT T → ∀ H', Same H H' → Q (.bl false) H')

def sp_need_tree : SpT := fun K mg vs H Q E => ∃ (t : Addr) (T : List Int), vs = [.ref t] ∧ H t = some (.tup (T.map V.int)) ∧ T.length ≤ 1000 ∧ (GoodT T → ∀ H', Same H H' → Q .non H') ∧ (¬ GoodT T → ∀ H', Same H H' → E (.ref (clsAt mg "NoTree")) none H')

def sp__law_over : SpT := fun K mg vs H Q E => ∃ (t : Addr) (T : List Int) (p : Nat), vs = [.ref t, .int p] ∧ H t = some (.tup (T.map V.int)) ∧ T.length ≤ 900 ∧ p < T.length ∧
  ((∃ ns, TreeIs ns T) → ∀ (w : Addr) H', H w = none → Same H H' → H' w = some (.lst ((wayI T p).map V.int)) → Q (.ref w) H') ∧
  ((¬ ∃ ns, TreeIs ns T) → (∀ H', Same H H' → Q .non H') ∧ ∀ (w : Addr) (L : List Nat) H', H w = none → L.length ≤ T.length + 1 → Same H H' → H' w = some (.lst (natsV L)) → Q (.ref w) H')
def sp__law_flats : SpT := fun K mg vs H Q E => ∃ (t : Addr) (T : List Int), vs = [.ref t] ∧ H t = some (.tup (T.map V.int)) ∧ T.length ≤ 900 ∧
  ((∃ ns, TreeIs ns T) → ∀ (u : Addr) H', Same H H' → H' u = some (.tup ((flatI T).map V.int)) → Q (.ref u) H') ∧
  ((¬ ∃ ns, TreeIs ns T) → (∀ H', Same H H' → Q .non H') ∧ ∀ (u : Addr) (L : List Int) H', L.length = T.length → Same H H' → H' u = some (.tup (L.map V.int)) → Q (.ref u) H')
def sp__law_tree_of : SpT := fun K mg vs H Q E => ∃ (r : Addr) (ns : List Int), vs = [.ref r] ∧ H r = some (.tup (ns.map V.int)) ∧ ns.length ≤ 1000 ∧ ∀ (t : Addr) (es : List Int) H', TreeIs ns es → Same H H' → H' t = some (.tup (es.map V.int)) → Q (.ref t) H'
def sp__law_is_tree : SpT := fun K mg vs H Q E => ∃ (t : Addr) (T : List Int), vs = [.ref t] ∧ H t = some (.tup (T.map V.int)) ∧ T.length ≤ 900 ∧ (GoodT T → ∀ H', Same H H' → Q (.bl true) H') ∧ (¬ GoodT T → ∀ H', Same H H' → Q (.bl false) H')
def sp__law_no_tree : SpT := fun K mg vs H Q E => ∃ (p t : Addr) (T : List Int), vs = [.ref p, .ref t] ∧ PoolAt H p ∧ H t = some (.tup (T.map V.int)) ∧ T.length ≤ 800 ∧ ∀ (t' : Addr) (T' : List Int) H', H' t' = some (.tup (T'.map V.int)) → T'.length ≤ 900 → PoolAt H' p → Exc p H H' → Q (.ref t') H'

def sp_fences_of : SpT := fun K mg vs H Q E => ∃ (t : Addr) (ns T : List Int), vs = [.ref t] ∧ H t = some (.tup (T.map V.int)) ∧ TreeIs ns T ∧ ns.length ≤ 1000 ∧ ∀ (l : Addr) H', Same H H' → PairsAt H' l ns.length (fun p => (fenA (nth ns) p, fenB (nth ns) ns.length p)) → Q (.ref l) H'

def sp_drops_of : SpT := fun K mg vs H Q E => ∃ (t : Addr) (T : List Int), vs = [.ref t] ∧ H t = some (.tup (T.map V.int)) ∧ T.length ≤ 1000 ∧ ((∃ ns : List Int, T.length ≤ 40 ∧ TreeIs ns T ∧ ∀ (u : Addr) H', Same H H' → H' u = some (.tup (natsV (dropsN (nth ns) ns.length))) → Q (.ref u) H') ∨ (¬ GoodT T ∧ ∀ H', Same H H' → E (.ref (clsAt mg "NoTree")) none H'))
def sp_goings_on : SpT := fun K mg vs H Q E => ∃ n : Nat, vs = [.int (n : Int)] ∧ n ≤ 40 ∧ ∀ (l : Addr) H', Same H H' → Rows H' l (goTab (n + 1) n) → Q (.ref l) H'
def sp_drop_ways : SpT := fun K mg vs H Q E => ∃ (g : Addr) (r m st : Nat), vs = [.ref g, .int (st : Int)] ∧ H g = some (.lst ((goRow r m).map V.int)) ∧ st + 2 ≤ m ∧ m ≤ 100 ∧ ∀ (l : Addr) H', Same H H' → H' l = some (.lst (((List.range (st + 1)).map fun f => goN r (st + 1 - f)).map V.int)) → Q (.ref l) H'
def sp_number_of : SpT := fun K mg vs H Q E => ∃ (t : Addr) (T : List Int), vs = [.ref t] ∧ H t = some (.tup (T.map V.int)) ∧ T.length ≤ 1000 ∧ ((∃ ns : List Int, T.length ≤ 40 ∧ TreeIs ns T ∧ ∀ H', Same H H' → Q (.int (rankTo ns.length (dropsN (nth ns) ns.length) ns.length)) H') ∨ (¬ GoodT T ∧ ∀ H', Same H H' → E (.ref (clsAt mg "NoTree")) none H'))
def sp__law_drops_of : SpT := fun K mg vs H Q E => ∃ (r : Addr) (ns : List Int), vs = [.ref r] ∧ H r = some (.tup (ns.map V.int)) ∧ ns.length ≤ 1000 ∧ ∀ (u : Addr) H', Same H H' → H' u = some (.tup (natsV (dropsN (nth ns) ns.length))) → Q (.ref u) H'
def sp__law_on : SpT := fun K mg vs H Q E => ∃ n : Nat, vs = [.int (n : Int)] ∧ n ≤ 40 ∧ ∀ (l : Addr) H', Same H H' → Rows H' l (goTab (n + 2) n) → Q (.ref l) H'
def sp__law_rank : SpT := fun K mg vs H Q E => ∃ (t : Addr) (ds : List Nat), vs = [.ref t] ∧ H t = some (.tup (natsV ds)) ∧ ds.length ≤ 40 ∧ DropsOk ds ∧ ∀ H', Same H H' → Q (.int (rankTo ds.length ds ds.length)) H'

def sp__law_drops : SpT := fun K mg vs H Q E => ∃ (p : Addr) (n : Nat), vs = [.ref p, .int n] ∧ n ≤ 40 ∧ PoolAt H p ∧ ∀ (t : Addr) (ds : List Nat) H', H t = none → ds.length = n → DropsOk ds → H' t = some (.tup (natsV ds)) → PoolAt H' p → Exc p H H' → Q (.ref t) H'
def sp__law_hung : SpT := fun K mg vs H Q E => ∃ (t : Addr) (ds : List Nat), vs = [.ref t] ∧ H t = some (.tup (natsV ds)) ∧ ds.length ≤ 40 ∧ DropsOk ds ∧ ∀ (u : Addr) (es : List Int) H', H u = none → es.length = ds.length → (∃ ns, TreeIs ns es) → Same H H' → H' u = some (.tup (es.map V.int)) → Q (.ref u) H'
def sp__law_tree : SpT := fun K mg vs H Q E => ∃ (p : Addr) (most : Nat), vs = [.ref p, .int most] ∧ most ≤ 40 ∧ PoolAt H p ∧ ∀ (u : Addr) (es : List Int) H', H u = none → es.length ≤ most → (∃ ns, TreeIs ns es) → H' u = some (.tup (es.map V.int)) → PoolAt H' p → Exc p H H' → Q (.ref u) H'
def sp__law_kin_row : SpT := fun K mg vs H Q E => ∃ (p t : Addr) (T : List Int), vs = [.ref p, .ref t] ∧ PoolAt H p ∧ H t = some (.tup (T.map V.int)) ∧ T.length ≤ 40 ∧ (∃ ns, TreeIs ns T) ∧ ∀ (r : Addr) (ms : List Int) H', H r = none → TreeIs ms T → H' r = some (.tup (ms.map V.int)) → PoolAt H' p → Exc p H H' → Q (.ref r) H'

def sp_running_sums : SpT := fun K mg vs H Q E => ∃ (a : Addr) (ns : List Int), vs = [.ref a] ∧ SqL K H a (ns.map V.int) ∧ ns.length ≤ 100 ∧ ∀ l H', Same H H' → H' l = some (.lst ((sumsFrom 0 ns).map V.int)) → Q (.ref l) H'
def sp_one_more : SpT := fun K mg vs H Q E => ∃ (a : Addr) (ns : List Int), vs = [.ref a] ∧ SqL K H a (ns.map V.int) ∧ ns.length ≤ 100 ∧ ns ≠ [] ∧ ∀ l H', Same H H' → H' l = some (.lst ((stepE ns).map V.int)) → Q (.ref l) H'
def sp_climbs : SpT := fun K mg vs H Q E => ∃ n most : Nat, vs = [.int n, .int most] ∧ n ≤ 40 ∧ most ≤ 40 ∧ ∀ l H', Same H H' → H' l = some (.lst ((endsW most (n - 1)).map V.int)) → Q (.ref l) H'
def flatV (n most : Int) : Int := if n = 0 then 1 else if 0 ≤ most then (endsW (min most (n - 1)).toNat (n.toNat - 1)).sum else 0
def sp_many_flat : SpT := fun K mg vs H Q E => ∃ n k : Int, vs = [.int n, .int k] ∧ ((0 ≤ n ∧ n ≤ 40) → ∀ H', Same H H' → Q (.int (flatV n k)) H') ∧ (¬ (0 ≤ n ∧ n ≤ 40) → E (cTM mg) none H)

def tn : Nat → List Int
  | 0 => [1]
  | t + 1 => grow (tn t)
theorem tn_length (t : Nat) : (tn t).length = t + 1 := by
  induction t with
  | zero => rfl
  | succ t ih => rw [tn, grow_length, ih]
theorem tn_ways {m : Nat} : ∀ t, t ≤ m → ways m t = tn t
  | 0, _ => rfl
  | t + 1, h => by
    rw [ways, tn_ways t (by omega), tn]
    unfold stepW
    rw [tn_length]
    exact List.take_of_length_le (by rw [grow_length, tn_length]; omega)
theorem tn_ends (t : Nat) : endsW t t = tn t := by
  rw [endsW_eq, tn_ways t (Nat.le_refl _)]; simp
def openRow : Nat → List Int
  | 0 => [1]
  | n + 1 => 0 :: tn n
theorem openRow_length (n : Nat) : (openRow n).length = n + 1 := by
  cases n with
  | zero => rfl
  | succ n => simp [openRow, tn_length]
theorem suf_openRow (n : Nat) : suf (openRow n) = tn n := by
  cases n with
  | zero => rfl
  | succ n => rw [openRow, suf, tn, grow]; simp
def treesV (n : Int) : Int := flatV n n
def openV (n k : Int) : Int := if n = 0 then (if k = 0 then 1 else 0) else if 1 ≤ k ∧ k ≤ n then (tn (n.toNat - 1)).getD (k - 1).toNat 0 else 0
def sp_many_trees : SpT := fun K mg vs H Q E => ∃ n : Int, vs = [.int n] ∧ ((0 ≤ n ∧ n ≤ 40) → ∀ H', Same H H' → Q (.int (treesV n)) H') ∧ (¬ (0 ≤ n ∧ n ≤ 40) → E (cTM mg) none H)
def sp_many_open : SpT := fun K mg vs H Q E => ∃ n k : Int, vs = [.int n, .int k] ∧ ((0 ≤ n ∧ n ≤ 40) → ∀ H', Same H H' → Q (.int (openV n k)) H') ∧ (¬ (0 ≤ n ∧ n ≤ 40) → E (cTM mg) none H)
theorem trees_due {n : Nat} (h : n ≤ 40) : treesV n = (openRow n).sum := by
  unfold treesV flatV
  cases n with
  | zero => rfl
  | succ n =>
    have e1 : (min ((n + 1 : Nat) : Int) (((n + 1 : Nat) : Int) - 1)).toNat = n := by omega
    have e2 : ((n + 1 : Nat) : Int).toNat - 1 = n := by omega
    rw [if_neg (by omega), if_pos (by omega), e1, e2, tn_ends]
    simp [openRow]
theorem open_in {n k : Nat} (hk : k ≤ n) : openV n k = (openRow n).getD k 0 := by
  unfold openV
  cases n with
  | zero =>
    have : k = 0 := by omega
    subst this; rfl
  | succ n =>
    rw [if_neg (by omega)]
    cases k with
    | zero => rw [if_neg (by omega)]; rfl
    | succ k =>
      have e1 : (((k + 1 : Nat) : Int) - 1).toNat = k := by omega
      have e2 : ((n + 1 : Nat) : Int).toNat - 1 = n := by omega
      rw [if_pos (by omega), e1, e2]; rfl
theorem open_out {n k : Int} (h0 : 0 ≤ n) (hk : ¬ (0 ≤ k ∧ k ≤ n)) : openV n k = 0 := by
  unfold openV
  by_cases hn : n = 0
  · rw [if_pos hn, if_neg (by omega)]
  · rw [if_neg hn, if_neg (by omega)]


def chI (n : Int) : Nat → Int
  | 0 => 1
  | j + 1 => chI n j * (n - j) / (j + 1)
def fallsV (n k : Int) : Int := if n = 0 then (if k = 0 then 1 else 0) else if 0 ≤ k ∧ k < n then chI n k.toNat * chI n (k + 1).toNat / n else 0
def sp_choices : SpT := fun K mg vs H Q E => ∃ n k : Int, vs = [.int n, .int k] ∧ 0 ≤ n ∧ n ≤ 40 ∧ 0 ≤ k ∧ k ≤ n ∧ Q (.int (chI n k.toNat)) H
def sp_many_falls : SpT := fun K mg vs H Q E => ∃ n k : Int, vs = [.int n, .int k] ∧ ((0 ≤ n ∧ n ≤ 40) → Q (.int (fallsV n k)) H) ∧ (¬ (0 ≤ n ∧ n ≤ 40) → E (cTM mg) none H)
def pas : Nat → List Int
  | 0 => [1]
  | n + 1 => List.zipWith (· + ·) (0 :: pas n) (pas n ++ [0])
theorem chI_bits : ∀ n < 41, ∀ k < 42, -(2 ^ 64) < chI (n : Nat) k ∧ chI (n : Nat) k < 2 ^ 64 := by decide +kernel
theorem chI_pas : ∀ n < 41, ∀ k < n + 1, chI (n : Nat) k = (pas n).getD k 0 := by decide +kernel
theorem pas_len (n : Nat) : (pas n).length = n + 1 := by
  induction n with
  | zero => rfl
  | succ n ih => simp [pas, ih]

def sp__law_falls : SpT := fun K mg vs H Q E => ∃ (r : Addr) (ns : List Int), vs = [.ref r] ∧ H r = some (.tup (ns.map V.int)) ∧ ns.length ≤ 1000 ∧ ∀ H', Same H H' → Q (.int (fallsI ns : Nat)) H'
def sp__law_none_behind : SpT := fun K mg vs H Q E => ∃ (n : Nat) (x : Int), vs = [.int (n : Int), .int x] ∧ n ≤ 40 ∧ ¬ (0 ≤ x ∧ x < goN n 0) ∧ ∀ H', Same H H' → Q (.bl true) H'

theorem openRow_L : ∀ n, openRow n = openL n
  | 0 => rfl
  | n + 1 => by
    have : ∀ t, tn t = tnL t := fun t => by
      induction t with
      | zero => rfl
      | succ t ih => rw [tn, tnL, ih]
    rw [openRow, openL, this]
theorem trees_go {n : Nat} (h : n ≤ 40) : treesV n = goN n 0 := by
  rw [trees_due h, openRow_L, open_go n (by omega), goN_top_eq]
theorem hung_drops {ds : List Nat} (h : DropsOk ds) : ∃ ns, TreeIs ns (hungT ds) ∧ ns.length = ds.length ∧ dropsN (nth ns) ns.length = ds := by
  obtain ⟨ns, hT, hdr⟩ := hungT_tree h
  have lT := hungT_len h
  have eT := hT.1
  refine ⟨ns, hT, by omega, List.ext_getElem (by rw [dropsN_len]; omega) fun k k1 k2 => ?_⟩
  have hk : k < ds.length := k2
  have := hdr k hk
  rw [show ds.getD k 0 = ds[k] by simp [hk]] at this
  simp only [dropsN, List.getElem_map, List.getElem_range]
  exact this

section
variable {P : Program} {w : World} {K : PySem.W.Frag} {mg : Str → Option Value} {base : Heap}
theorem sc_settle : FnScope ["elders", "spine", "place", "keep"] ["elders", "spine", "place", "keep"] (defScope s_settle) := ⟨rfl, rfl, rfl, by decide +kernel, rfl, by decide +kernel, by decide +kernel⟩
theorem sc_tree_of : FnScope ["row", "elders", "spine", "place", "keep"] ["row"] (defScope s_tree_of) := ⟨rfl, rfl, rfl, by decide +kernel, rfl, by decide +kernel, by decide +kernel⟩
theorem sc_way_up : FnScope ["tree", "place", "way", "at"] ["tree", "place"] (defScope s_way_up) := ⟨rfl, rfl, rfl, by decide +kernel, rfl, by decide +kernel, by decide +kernel⟩
theorem sc_is_tree : FnScope ["tree", "depths"] ["tree"] (defScope s_is_tree) := ⟨rfl, rfl, rfl, by decide +kernel, rfl, by decide +kernel, by decide +kernel⟩
theorem sc_need_tree : FnScope ["tree"] ["tree"] (defScope s_need_tree) := ⟨rfl, rfl, rfl, by decide +kernel, rfl, by decide +kernel, by decide +kernel⟩
theorem sc_fences_of : FnScope ["tree", "fences", "place", "way", "ahead", "behind"] ["tree"] (defScope s_fences_of) := ⟨rfl, rfl, rfl, by decide +kernel, rfl, by decide +kernel, by decide +kernel⟩
theorem sc_need_count : FnScope ["n"] ["n"] (defScope s_need_count) := ⟨rfl, rfl, rfl, by decide +kernel, rfl, by decide +kernel, by decide +kernel⟩
theorem sc_running_sums : FnScope ["numbers", "sums", "total", "number"] ["numbers"] (defScope s_running_sums) := ⟨rfl, rfl, rfl, by decide +kernel, rfl, by decide +kernel, by decide +kernel⟩
theorem sc_one_more : FnScope ["ends", "told"] ["ends"] (defScope s_one_more) := ⟨rfl, rfl, rfl, by decide +kernel, rfl, by decide +kernel, by decide +kernel⟩
theorem sc_climbs : FnScope ["n", "most", "ends", "step"] ["n", "most"] (defScope s_climbs) := ⟨rfl, rfl, rfl, by decide +kernel, rfl, by decide +kernel, by decide +kernel⟩
theorem sc_many_trees : FnScope ["n"] ["n"] (defScope s_many_trees) := ⟨rfl, rfl, rfl, by decide +kernel, rfl, by decide +kernel, by decide +kernel⟩
theorem sc_many_open : FnScope ["n", "k"] ["n", "k"] (defScope s_many_open) := ⟨rfl, rfl, rfl, by decide +kernel, rfl, by decide +kernel, by decide +kernel⟩
theorem sc_choices : FnScope ["n", "k", "ways", "step"] ["n", "k"] (defScope s_choices) := ⟨rfl, rfl, rfl, by decide +kernel, rfl, by decide +kernel, by decide +kernel⟩
theorem sc_many_falls : FnScope ["n", "k"] ["n", "k"] (defScope s_many_falls) := ⟨rfl, rfl, rfl, by decide +kernel, rfl, by decide +kernel, by decide +kernel⟩
theorem sc_many_flat : FnScope ["n", "most"] ["n", "most"] (defScope s_many_flat) := ⟨rfl, rfl, rfl, by decide +kernel, rfl, by decide +kernel, by decide +kernel⟩
theorem sc_drops_of : FnScope ["tree", "drops", "ahead", "behind"] ["tree"] (defScope s_drops_of) := ⟨rfl, rfl, rfl, by decide +kernel, rfl, by decide +kernel, by decide +kernel⟩
theorem sc_need_short : FnScope ["told"] ["told"] (defScope s_need_short) := ⟨rfl, rfl, rfl, by decide +kernel, rfl, by decide +kernel, by decide +kernel⟩
theorem sc_by_drops : FnScope ["told", "elders", "spine", "place", "drop"] ["told"] (defScope s_by_drops) := ⟨rfl, rfl, rfl, by decide +kernel, rfl, by decide +kernel, by decide +kernel⟩
theorem sc_pick : FnScope ["ways", "number", "at"] ["ways", "number"] (defScope s_pick) := ⟨rfl, rfl, rfl, by decide +kernel, rfl, by decide +kernel, by decide +kernel⟩
theorem sc_goings_on : FnScope ["n", "table", "step"] ["n"] (defScope s_goings_on) := ⟨rfl, rfl, rfl, by decide +kernel, rfl, by decide +kernel, by decide +kernel⟩
theorem sc_drop_ways : FnScope ["goings", "still"] ["goings", "still"] (defScope s_drop_ways) := ⟨rfl, rfl, rfl, by decide +kernel, rfl, by decide +kernel, by decide +kernel⟩
theorem sc_tree_at : FnScope ["n", "number", "table", "drops", "still", "left", "drop"] ["n", "number"] (defScope s_tree_at) := ⟨rfl, rfl, rfl, by decide +kernel, rfl, by decide +kernel, by decide +kernel⟩
theorem sc_number_of : FnScope ["tree", "drops", "table", "number", "still", "place", "drop"] ["tree"] (defScope s_number_of) := ⟨rfl, rfl, rfl, by decide +kernel, rfl, by decide +kernel, by decide +kernel⟩
theorem sc__law_pool : FnScope ["script", "k", "cell"] ["script", "k"] (defScope s__law_pool) := ⟨rfl, rfl, rfl, by decide +kernel, rfl, by decide +kernel, by decide +kernel⟩
theorem sc__law_pick : FnScope ["pool", "many", "digit"] ["pool", "many"] (defScope s__law_pick) := ⟨rfl, rfl, rfl, by decide +kernel, rfl, by decide +kernel, by decide +kernel⟩
theorem sc__law_over : FnScope ["tree", "place", "found", "here"] ["tree", "place"] (defScope s__law_over) := ⟨rfl, rfl, rfl, by decide +kernel, rfl, by decide +kernel, by decide +kernel⟩
theorem sc__law_flats : FnScope ["tree", "found", "place", "over"] ["tree"] (defScope s__law_flats) := ⟨rfl, rfl, rfl, by decide +kernel, rfl, by decide +kernel, by decide +kernel⟩
theorem sc__law_tree_of : FnScope ["row", "found", "place", "ahead", "behind"] ["row"] (defScope s__law_tree_of) := ⟨rfl, rfl, rfl, by decide +kernel, rfl, by decide +kernel, by decide +kernel⟩
theorem sc__law_is_tree : FnScope ["tree", "flats"] ["tree"] (defScope s__law_is_tree) := ⟨rfl, rfl, rfl, by decide +kernel, rfl, by decide +kernel, by decide +kernel⟩
theorem sc__law_kin_row : FnScope ["pool", "tree", "rise", "begin", "found", "ranks", "place", "rank", "elder", "least"] ["pool", "tree"] (defScope s__law_kin_row) := ⟨rfl, rfl, rfl, by decide +kernel, rfl, by decide +kernel, by decide +kernel⟩
theorem sc__law_alone : FnScope ["e", "place", "some"] ["e", "place"] (defScope s__law_alone) := ⟨rfl, rfl, rfl, by decide +kernel, rfl, by decide +kernel, by decide +kernel⟩
theorem sc__law_drops_of : FnScope ["row", "still", "found", "number", "left"] ["row"] (defScope s__law_drops_of) := ⟨rfl, rfl, rfl, by decide +kernel, rfl, by decide +kernel, by decide +kernel⟩
theorem sc__law_none_behind : FnScope ["n", "number", "caught", "e"] ["n", "number"] (defScope s__law_none_behind) := ⟨rfl, rfl, rfl, by decide +kernel, rfl, by decide +kernel, by decide +kernel⟩
theorem sc__law_falls : FnScope ["row"] ["row"] (defScope s__law_falls) := ⟨rfl, rfl, rfl, by decide +kernel, rfl, by decide +kernel, by decide +kernel⟩
theorem sc_law : FnScope ["script", "pool", "n", "last", "shapes", "number", "tree", "flats", "drops", "k"] ["script"] (defScope s_law) := ⟨rfl, rfl, rfl, by decide +kernel, rfl, by decide +kernel, by decide +kernel⟩
theorem ok__law_pool {f : Addr} {fd : FuncData} (F : Fun K "_law_pool" "_law_pool" s__law_pool f fd)  (T : Txt K mg) : FnOk P w K mg base (CXE P w) 1 f fd ["script", "k"] (sp__law_pool K mg) := by
  refine F.okX sc__law_pool (fun vs H Q E h => ?_) (fun cdv A outer s H vs Q E hr h => ?_)
  · obtain ⟨n, k, _, rfl, _⟩ := h; rfl
  obtain ⟨a, ns, k, rfl, hS, h0, h1, k1⟩ := h
  refine ⟨_, (pss_cons (ps_set (i := 2) sc__law_pool.nd rfl (Or.inl rfl) pe_int)
      (pss_cons (ps_if (pt_cmpR op_lt (pv 1) (pe_callB (call_lenK (K := K) rfl) rfl T.b_len PySem.boot_len (pa_cons (pv 0) pa_nil)) (nomark _)) (pss_one (ps_set (i := 2) sc__law_pool.nd rfl (Or.inl rfl) (pe_op op_mod (pe_ix ix_list (pv 0) (pv 1) (fun _ _ => rfl)) (pe_op op_mulX (pe_op op_mulX (pe_op op_mulX (pe_op op_pow pe_int pe_int) (pe_op op_pow pe_int pe_int)) (pe_op op_pow pe_int pe_int)) (pe_op op_pow pe_int pe_int))))) pss_nil)
      (pss_one (ps_ret (pe_lst (pa_cons (pe_callB (call_max2 rfl) rfl T.b_max bt_max (pa_cons pe_int (pa_cons (pe_op op_sub (pv 2) (pe_op op_pow pe_int pe_int)) pa_nil))) (pa_cons (pe_op op_mod (pe_op op_mulX (pe_op op_add (pe_op op_add (pe_op op_mod (pv 2) pe_int) (pe_op op_mulX pe_int (pv 1))) pe_int) pe_int) pe_int) pa_nil))))))), ?_⟩
  simp only [tIfS, tNot, tTest, tChain, rI0, rI, rU, tVar, tC, tB, tIf, tAndV, tOrV, tNotV, tCall, tCallX, tCons, tNil, tAsg, tSeq, tRet, tNext, tOp, tUn, tAnd, tOr, tDrop, gName, gSub, tAug, tCB, tSl, tRaise, tLst, tTup, L2.start, tYes, gTup, gCons, gNil, iniC, Option.join_some, Option.join_none, rEq, rNe, scal_ii, scal_bb, scal_ss, scal_nn, scal_ni, scal_in, tBM, Bool.true_eq_false, List.map_cons, List.map_nil, List.cons_append, List.nil_append, List.length_cons, List.length_nil, List.replicate, List.append_nil, List.set_cons_zero, List.set_cons_succ, List.getElem?_cons_zero, List.getElem?_cons_succ, Option.some.injEq, V.int.injEq, V.bl.injEq, V.ref.injEq, List.cons.injEq, and_true, true_and, exists_eq_left, exists_eq_left', exists_and_left, exists_eq, decide_eq_true_eq, Bool.not_eq_true', decide_eq_false_iff_not, cxK, and_assoc, Bool.false_eq_true, ↓reduceIte, tFor_eq, tWhile_eq, tComp_eq, iRng1, iRng2, iList, iTup, iZip, iRev, rIxL, rIxT, rSetL, rCat, rIsi, rSum, rCount, tDelT, rPop, rIntB, tPar, rInsert, rIndex, rLen, rLof, rTof, tChain3, rBits, iSeq, tBM0, rEqD, tRngV, rLstR, tRngV2, rLstR2, rIn, gSubSl, rSlQ, iEnum, iEnumT, rInD, tMaxDT, tMaxD, tMinD, rIndexF, rSorted, rOr, rAll, rAny, ipM, rIxQ, tRev, rSlL, tPart, tNoPart, tSl, ipI, rAppend, rRep, cOf_ref, cOf_ty, rTupR2, rPopAt, iZipQ, rExtend, rSortT, rSlU, tAugS, iRevR, rMulS, rJoin, iStr, rSumT, V.str.injEq, rCountS, rRstrip, rLenS, rLtT, rRepU, cp64, cp18, pm1, pm2, pm3, pm4, pm5, pm6, pm7]
  refine ⟨ns.map V.int, .inl hS, ?_⟩
  refine ite2 (fun hk => ?_) (fun _ => ?_)
  · obtain ⟨j, rfl⟩ := Int.eq_ofNat_of_zero_le h0
    have hj : j < (ns.map V.int).length := by omega
    refine ⟨_, hS, _, atI_at rfl hj, ns[j]'(by simpa using hj), by simp, mul_l (by omega) (by omega), mul_r (by omega) (by omega), fun p hp => k1 p _ hp ((Same.refl H).upd hp) ⟨_, _, upd_same, ?_, Int.emod_nonneg _ (by decide), Int.emod_lt_of_pos _ (by decide)⟩⟩
    split <;> omega
  · refine ⟨mul_l (by omega) (by omega), mul_r (by omega) (by omega), fun p hp => k1 p _ hp ((Same.refl H).upd hp) ⟨_, _, upd_same, ?_, Int.emod_nonneg _ (by decide), Int.emod_lt_of_pos _ (by decide)⟩⟩
    split <;> omega
theorem ok__law_pick {f : Addr} {fd : FuncData} (F : Fun K "_law_pick" "_law_pick" s__law_pick f fd)  (T : Txt K mg) : FnOk P w K mg base (CXE P w) 1 f fd ["pool", "many"] (sp__law_pick K mg) := by
  refine F.okX sc__law_pick (fun vs H Q E h => ?_) (fun cdv A outer s H vs Q E hr h => ?_)
  · obtain ⟨n, k, rfl, _⟩ := h; rfl
  obtain ⟨p, many, rfl, h0, h1, ⟨x, y, hp, hx, hy, hy2⟩, k1⟩ := h
  refine ⟨_, (pss_cons (ps_if (pt_cmpR op_gt (pe_ix ix_list (pv 0) pe_int (fun _ _ => rfl)) pe_int (nomark _)) (pss_cons (ps_set (i := 2) sc__law_pick.nd rfl (Or.inl rfl) (pe_op op_mod (pe_ix ix_list (pv 0) pe_int (fun _ _ => rfl)) (pv 1)))
      (pss_cons (ps_asg (pe_op op_fdivM (pe_ix ix_list (pv 0) pe_int (fun _ _ => rfl)) (pv 1)) (pg_sub (pv 0) pe_int set_list (fun _ => rfl)))
      (pss_one (ps_ret (pv 2))))) pss_nil)
      (pss_cons (ps_asg (pe_op op_mod (pe_op op_add (pe_op op_mulX (pe_ix ix_list (pv 0) pe_int (fun _ _ => rfl)) pe_int) pe_int) pe_int) (pg_sub (pv 0) pe_int set_list (fun _ => rfl)))
      (pss_one (ps_ret (pe_op op_mod (pe_op op_fdivM (pe_op op_mod (pe_op op_mulX (pe_ix ix_list (pv 0) pe_int (fun _ _ => rfl)) (pe_ix ix_list (pv 0) pe_int (fun _ _ => rfl))) pe_int) pe_int) (pv 1)))))), ?_⟩
  walk_at "rd"
  refine ⟨_, SqL.of hp, _, rfl, _, rfl, ?_⟩
  refine ite2 (fun hk => ?_) (fun _ => ?_)
  · refine ⟨_, SqL.of hp, _, rfl, _, rfl, h0, ?_⟩
    refine ⟨_, SqL.of hp, _, rfl, _, rfl, ⟨h0, by omega⟩, _, hp, _, rfl, ?_⟩
    exact k1 _ _ (Int.emod_nonneg _ (by omega)) (Int.emod_lt_of_pos _ h0) ⟨_, _, upd_same, Int.ediv_nonneg hx (by omega), hy, hy2⟩ Exc.upd
  · refine ⟨_, SqL.of hp, _, rfl, _, rfl, ?_⟩
    refine ⟨mul_r (by omega) (by omega), by decide, _, hp, _, rfl, _, SqL.of upd_same, _, rfl, _, SqL.of upd_same, _, rfl, _, rfl, _, rfl, mul_l ?_ ?_, by decide, ⟨by decide, by decide⟩, h0, ?_⟩
    · have := Int.emod_nonneg (y * 69621 + 12345) (b := 2147483647) (by decide); omega
    · have := Int.emod_lt_of_pos (y * 69621 + 12345) (b := 2147483647) (by decide); omega
    · exact k1 _ _ (Int.emod_nonneg _ (by omega)) (Int.emod_lt_of_pos _ h0) ⟨_, _, upd_same, hx, Int.emod_nonneg _ (by decide), Int.emod_lt_of_pos _ (by decide)⟩ Exc.upd
theorem ok__law_alone {f : Addr} {fd : FuncData} (F : Fun K "_law_alone" "_law_alone" s__law_alone f fd)  (T : Txt K mg) : FnOk P w K mg base (CXE P w) 1 f fd ["e", "place"] (sp__law_alone K mg) := by
  refine F.okX sc__law_alone (fun vs H Q E h => ?_) (fun cdv A outer s H vs Q E hr h => ?_)
  · rcases h with ⟨n, rfl, _⟩ | ⟨n, rfl, _⟩ <;> rfl
  rcases h with ⟨e, rfl, he, k1⟩ | ⟨e, rfl, he, k1⟩
  · refine ⟨_, (pss_cons (ps_set (i := 2) sc__law_alone.nd rfl (Or.inl rfl) (pe_lst (pa_cons (pe_callB (call_isiK (K := K) rfl) rfl T.b_isinstance bt_isinstance (pa_cons (pv 0) (pa_cons (pe_glob (v := .ref (clsAt mg "Unlike")) rfl T.c_Unlike rfl) pa_nil))) (pa_cons (pe_callB (call_isiK (K := K) rfl) rfl T.b_isinstance bt_isinstance (pa_cons (pv 0) (pa_cons (pe_glob (v := .ref (clsAt mg "Empty")) rfl T.c_Empty rfl) pa_nil))) (pa_cons (pe_callB (call_isiK (K := K) rfl) rfl T.b_isinstance bt_isinstance (pa_cons (pv 0) (pa_cons (pe_glob (v := .ref (clsAt mg "TooMany")) rfl T.c_TooMany rfl) pa_nil))) (pa_cons (pe_callB (call_isiK (K := K) rfl) rfl T.b_isinstance bt_isinstance (pa_cons (pv 0) (pa_cons (pe_glob (v := .ref (clsAt mg "NoTree")) rfl T.c_NoTree rfl) pa_nil))) (pa_cons (pe_callB (call_isiK (K := K) rfl) rfl T.b_isinstance bt_isinstance (pa_cons (pv 0) (pa_cons (pe_glob (v := .ref (clsAt mg "NoTelling")) rfl T.c_NoTelling rfl) pa_nil))) (pa_cons (pe_callB (call_isiK (K := K) rfl) rfl T.b_isinstance bt_isinstance (pa_cons (pv 0) (pa_cons (pe_glob (v := .ref (clsAt mg "NoPlace")) rfl T.c_NoPlace rfl) pa_nil))) (pa_cons (pe_callB (call_isiK (K := K) rfl) rfl T.b_isinstance bt_isinstance (pa_cons (pv 0) (pa_cons (pe_glob (v := .ref (clsAt mg "NoNumber")) rfl T.c_NoNumber rfl) pa_nil))) (pa_cons (pe_callB (call_isiK (K := K) rfl) rfl T.b_isinstance bt_isinstance (pa_cons (pv 0) (pa_cons (pe_glob (v := .ref (clsAt mg "NoPast")) rfl T.c_NoPast rfl) pa_nil))) (pa_cons (pe_callB (call_isiK (K := K) rfl) rfl T.b_isinstance bt_isinstance (pa_cons (pv 0) (pa_cons (pe_glob (v := .ref (clsAt mg "NoText")) rfl T.c_NoText rfl) pa_nil))) (pa_cons (pe_callB (call_isiK (K := K) rfl) rfl T.b_isinstance bt_isinstance (pa_cons (pv 0) (pa_cons (pe_glob (v := .ref (clsAt mg "NoLine")) rfl T.c_NoLine rfl) pa_nil))) pa_nil))))))))))))
      (pss_cons (ps_if (PW.pt (pw_or (pt_not (pt_val (pe_callB (call_isiK (K := K) rfl) rfl T.b_isinstance bt_isinstance (pa_cons (pv 0) (pa_cons (pe_glob (v := .ref (clsAt mg "DipError")) rfl T.c_DipError rfl) pa_nil))))) (pw_or1 (pt_not (pt_val (pe_callB (call_isiK (K := K) rfl) rfl T.b_isinstance bt_isinstance (pa_cons (pv 0) (pa_cons (pe_bltn (v := .ty "ValueError") rfl T.b_ValueError bt_ValueError rfl) pa_nil)))))))) (pss_one (ps_ret pe_bl)) pss_nil)
      (pss_one (ps_ret (pe_and (pe_cmpR op_eq (pe_bm PySem.F.plainAttrs_list PySem.F.slot_list_count PySem.F.type_list_count mt_count (pv 2) (pa_cons pe_bl pa_nil)) pe_int (nomark _)) (pe_one (pe_ix ix_list (pv 2) (pv 1) (fun _ _ => rfl)))))))), ?_⟩
    walk_at "rd"
    (
  have Z := T.ex_TooMany
  refine ⟨_, tyE he Z T.is_TooMany_Unlike, _, tyE he Z T.is_TooMany_Empty, _, tyE he Z T.is_TooMany_TooMany, _, tyE he Z T.is_TooMany_NoTree, _, tyE he Z T.is_TooMany_NoTelling,
    _, tyE he Z T.is_TooMany_NoPlace, _, tyE he Z T.is_TooMany_NoNumber, _, tyE he Z T.is_TooMany_NoPast, _, tyE he Z T.is_TooMany_NoText, _, tyE he Z T.is_TooMany_NoLine, by decide, fun p hp => ?_⟩
  have he' : ∀ o, (upd H p o) e = some (ExcO e (clsAt mg "TooMany")) := fun o => by rw [upd_ne (ne_of_none he hp)]; exact he
  refine ⟨_, tyE (he' _) Z T.is_TooMany_DipError, ?_⟩
  walk_at "rd"
  refine ⟨_, tyE (he' _) Z T.is_TooMany_V, ?_⟩
  walk_at "rd"
  refine ⟨tyV_list upd_same, _, upd_same, ⟨_, rfl⟩, by simp, ?_⟩
  refine ite2 (fun _ => ?_) (fun z => absurd rfl z)
  exact ⟨_, SqL.of upd_same, _, rfl, k1 _ ((Same.refl H).upd hp)⟩
    )
  · refine ⟨_, (pss_cons (ps_set (i := 2) sc__law_alone.nd rfl (Or.inl rfl) (pe_lst (pa_cons (pe_callB (call_isiK (K := K) rfl) rfl T.b_isinstance bt_isinstance (pa_cons (pv 0) (pa_cons (pe_glob (v := .ref (clsAt mg "Unlike")) rfl T.c_Unlike rfl) pa_nil))) (pa_cons (pe_callB (call_isiK (K := K) rfl) rfl T.b_isinstance bt_isinstance (pa_cons (pv 0) (pa_cons (pe_glob (v := .ref (clsAt mg "Empty")) rfl T.c_Empty rfl) pa_nil))) (pa_cons (pe_callB (call_isiK (K := K) rfl) rfl T.b_isinstance bt_isinstance (pa_cons (pv 0) (pa_cons (pe_glob (v := .ref (clsAt mg "TooMany")) rfl T.c_TooMany rfl) pa_nil))) (pa_cons (pe_callB (call_isiK (K := K) rfl) rfl T.b_isinstance bt_isinstance (pa_cons (pv 0) (pa_cons (pe_glob (v := .ref (clsAt mg "NoTree")) rfl T.c_NoTree rfl) pa_nil))) (pa_cons (pe_callB (call_isiK (K := K) rfl) rfl T.b_isinstance bt_isinstance (pa_cons (pv 0) (pa_cons (pe_glob (v := .ref (clsAt mg "NoTelling")) rfl T.c_NoTelling rfl) pa_nil))) (pa_cons (pe_callB (call_isiK (K := K) rfl) rfl T.b_isinstance bt_isinstance (pa_cons (pv 0) (pa_cons (pe_glob (v := .ref (clsAt mg "NoPlace")) rfl T.c_NoPlace rfl) pa_nil))) (pa_cons (pe_callB (call_isiK (K := K) rfl) rfl T.b_isinstance bt_isinstance (pa_cons (pv 0) (pa_cons (pe_glob (v := .ref (clsAt mg "NoNumber")) rfl T.c_NoNumber rfl) pa_nil))) (pa_cons (pe_callB (call_isiK (K := K) rfl) rfl T.b_isinstance bt_isinstance (pa_cons (pv 0) (pa_cons (pe_glob (v := .ref (clsAt mg "NoPast")) rfl T.c_NoPast rfl) pa_nil))) (pa_cons (pe_callB (call_isiK (K := K) rfl) rfl T.b_isinstance bt_isinstance (pa_cons (pv 0) (pa_cons (pe_glob (v := .ref (clsAt mg "NoText")) rfl T.c_NoText rfl) pa_nil))) (pa_cons (pe_callB (call_isiK (K := K) rfl) rfl T.b_isinstance bt_isinstance (pa_cons (pv 0) (pa_cons (pe_glob (v := .ref (clsAt mg "NoLine")) rfl T.c_NoLine rfl) pa_nil))) pa_nil))))))))))))
      (pss_cons (ps_if (PW.pt (pw_or (pt_not (pt_val (pe_callB (call_isiK (K := K) rfl) rfl T.b_isinstance bt_isinstance (pa_cons (pv 0) (pa_cons (pe_glob (v := .ref (clsAt mg "DipError")) rfl T.c_DipError rfl) pa_nil))))) (pw_or1 (pt_not (pt_val (pe_callB (call_isiK (K := K) rfl) rfl T.b_isinstance bt_isinstance (pa_cons (pv 0) (pa_cons (pe_bltn (v := .ty "ValueError") rfl T.b_ValueError bt_ValueError rfl) pa_nil)))))))) (pss_one (ps_ret pe_bl)) pss_nil)
      (pss_one (ps_ret (pe_and (pe_cmpR op_eq (pe_bm PySem.F.plainAttrs_list PySem.F.slot_list_count PySem.F.type_list_count mt_count (pv 2) (pa_cons pe_bl pa_nil)) pe_int (nomark _)) (pe_one (pe_ix ix_list (pv 2) (pv 1) (fun _ _ => rfl)))))))), ?_⟩
    walk_at "rd"
    (
  have Z := T.ex_NoNumber
  refine ⟨_, tyE he Z T.is_NoNumber_Unlike, _, tyE he Z T.is_NoNumber_Empty, _, tyE he Z T.is_NoNumber_TooMany, _, tyE he Z T.is_NoNumber_NoTree, _, tyE he Z T.is_NoNumber_NoTelling,
    _, tyE he Z T.is_NoNumber_NoPlace, _, tyE he Z T.is_NoNumber_NoNumber, _, tyE he Z T.is_NoNumber_NoPast, _, tyE he Z T.is_NoNumber_NoText, _, tyE he Z T.is_NoNumber_NoLine, by decide, fun p hp => ?_⟩
  have he' : ∀ o, (upd H p o) e = some (ExcO e (clsAt mg "NoNumber")) := fun o => by rw [upd_ne (ne_of_none he hp)]; exact he
  refine ⟨_, tyE (he' _) Z T.is_NoNumber_DipError, ?_⟩
  walk_at "rd"
  refine ⟨_, tyE (he' _) Z T.is_NoNumber_V, ?_⟩
  walk_at "rd"
  refine ⟨tyV_list upd_same, _, upd_same, ⟨_, rfl⟩, by simp, ?_⟩
  refine ite2 (fun _ => ?_) (fun z => absurd rfl z)
  exact ⟨_, SqL.of upd_same, _, rfl, k1 _ ((Same.refl H).upd hp)⟩
    )

theorem ok_need_count {f : Addr} {fd : FuncData} (F : Fun K "need_count" "need_count" s_need_count f fd)  (T : Txt K mg) : FnOk P w K mg base (CXE P w) 1 f fd ["n"] (sp_need_count K mg) := by
  refine F.okX sc_need_count (fun vs H Q E h => ?_) (fun cdv A outer s H vs Q E hr h => ?_)
  · obtain ⟨n, rfl, _⟩ := h; rfl
  obtain ⟨n, rfl, k1, k2⟩ := h
  refine ⟨_, (pss_one (ps_if (pt_not (pt_chain op_le op_le pe_int (pv 0) (pe_glob (v := .int 40) rfl T.m_MOST_PLACES ⟨_, rfl⟩))) (pss_one (ps_raise rfl rfl T.c_TooMany T.x_TooMany (pa_cons (pe_joined (pj_text (by decide) (pj_int (pe_glob (v := .int 40) rfl T.m_MOST_PLACES ⟨_, rfl⟩) (pj_text (by decide) pj_nil)))) pa_nil) raisesE)) pss_nil)), ?_⟩
  walk_at "rd"
  by_cases h0 : 0 ≤ n
  · rw [if_pos h0]
    by_cases h1 : n ≤ 40
    · rw [if_neg (not_not_intro h1)]; exact k1 ⟨h0, h1⟩
    · rw [if_pos h1]; exact ⟨by decide, by decide, fun y => ⟨by decide, k2 (by omega)⟩⟩
  · rw [if_neg h0]
    exact ⟨by decide, by decide, fun y => ⟨by decide, k2 (by omega)⟩⟩

theorem ok_settle {f : Addr} {fd : FuncData} (F : Fun K "settle" "settle" s_settle f fd)  (T : Txt K mg) : FnOk P w K mg base (CXE P w) 1 f fd ["elders", "spine", "place", "keep"] (sp_settle K mg) := by
  refine F.okX sc_settle (fun vs H Q E h => ?_) (fun cdv A outer s H vs Q E hr h => ?_)
  · obtain ⟨el, sp, es, A, B, i, rfl, _⟩ := h; rfl
  obtain ⟨el, sp, es, A', B, i, rfl, hel, hsp, hne, hi, hq, hlen, k1⟩ := h
  refine ⟨_, (pss_cons (ps_if (pt_cmpR op_lt (pv 3) (pe_callB (call_lenK (K := K) rfl) rfl T.b_len PySem.boot_len (pa_cons (pv 1) pa_nil)) (nomark _)) (pss_one (ps_asg (pv 2) (pg_sub (pv 0) (pe_ix ix_list (pv 1) (pv 3) (fun _ _ => rfl)) set_list (fun _ => rfl)))) pss_nil)
      (pss_cons (ps_if (pt_cmpR op_gt (pv 3) pe_int (nomark _)) (pss_one (ps_asg (pe_ix ix_list (pv 1) (pe_op op_sub (pv 3) pe_int) (fun _ _ => rfl)) (pg_sub (pv 0) (pv 2) set_list (fun _ => rfl)))) pss_nil)
      (pss_cons (ps_delTail (pv 1) (pv 3))
      (pss_one (ps_expr (pe_bm PySem.F.plainAttrs_list PySem.F.slot_list_append PySem.F.type_list_append mt_append (pv 1) (pa_cons (pv 2) pa_nil))))))), ?_⟩
  walk_at "rd"
  have hb1 : (natsV A').length < sizeLine := by
    rw [natsV_len]
    rw [List.length_append] at hlen
    exact Nat.lt_of_le_of_lt (show _ ≤ 1000 by omega) (by decide)
  have etk : List.take A'.length (natsV (A' ++ B)) = natsV A' := by
    rw [natsV_app]
    have : A'.length = (natsV A').length := (natsV_len A').symm
    rw [this, List.take_left]
  have hle : A'.length ≤ (natsV (A' ++ B)).length := by rw [natsV_len, List.length_append]; omega
  have esn : natsV A' ++ [V.int (i : Nat)] = natsV (A' ++ [i]) := by rw [natsV_app]; rfl
  refine ⟨_, .inl (SqL.of hsp), ?_⟩
  rw [natsV_len, List.length_append]
  -- the end: behind the two stores
  have fin : ∀ (es1 : List Int) (Hx : Hp), (∀ b o, b ≠ el → b ≠ sp → H b = some o → Hx b = some o) → Hx el = some (.lst (es1.map V.int)) → Hx sp = some (.lst (natsV (A' ++ B))) → es1 = setE es A' B i →
      ∃ (xs : List V) (k : Nat), (A'.length : Int) = (k : Int) ∧ Hx sp = some (HO.lst xs) ∧ k ≤ xs.length ∧ tyV K "list" (V.ref sp) (upd Hx sp (HO.lst (List.take k xs))) ∧ ∃ x, upd Hx sp (HO.lst (List.take k xs)) sp = some (HO.lst x) ∧ x.length < sizeLine ∧ Q V.non (upd (upd Hx sp (HO.lst (List.take k xs))) sp (HO.lst (x ++ [V.int (i : Nat)]))) := by
    intro es1 Hx h1 h2 h3 h4
    refine ⟨_, A'.length, rfl, h3, hle, tyV_list upd_same, _, upd_same, by rw [etk]; exact hb1, k1 _ (fun b o n1 n2 z => by rw [upd_ne n2, upd_ne n2]; exact h1 b o n1 n2 z) (by rw [upd_ne hne, upd_ne hne, h2, h4]) (by rw [upd_same, etk, esn])⟩
  -- elders[place] = spine[keep - 1]
  have mid : ∀ (es1 : List Int) (Hx : Hp), (∀ b o, b ≠ el → b ≠ sp → H b = some o → Hx b = some o) → Hx el = some (.lst (es1.map V.int)) → es1.length = es.length → Hx sp = some (.lst (natsV (A' ++ B))) → ∀ q, A'.getLast? = some q → es1.set i (q : Int) = setE es A' B i →
      ∃ x, SqL K Hx sp x ∧ ∃ x_1, atI x ((A'.length : Int) - 1) = some x_1 ∧ ∃ x, Hx el = some (HO.lst x) ∧ ∃ x_2, ixN x.length (i : Int) = some x_2 ∧ ∃ (xs : List V) (k : Nat), (A'.length : Int) = (k : Int) ∧ upd Hx el (HO.lst (x.set x_2 x_1)) sp = some (HO.lst xs) ∧ k ≤ xs.length ∧ tyV K "list" (V.ref sp) (upd (upd Hx el (HO.lst (x.set x_2 x_1))) sp (HO.lst (List.take k xs))) ∧
        ∃ x_3, upd (upd Hx el (HO.lst (x.set x_2 x_1))) sp (HO.lst (List.take k xs)) sp = some (HO.lst x_3) ∧ x_3.length < sizeLine ∧ Q V.non (upd (upd (upd Hx el (HO.lst (x.set x_2 x_1))) sp (HO.lst (List.take k xs))) sp (HO.lst (x_3 ++ [V.int (i : Nat)]))) := by
    intro es1 Hx h1 h2 hl1 h3 q hq h4
    have hpos : 0 < A'.length := by
      cases A' with
      | nil => cases hq
      | cons _ _ => simp
    have hat : (A' ++ B)[A'.length - 1]? = some q := by
      rw [List.getElem?_append_left (by omega)]
      rw [List.getLast?_eq_getElem?] at hq; exact hq
    have ei : ((A'.length : Int) - 1) = ((A'.length - 1 : Nat) : Int) := by omega
    refine ⟨_, SqL.of h3, _, by rw [ei]; exact natsV_at hat, _, h2, i, by rw [List.length_map, hl1]; exact ixN_nat hi, ?_⟩
    have em : (es1.map V.int).set i (V.int (q : Nat)) = (es1.set i (q : Int)).map V.int := by rw [List.map_set]
    rw [em]
    exact fin _ _ (fun b o n1 n2 z => by rw [upd_ne n1]; exact h1 b o n1 n2 z) upd_same (by rw [upd_ne hne.symm]; exact h3) h4
  cases B with
  | nil =>
    rw [if_neg (by simp)]
    cases hq : A'.getLast? with
    | none =>
      have : A' = [] := List.getLast?_eq_none_iff.mp hq
      rw [if_neg (by rw [this]; simp)]
      exact fin es H (fun b o _ _ z => z) hel hsp (by unfold setE; rw [hq]; rfl)
    | some q =>
      have : A' ≠ [] := fun z => by rw [z] at hq; cases hq
      rw [if_pos (by have := List.length_pos_iff.mpr this; omega)]
      exact mid es H (fun b o _ _ z => z) hel rfl hsp q hq (by unfold setE; rw [hq]; rfl)
  | cons b Br =>
    rw [if_pos (by simp; omega)]
    have hat : (A' ++ b :: Br)[A'.length]? = some b := by rw [List.getElem?_append_right (Nat.le_refl _)]; simp
    have hbn : b < es.length := hq b (by simp)
    refine ⟨_, SqL.of hsp, _, natsV_at hat, _, _, rfl, hel, b, by rw [List.length_map]; exact ixN_nat hbn, ?_⟩
    have em : (es.map V.int).set b (V.int (i : Nat)) = (es.set b (i : Int)).map V.int := by rw [List.map_set]
    rw [em]
    cases hq2 : A'.getLast? with
    | none =>
      have : A' = [] := List.getLast?_eq_none_iff.mp hq2
      rw [if_neg (by rw [this]; simp)]
      exact fin (es.set b i) _ (fun c o n1 n2 z => by rw [upd_ne n1]; exact z) upd_same (by rw [upd_ne hne.symm]; exact hsp) (by unfold setE; rw [hq2]; rfl)
    | some q =>
      have : A' ≠ [] := fun z => by rw [z] at hq2; cases hq2
      rw [if_pos (by have := List.length_pos_iff.mpr this; omega)]
      exact mid (es.set b i) _ (fun c o n1 n2 z => by rw [upd_ne n1]; exact z) upd_same (by simp) (by rw [upd_ne hne.symm]; exact hsp) q hq2 (by unfold setE; rw [hq2]; rfl)
theorem ok_tree_of {f : Addr} {fd : FuncData} (F : Fun K "tree_of" "tree_of" s_tree_of f fd) (G_settle : Callee P w K mg base "settle" 1 ["elders", "spine", "place", "keep"] (sp_settle K mg)) (T : Txt K mg) : FnOk P w K mg base (CXE P w) 2 f fd ["row"] (sp_tree_of K mg) := by
  refine F.okX sc_tree_of (fun vs H Q E h => ?_) (fun cdv A outer s H vs Q E hr h => ?_)
  · obtain ⟨r, ns, rfl, _⟩ := h; rfl
  obtain ⟨r, ns, rfl, hS, hn, k1⟩ := h
  refine ⟨_, (pss_cons (ps_set (i := 1) sc_tree_of.nd rfl (Or.inl rfl) (pe_op op_rep (pe_lst (pa_cons (pe_un un_neg pe_int) pa_nil)) (pe_callB (call_lenK (K := K) rfl) rfl T.b_len PySem.boot_len (pa_cons (pv 0) pa_nil))))
      (pss_cons (ps_set (i := 2) sc_tree_of.nd rfl (Or.inl rfl) (pe_lst pa_nil))
      (pss_cons (ps_nox (ps_for PassesOwn.never rfl (pi_range1 rfl T.b_range (pa_cons (pe_callB (call_lenK (K := K) rfl) rfl T.b_len PySem.boot_len (pa_cons (pv 0) pa_nil)) pa_nil)) (pg_name (i := 3) sc_tree_of.nd rfl (Or.inl rfl)) (pss_cons (ps_set (i := 4) sc_tree_of.nd rfl (Or.inl rfl) (pe_callB (call_lenK (K := K) rfl) rfl T.b_len PySem.boot_len (pa_cons (pv 2) pa_nil)))
      (pss_cons (ps_nox (ps_while PassesOwn.never (PW.pt (pw_and (pt_cmpR op_gt (pv 4) pe_int (nomark _)) (pw_and1 (pt_cmpR op_gt (pe_ix (ix_q (K := K) rfl) (pv 0) (pe_ix ix_list (pv 2) (pe_op op_sub (pv 4) pe_int) (fun _ _ => rfl)) (fun _ _ => rfl)) (pe_ix (ix_q (K := K) rfl) (pv 0) (pv 3) (fun _ _ => rfl)) (nomark _))))) (pss_one (ps_aug (i := 4) sc_tree_of.nd rfl (Or.inl rfl) pe_int ip_sub))))
      (pss_one (ps_expr (pe_callF G_settle (hr.mono (by decide)) rfl passE (pa_cons (pv 1) (pa_cons (pv 2) (pa_cons (pv 3) (pa_cons (pv 4) pa_nil)))))))))))
      (pss_one (ps_ret (pe_callTy (call_tupK (K := K) rfl) rfl T.b_tuple bt_tuple (pa_cons (pv 1) pa_nil))))))), ?_⟩
  walk_at "rd"
  have eL : (ns.map V.int).length = ns.length := List.length_map ..
  refine ⟨by decide, fun p hp => ⟨_, ((Same.refl H).upd hp).q hS, _, upd_same, by omega, by rw [eL]; omega, ?_, fun el hel => ⟨Nat.zero_le _, fun sp hsp => ?_⟩⟩⟩
  · exact Nat.le_trans (show _ ≤ 1000 by simp; omega) (by decide)
  have s0 : Same H (upd (upd (upd H p (.lst [V.int (-1)])) el (.lst (List.replicate (((ns.map V.int).length : Nat) : Int).toNat [V.int (-1)]).flatten)) sp (.lst [])) := (((Same.refl H).upd hp).upd' hel).upd' hsp
  refine ⟨_, s0.q hS, by omega, by rw [eL]; omega, ?_⟩
  have en : (((ns.map V.int).length : Nat) : Int).toNat = ns.length := by rw [eL]; omega
  have hel0 : (upd (upd (upd H p (.lst [V.int (-1)])) el (.lst (List.replicate (((ns.map V.int).length : Nat) : Int).toNat [V.int (-1)]).flatten)) sp (.lst [])) el = some (.lst ((List.replicate ns.length (-1 : Int)).map V.int)) := by
    have := ((Same.refl _).upd' (o := .lst []) hsp) el _ upd_same
    rw [this, en]; simp
  have hsp0 : (upd (upd (upd H p (.lst [V.int (-1)])) el (.lst (List.replicate (((ns.map V.int).length : Nat) : Int).toNat [V.int (-1)]).flatten)) sp (.lst [])) sp = some (.lst (natsV [])) := upd_same
  have nes : el ≠ sp := fun z => by
    subst z
    rw [upd_same] at hsp; cases hsp
  have zel : H el = none := ((Same.refl H).upd hp).free hel
  have zsp : H sp = none := (((Same.refl H).upd hp).upd' hel).free hsp
  rw [en] at hel0 hsp0 s0 ⊢
  generalize (upd (upd (upd H p (.lst [V.int (-1)])) el (.lst (List.replicate ns.length [V.int (-1)]).flatten)) sp (.lst [])) = H0 at s0 hel0 hsp0 ⊢
  refine for_range (fun i σ Hx => ∃ (es : List Int) (S : List Nat) (v3 v4 : Option V), σ = [some (.ref r), some (.ref el), some (.ref sp), v3, v4] ∧ Same H Hx ∧ Hx el = some (.lst (es.map V.int)) ∧ Hx sp = some (.lst (natsV S)) ∧ es.length = ns.length ∧ Spine (nth ns) i S ∧ (∀ p e, p < i → e = es.getD p 0 → ElderIs (nth ns) i p e) ∧ ∀ p, i ≤ p → p < ns.length → es.getD p 0 = -1)
    ⟨List.replicate ns.length (-1), [], none, none, rfl, s0, hel0, hsp0, by simp, ⟨List.Pairwise.nil, fun q => by simp⟩, fun p e hp => by omega, fun p _ hp => by simp [List.getD_eq_getElem?_getD, hp]⟩ ?_ ?_
  · rintro i σ Hx hi ⟨es, S, v3, v4, rfl, sx, hxe, hxs, hesl, hS2, hE, hE2⟩
    walk_at "rd"
    have hin : i < ns.length := by omega
    have hSl : S.length ≤ 1000 := by
      rcases pw_len S i 0 hS2.1 (fun q hq => ⟨Nat.zero_le _, ((hS2.2 q).mp hq).1⟩) with z | z
      · omega
      · rw [z]; simp
    refine ⟨_, .inl (SqL.of hxs), ?_⟩
    rw [natsV_len]
    refine while_i S.length (fun j σ Hy => ∃ A B, S = A ++ B ∧ B.length = j ∧ (∀ q ∈ B, nth ns i < nth ns q) ∧ σ = [some (.ref r), some (.ref el), some (.ref sp), some (.int (0 + (i : Int))), some (.int (A.length : Nat))] ∧ Hy = Hx) ⟨S, [], by simp, rfl, (fun q hq => absurd hq (by simp)), rfl, rfl⟩ ?_
    rintro j σ Hy hj ⟨A, B, hAB, hBl, hBg, rfl, rfl⟩
    walk_at "rd"
    have hmem : ∀ q, q ∈ A ++ B → q < i := fun q hq => ((hS2.2 q).mp (by rw [hAB]; exact hq)).1
    have hix : (0 + (i : Int)) = (i : Int) := by omega
    rw [hix]
    by_cases hA0 : A = []
    case' pos =>
      rw [if_neg (by rw [hA0]; simp)]
      have hA : ∀ q ∈ A, nth ns q ≤ nth ns i := fun q hq => absurd hq (by rw [hA0]; simp)
    case' neg =>
      obtain ⟨q, Al, rfl⟩ : ∃ q Al, A = Al ++ [q] := ⟨A.getLast hA0, A.dropLast, (List.dropLast_concat_getLast hA0).symm⟩
      have hal : (Al ++ [q]).length = Al.length + 1 := by simp
      rw [if_pos (by rw [hal]; omega)]
      have eiA : (((Al ++ [q]).length : Nat) : Int) - 1 = (Al.length : Int) := by rw [hal]; omega
      have hat : S[Al.length]? = some q := by
        rw [hAB, List.append_assoc, List.getElem?_append_right (Nat.le_refl _)]; simp
      have hqi : q < i := hmem q (by simp)
      refine ⟨_, SqL.of hxs, _, by rw [eiA]; exact natsV_at hat, _, _, rfl, sx.q hS, _, nth_at (by omega), _, sx.q hS, _, nth_at hin, _, rfl, _, rfl, ite2 (fun hlt => ?_) (fun hge => ?_)⟩
      · have hj2 : j + 1 ≤ S.length := by rw [hAB, List.length_append, hal]; omega
        refine ⟨_, WI.next, hj2, Al, q :: B, by rw [hAB]; simp, by simp [hBl], fun x hx => ?_, by rw [eiA], rfl⟩
        rcases List.mem_cons.mp hx with z | z
        · rw [z]; exact hlt
        · exact hBg x z
      have hA : ∀ x ∈ Al ++ [q], nth ns x ≤ nth ns i := fun x hx => by
        by_cases z : x = q
        · rw [z]; omega
        · have hxa : x ∈ Al := by
            rcases List.mem_append.mp hx with y | y
            · exact y
            · exact absurd (by simpa using y) z
          have hpw := hS2.1
          rw [hAB] at hpw
          have hxq : x < q := (List.pairwise_append.mp (List.pairwise_append.mp hpw).1).2.2 x hxa q (by simp)
          have := ((hS2.2 x).mp (by rw [hAB]; exact List.mem_append_left _ hx)).2 q hxq hqi
          omega
      generalize Al ++ [q] = A at hA hAB hmem hA0 ⊢
    all_goals
      have SS := spine_step (f := nth ns) (i := i) (A := A) (B := B) (by rw [← hAB]; exact hS2) hA hBg
      refine ⟨el, sp, es, A, B, i, rfl, hxe, by rw [← hAB]; exact hxs, nes, by omega, fun q hq => by have := hmem q hq; omega, by rw [← hAB]; exact hSl, fun H' q1 q2 q3 => ?_⟩
      have hbi : ∀ b, B.head? = some b → b ≠ i := fun b hb => by
        have := hmem b (List.mem_append_right _ (List.mem_of_head? hb)); omega
      refine ⟨fun b o z => q1 b o (ne_of_none z zel) (ne_of_none z zsp) (sx b o z), setE es A B i, q2, A ++ [i], q3, by rw [setE_len]; exact hesl, SS.1, fun p e hp he => ?_, fun p hp1 hp2 => ?_⟩
      · rw [setE_at _ _ _ _ _ (by omega) hbi] at he
        by_cases z : p = i
        · subst z
          rw [if_pos rfl, hE2 p (Nat.le_refl _) (by omega)] at he
          rw [he]; exact SS.2.1
        · rw [if_neg z] at he
          rw [he]
          exact SS.2.2 p _ (by omega) (hE p _ (by omega) rfl)
      · rw [setE_at _ _ _ _ _ (by omega) hbi, if_neg (by omega), if_neg (fun z => ?_)]
        · exact hE2 p (by omega) hp2
        · have := hmem p (List.mem_append_right _ (List.mem_of_head? z)); omega
  · rintro σ Hx ⟨es, S, v3, v4, rfl, sx, hxe, hxs, hesl, hS2, hE, hE2⟩
    walk_at "rd"
    exact ⟨_, .inl ⟨SqL.of hxe, fun t ht => k1 t es _ ⟨hesl, fun p hp => hE p _ hp rfl⟩ (sx.upd' ht) upd_same⟩⟩

theorem ok_way_up {f : Addr} {fd : FuncData} (F : Fun K "way_up" "way_up" s_way_up f fd)  (T : Txt K mg) : FnOk P w K mg base (CXE P w) 1 f fd ["tree", "place"] (sp_way_up K mg) := by
  refine F.okX sc_way_up (fun vs H Q E h => ?_) (fun cdv A outer s H vs Q E hr h => ?_)
  · obtain ⟨t, T, p, rfl, _⟩ := h; rfl
  obtain ⟨t, T', p, rfl, ht, hn, hp, k1⟩ := h
  refine ⟨_, (pss_cons (ps_set (i := 2) sc_way_up.nd rfl (Or.inl rfl) (pe_lst pa_nil))
      (pss_cons (ps_set (i := 3) sc_way_up.nd rfl (Or.inl rfl) (pe_ix ix_tup (pv 0) (pv 1) (fun _ _ => rfl)))
      (pss_cons (ps_nox (ps_while PassesOwn.never (PW.pt (pw_and (pt_chain op_le op_lt pe_int (pv 3) (pe_callB (call_lenK (K := K) rfl) rfl T.b_len PySem.boot_len (pa_cons (pv 0) pa_nil))) (pw_and1 (pt_cmpR op_lt (pe_callB (call_lenK (K := K) rfl) rfl T.b_len PySem.boot_len (pa_cons (pv 2) pa_nil)) (pe_callB (call_lenK (K := K) rfl) rfl T.b_len PySem.boot_len (pa_cons (pv 0) pa_nil)) (nomark _))))) (pss_cons (ps_expr (pe_bm PySem.F.plainAttrs_list PySem.F.slot_list_append PySem.F.type_list_append mt_append (pv 2) (pa_cons (pv 3) pa_nil)))
      (pss_one (ps_set (i := 3) sc_way_up.nd rfl (Or.inl rfl) (pe_ix ix_tup (pv 0) (pv 3) (fun _ _ => rfl)))))))
      (pss_one (ps_ret (pv 2)))))), ?_⟩
  walk_at "rd"
  refine ⟨Nat.zero_le _, fun l hl => ⟨_, SqT.of (((Same.refl H).upd hl) _ _ ht), _, nth_at hp, ?_⟩⟩
  refine while_i T'.length (fun j σ Hx => Same H Hx ∧ Hx l = some (.lst (natsV (wayF T' j (nth T' p)))) ∧ (wayF T' j (nth T' p)).length = j ∧ σ = [some (.ref t), some (.int p), some (.ref l), some (.int (wayAt T' j (nth T' p)))]) ⟨(Same.refl H).upd hl, upd_same, rfl, rfl⟩ ?_
  rintro j σ Hx hj ⟨sx, hxl, hjl, rfl⟩
  walk_at "rd"
  have hlen : (natsV (wayF T' j (nth T' p))).length = j := by rw [natsV_len]; exact hjl
  have eL : (T'.map V.int).length = T'.length := List.length_map ..
  have done : (j = T'.length ∨ ¬ (0 ≤ wayAt T' j (nth T' p) ∧ wayAt T' j (nth T' p) < T'.length)) → Q (.ref l) Hx := fun z => by
    refine k1 l Hx hl sx ?_
    have : wayF T' T'.length (nth T' p) = wayF T' j (nth T' p) := by
      rcases z with z | z
      · rw [← z]
      · exact wayF_stop T' j _ _ hj hjl z
    rw [hxl]; unfold wayI; rw [this]; simp [natsV]
  refine ite2 (fun h0 => ⟨_, .inr (SqT.of (sx _ _ ht)), ite2 (fun h1 => ⟨_, .inl (SqL.of hxl), _, .inr (SqT.of (sx _ _ ht)), ite2 (fun h2 => ?_) fun h2 => done (.inl (by rw [hlen, eL] at h2; omega))⟩) fun h1 => done (.inr (by rw [eL] at h1; omega))⟩) fun h0 => done (.inr (by omega))
  rw [eL] at h1; rw [hlen, eL] at h2
  obtain ⟨a1, a2⟩ := wayF_snoc T' j (nth T' p) h0 h1 hjl
  have ei : wayAt T' j (nth T' p) = (((wayAt T' j (nth T' p)).toNat : Nat) : Int) := by omega
  have nlt : t ≠ l := ne_of_none ht hl
  refine ⟨_, WI.next, tyV_list hxl, _, hxl, by rw [hlen]; exact Nat.lt_of_le_of_lt (show _ ≤ 1000 by omega) (by decide), _, SqT.of (by rw [upd_ne nlt]; exact sx _ _ ht), _, (congrArg (atI _) ei).trans (nth_at (by omega)), by omega, sx.upd hl, ?_, ?_, ?_⟩
  · rw [upd_same, a1, natsV_app]
    have : natsV [(wayAt T' j (nth T' p)).toNat] = [V.int (wayAt T' j (nth T' p))] := by rw [ei]; simp [natsV]
    rw [this]
  · rw [a1]; simp [hjl]
  · rw [a2]
theorem ok_is_tree {f : Addr} {fd : FuncData} (F : Fun K "is_tree" "is_tree" s_is_tree f fd) (G_tree_of : Callee P w K mg base "tree_of" 2 ["row"] (sp_tree_of K mg)) (G_way_up : Callee P w K mg base "way_up" 1 ["tree", "place"] (sp_way_up K mg)) (T : Txt K mg) : FnOk P w K mg base (CXE P w) 3 f fd ["tree"] (sp_is_tree K mg) := by
  refine F.okX sc_is_tree (fun vs H Q E h => ?_) (fun cdv A outer s H vs Q E hr h => ?_)
  · obtain ⟨t, T, rfl, _⟩ := h; rfl
  obtain ⟨t, T', rfl, ht, hn, k1, k2⟩ := h
  refine ⟨_, (pss_cons (ps_if (PW.pt (pw_or (pt_not (pt_val (pe_callB (call_isiK (K := K) rfl) rfl T.b_isinstance bt_isinstance (pa_cons (pv 0) (pa_cons (pe_bltn (v := .ty "tuple") rfl T.b_tuple bt_tuple rfl) pa_nil))))) (pw_or1 (pt_cmpR op_gt (pe_callB (call_lenK (K := K) rfl) rfl T.b_len PySem.boot_len (pa_cons (pv 0) pa_nil)) (pe_glob (v := .int 40) rfl T.m_MOST_PLACES ⟨_, rfl⟩) (nomark _))))) (pss_one (ps_ret pe_bl)) pss_nil)
      (pss_cons (ps_setCN (i := 1) ["place", "tree"] [none, some 0] sc_is_tree.nd rfl (Or.inl rfl) rfl rfl rfl (pi_range1 rfl T.b_range (pa_cons (pe_callB (call_lenK (K := K) rfl) rfl T.b_len PySem.boot_len (pa_cons (pv 0) pa_nil)) pa_nil)) (fun _ _ _ _ _ => (pg_name (i := 0) (show (["place", "tree"] : List Str).Nodup from by decide +kernel) rfl (Or.inl rfl))) (fun _ _ _ _ _ => pifs_nil) (fun _ _ _ _ _ => (pe_callB (call_lenK (K := K) rfl) rfl T.b_len PySem.boot_len (pa_cons (pe_callF G_way_up (hr.mono (by decide)) rfl passE (pa_cons (pv 1) (pa_cons (pv 0) pa_nil))) pa_nil))) only_name)
      (pss_one (ps_ret (pe_cmpR (op_eqD (K := K) rfl hr) (pe_callF G_tree_of (hr.mono (by decide)) rfl passE (pa_cons (pv 1) pa_nil)) (pv 0) (nomark _)))))), ?_⟩
  walk_at "rd"
  have eL : (T'.map V.int).length = T'.length := List.length_map ..
  refine ⟨true, .inl ⟨_, .tup ht, by with_unfolding_all rfl⟩, ite2 (fun z => nomatch z) fun _ => ⟨_, .inr (SqT.of ht), ite2 (fun z => k2 (fun g => ?_) _ (Same.refl H)) fun z => ⟨_, .inr (SqT.of ht), by omega, by rw [eL]; omega, ?_⟩⟩⟩
  · rw [eL] at z; have := g.1; omega
  rw [eL] at z ⊢
  have en : ((T'.length : Nat) : Int).toNat = T'.length := by omega
  rw [en]
  refine comp_map (n := T'.length) (fun q => V.int (nth (deps T') q)) (Nat.lt_of_le_of_lt hn (by decide)) (fun j Hx s hj => hj) (fun Hx s => Nat.le_refl _) ?_ ?_
  · rintro j x Hx Hy hj s ⟨rfl, rfl⟩
    walk_at "rd"
    refine ⟨t, T', j, by simp, s _ _ ht, hn, hj, fun l H9 hl s9 h9 => ⟨l, rfl, _, .inl (SqL.of h9), CW.next hj ?_ (s.trans s9)⟩⟩
    rw [deps_nth hj, List.length_map]; simp [wayI]
  · intro l' Hx s hl'
    have ed : (List.range T'.length).map (fun q => V.int (nth (deps T') q)) = (deps T').map V.int := by
      rw [← deps_len T']; exact range_getD _ _ V.int _ rfl
    rw [ed]
    have u := s.upd' (o := .lst ((deps T').map V.int)) hl'
    refine ⟨l', deps T', rfl, .inl (SqL.of upd_same), by rw [deps_len]; exact hn, fun t2 es H2 hT2 s2 ht2 => ⟨t2, rfl, _, eqp_tup (n := 2) eqp_int _ _ es T' (isT_ints (SqT.of ht2)) (isT_ints (SqT.of ((u.trans s2) _ _ ht))), ?_⟩⟩
    by_cases g : es = T'
    · rw [decide_eq_true g]; exact k1 ⟨by omega, _, g ▸ hT2⟩ _ (u.trans s2)
    · rw [decide_eq_false g]; exact k2 (fun gg => g (hT2.unique ((tree_deps T').mp gg.2))) _ (u.trans s2)

theorem ok_need_tree {f : Addr} {fd : FuncData} (F : Fun K "need_tree" "need_tree" s_need_tree f fd) (G_is_tree : Callee P w K mg base "is_tree" 3 ["tree"] (sp_is_tree K mg)) (T : Txt K mg) : FnOk P w K mg base (CXE P w) 4 f fd ["tree"] (sp_need_tree K mg) := by
  refine F.okX sc_need_tree (fun vs H Q E h => ?_) (fun cdv A outer s H vs Q E hr h => ?_)
  · obtain ⟨t, T, rfl, _⟩ := h; rfl
  obtain ⟨t, T', rfl, ht, hn, k1, k2⟩ := h
  refine ⟨_, (pss_one (ps_if (pt_not (pt_val (pe_callF G_is_tree (hr.mono (by decide)) rfl passE (pa_cons (pv 0) pa_nil)))) (pss_one (ps_raise rfl rfl T.c_NoTree T.x_NoTree (pa_cons (pe_joined (pj_text (by decide) (pj_int (pe_callB (call_lenK (K := K) rfl) rfl T.b_len PySem.boot_len (pa_cons (pv 0) pa_nil)) (pj_text (by decide) pj_nil)))) pa_nil) raisesE)) pss_nil)), ?_⟩
  walk_at "rd"
  exact ⟨t, T', rfl, ht, hn, fun g H1 s1 => ⟨true, rfl, ite2 (fun z => nomatch z) fun _ => k1 g _ s1⟩, fun g H1 s1 => ⟨false, rfl, ite2 (fun _ => ⟨_, .inr (SqT.of (s1 _ _ ht)), by omega, by rw [List.length_map]; omega, fun y => ⟨by decide, k2 g _ s1⟩⟩) fun z => absurd rfl z⟩⟩

theorem ok__law_over {f : Addr} {fd : FuncData} (F : Fun K "_law_over" "_law_over" s__law_over f fd)  (T : Txt K mg) : FnOk P w K mg base (CXE P w) 1 f fd ["tree", "place"] (sp__law_over K mg) := by
  refine F.okX sc__law_over (fun vs H Q E h => ?_) (fun cdv A outer s H vs Q E hr h => ?_)
  · obtain ⟨t, T, p, rfl, _⟩ := h; rfl
  obtain ⟨t, T', p, rfl, ht, hn, hp, k1, k2⟩ := h
  refine ⟨_, (pss_cons (ps_set (i := 2) sc__law_over.nd rfl (Or.inl rfl) (pe_lst pa_nil))
      (pss_cons (ps_set (i := 3) sc__law_over.nd rfl (Or.inl rfl) (pe_ix ix_tup (pv 0) (pv 1) (fun _ _ => rfl)))
      (pss_cons (ps_nox (ps_while PassesOwn.never (pt_cmpR op_ne (pv 3) (pe_un un_neg pe_int) (nomark _)) (pss_cons (ps_if (PW.pt (pw_or (pt_cmpR op_lt (pv 3) pe_int (nomark _)) (pw_or (pt_cmpR op_ge (pv 3) (pe_callB (call_lenK (K := K) rfl) rfl T.b_len PySem.boot_len (pa_cons (pv 0) pa_nil)) (nomark _)) (pw_or1 (pt_cmpR op_gt (pe_callB (call_lenK (K := K) rfl) rfl T.b_len PySem.boot_len (pa_cons (pv 2) pa_nil)) (pe_callB (call_lenK (K := K) rfl) rfl T.b_len PySem.boot_len (pa_cons (pv 0) pa_nil)) (nomark _)))))) (pss_one (ps_ret pe_non)) pss_nil)
      (pss_cons (ps_expr (pe_bm PySem.F.plainAttrs_list PySem.F.slot_list_append PySem.F.type_list_append mt_append (pv 2) (pa_cons (pv 3) pa_nil)))
      (pss_one (ps_set (i := 3) sc__law_over.nd rfl (Or.inl rfl) (pe_ix ix_tup (pv 0) (pv 3) (fun _ _ => rfl))))))))
      (pss_one (ps_ret (pv 2)))))), ?_⟩
  walk_at "rd"
  refine ⟨Nat.zero_le _, fun l hl => ⟨_, SqT.of (((Same.refl H).upd hl) _ _ ht), _, nth_at hp, ?_⟩⟩
  refine while_m (fun m σ Hx => ∃ (h : Int) (L : List Nat), 0 < m ∧ m + L.length = T'.length + 2 ∧ ((∃ ns, TreeIs ns T') → ∃ q, q < T'.length ∧ h = nth T' q ∧ L ++ way T' q = way T' p) ∧ Same H Hx ∧ Hx l = some (.lst (natsV L)) ∧ σ = [some (.ref t), some (.int p), some (.ref l), some (.int h)]) (T'.length + 2) ⟨nth T' p, [], by omega, by simp, fun _ => ⟨p, hp, rfl, rfl⟩, (Same.refl H).upd hl, upd_same, rfl⟩ ?_
  rintro m σ Hx ⟨h, L, hm0, hm, hq, sx, hxl, rfl⟩
  walk_at "rd"
  have eL : (T'.map V.int).length = T'.length := List.length_map ..
  have nlt : t ≠ l := ne_of_none ht hl
  have bad : (h < 0 ∨ (T'.length : Int) ≤ h ∨ T'.length < L.length) → ¬ h = -1 → Q .non Hx := fun z z1 => by
    refine (k2 fun g => ?_).1 Hx sx
    obtain ⟨q, q1, q2, q3⟩ := hq g
    obtain ⟨ns, hT⟩ := g
    have e := hT.1
    have hw : (way T' p).length ≤ T'.length := wayF_len _ _ _
    rw [← q3, List.length_append] at hw
    rcases elder_cases hT (by omega : q < ns.length) with y | ⟨r, y, hr2, _⟩ <;> omega
  refine ite2 (fun z1 => ⟨_, fun σ' H' z => z, ite2 (fun z => bad (.inl z) z1) fun z2 => ⟨_, .inr (SqT.of (sx _ _ ht)), ite2 (fun z => bad (.inr (.inl (by rw [eL] at z; exact z))) z1) fun z3 => ⟨_, .inl (SqL.of hxl), _, .inr (SqT.of (sx _ _ ht)), ite2 (fun z => bad (.inr (.inr (by rw [eL, natsV_len] at z; omega))) z1) fun z4 => ?_⟩⟩⟩) fun z1 => ?_
  · rw [eL] at z3
    rw [eL, natsV_len] at z4
    obtain ⟨j, rfl⟩ := Int.eq_ofNat_of_zero_le (show 0 ≤ h by omega)
    refine ⟨tyV_list hxl, _, hxl, Nat.lt_of_le_of_lt (show _ ≤ 2000 by rw [natsV_len]; omega) (by decide), _, SqT.of (by rw [upd_ne nlt]; exact sx _ _ ht), _, nth_at (by omega), m - 1, by omega, by omega, nth T' j, L ++ [j], by simp; omega, fun g => ?_, sx.upd hl, ?_, rfl⟩
    · obtain ⟨q, q1, q2, q3⟩ := hq g
      obtain ⟨ns, hT⟩ := g
      have e := hT.1
      refine ⟨j, by omega, rfl, ?_⟩
      rw [← q3, way_cons hT (by omega) q2.symm]; simp
    · rw [upd_same, natsV_app]; rfl
  · have z1 : h = -1 := by omega
    by_cases g : ∃ ns, TreeIs ns T'
    · obtain ⟨q, q1, q2, q3⟩ := hq g
      refine k1 g l Hx hl sx ?_
      rw [hxl, wayI_way, ← q3, way_top (q2.symm.trans z1)]
      simp [natsV]
    · exact (k2 g).2 l L Hx hl (by omega) sx hxl
theorem ok__law_flats {f : Addr} {fd : FuncData} (F : Fun K "_law_flats" "_law_flats" s__law_flats f fd) (G__law_over : Callee P w K mg base "_law_over" 1 ["tree", "place"] (sp__law_over K mg)) (T : Txt K mg) : FnOk P w K mg base (CXE P w) 2 f fd ["tree"] (sp__law_flats K mg) := by
  refine F.okX sc__law_flats (fun vs H Q E h => ?_) (fun cdv A outer s H vs Q E hr h => ?_)
  · obtain ⟨t, T, rfl, _⟩ := h; rfl
  obtain ⟨t, T', rfl, ht, hn, k1, k2⟩ := h
  refine ⟨_, (pss_cons (ps_set (i := 1) sc__law_flats.nd rfl (Or.inl rfl) (pe_lst pa_nil))
      (pss_cons (ps_nox (ps_for PassesOwn.never rfl (pi_range1 rfl T.b_range (pa_cons (pe_callB (call_lenK (K := K) rfl) rfl T.b_len PySem.boot_len (pa_cons (pv 0) pa_nil)) pa_nil)) (pg_name (i := 2) sc__law_flats.nd rfl (Or.inr rfl)) (pss_cons (ps_set (i := 3) sc__law_flats.nd rfl (Or.inl rfl) (pe_callF G__law_over (hr.mono (by decide)) rfl passE (pa_cons (pv 0) (pa_cons (pv 2) pa_nil))))
      (pss_cons (ps_if (pt_cmpR op_isN (pv 3) pe_non (nomark _)) (pss_one (ps_ret pe_non)) pss_nil)
      (pss_one (ps_expr (pe_bm PySem.F.plainAttrs_list PySem.F.slot_list_append PySem.F.type_list_append mt_append (pv 1) (pa_cons (pe_callB (call_lenK (K := K) rfl) rfl T.b_len PySem.boot_len (pa_cons (pe_compN ["other", "place"] [none, some 2] rfl rfl rfl (pi_list (pv 3)) (fun _ _ _ _ _ => (pg_name (i := 0) (show (["other", "place"] : List Str).Nodup from by decide +kernel) rfl (Or.inl rfl))) (fun _ _ _ _ _ => pifs_one (pt_cmpR op_gt (pv 0) (pv 1) (nomark _))) (fun _ _ _ _ _ => (pv 0)) only_name) pa_nil)) pa_nil))))))))
      (pss_one (ps_ret (pe_callTy (call_tupK (K := K) rfl) rfl T.b_tuple bt_tuple (pa_cons (pv 1) pa_nil)))))), ?_⟩
  walk_at "rd"
  have eL : (T'.map V.int).length = T'.length := List.length_map ..
  refine ⟨Nat.zero_le _, fun l hl => ⟨_, .inr (SqT.of (((Same.refl H).upd hl) _ _ ht)), by omega, by rw [eL]; omega, ?_⟩⟩
  have en : (((T'.map V.int).length : Nat) : Int).toNat = T'.length := by rw [eL]; omega
  rw [en]
  refine for_range (fun i σ Hx => ∃ (L : List Int) (v2 v3 : Option V), σ = [some (.ref t), some (.ref l), v2, v3] ∧ L.length = i ∧ Same H Hx ∧ Hx l = some (.lst (L.map V.int)) ∧ ((∃ ns, TreeIs ns T') → L = (List.range i).map fun p => (flatN T' p : Int))) ⟨[], none, none, rfl, rfl, (Same.refl H).upd hl, upd_same, fun _ => rfl⟩ ?_ ?_
  · rintro i σ Hx hi ⟨L, v2, v3, rfl, hL, sx, hxl, hF⟩
    have e0 : ((0 : Int) + (i : Int)) = (i : Int) := by omega
    rw [e0]
    refine seqR (fun σ Hy => Same H Hy ∧ Hy l = some (.lst (L.map V.int)) ∧ ((∃ (w : Addr) (M : List Nat), σ = [some (.ref t), some (.ref l), some (.int (i : Int)), some (.ref w)] ∧ M.length ≤ T'.length + 1 ∧ Hy w = some (.lst (natsV M)) ∧ ((∃ ns, TreeIs ns T') → M = way T' i)) ∨ (σ = [some (.ref t), some (.ref l), some (.int (i : Int)), some .non] ∧ ¬ ∃ ns, TreeIs ns T'))) (fun R hR => ?_) ?_
    · walk_at "rd"
      refine ⟨t, T', i, rfl, sx _ _ ht, hn, hi, fun g w H2 hw s2 h2 => hR _ _ ⟨sx.trans s2, s2 _ _ hxl, .inl ⟨w, way T' i, rfl, Nat.le_trans (wayF_len _ _ _) (by omega), ?_, fun _ => rfl⟩⟩, fun g => ⟨fun H2 s2 => hR _ _ ⟨sx.trans s2, s2 _ _ hxl, .inr ⟨rfl, g⟩⟩, fun w M H2 hw hM s2 h2 => hR _ _ ⟨sx.trans s2, s2 _ _ hxl, .inl ⟨w, M, rfl, hM, h2, fun g' => absurd g' g⟩⟩⟩⟩
      rw [h2, wayI_way]; simp [natsV]
    rintro σ Hy ⟨sy, hyl, ⟨w, M, rfl, hM, hw, hw2⟩ | ⟨rfl, g⟩⟩
    · walk_at "rd"
      refine ite2 (fun z => nomatch z) fun _ => ⟨tyV_list hyl, ⟨_, SqL.of hw⟩, ?_⟩
      have hw' : Hy w = some (.lst ((M.map fun (q : Nat) => (q : Int)).map V.int)) := by rw [hw]; simp [natsV]
      refine comp_sift (fun o => decide ((i : Int) < o)) hw' (by rw [List.length_map]; omega) (fun x Hz R hR => ?_) fun l2 H3 s3 hl2 => ?_
      · walk_at "rd"
        exact hR
      have g3 := s3.upd' (o := .lst (((M.map fun (q : Nat) => (q : Int)).filter fun o => decide ((i : Int) < o)).map V.int)) hl2
      refine ⟨l2, rfl, _, .inl (SqL.of upd_same), _, g3 _ _ hyl, Nat.lt_of_le_of_lt (show _ ≤ 1000 by rw [List.length_map]; omega) (by decide), L ++ [((((M.map fun (q : Nat) => (q : Int)).filter fun o => decide ((i : Int) < o)).length : Nat) : Int)], by simp [hL], (sy.trans g3).upd hl, ?_, fun g => ?_⟩
      · rw [upd_same]; simp
      · rw [hF g, List.range_succ, List.map_append]
        congr 1
        have : ((M.map fun (q : Nat) => (q : Int)).filter fun o => decide ((i : Int) < o)).length = flatN T' i := by
          rw [hw2 g, List.filter_map, List.length_map]
          unfold flatN
          refine filter_len_congr fun o ho => ?_
          rw [Bool.eq_iff_iff]
          simp
        rw [this]; rfl
    · walk_at "rd"
      exact (k2 g).1 _ sy
  · rintro σ Hx ⟨L, v2, v3, rfl, hL, sx, hxl, hF⟩
    walk_at "rd"
    refine ⟨_, .inl ⟨SqL.of hxl, fun u hu => ?_⟩⟩
    by_cases g : ∃ ns, TreeIs ns T'
    · exact k1 g u _ (sx.upd' hu) (by rw [upd_same, hF g]; rfl)
    · exact (k2 g).2 u L _ hL (sx.upd' hu) upd_same
theorem ok__law_tree_of {f : Addr} {fd : FuncData} (F : Fun K "_law_tree_of" "_law_tree_of" s__law_tree_of f fd)  (T : Txt K mg) : FnOk P w K mg base (CXE P w) 1 f fd ["row"] (sp__law_tree_of K mg) := by
  refine F.okX sc__law_tree_of (fun vs H Q E h => ?_) (fun cdv A outer s H vs Q E hr h => ?_)
  · obtain ⟨t, T, rfl, _⟩ := h; rfl
  obtain ⟨r, ns, rfl, hr0, hn, k1⟩ := h
  refine ⟨_, (pss_cons (ps_set (i := 1) sc__law_tree_of.nd rfl (Or.inl rfl) (pe_lst pa_nil))
      (pss_cons (ps_nox (ps_for PassesOwn.never rfl (pi_range1 rfl T.b_range (pa_cons (pe_callB (call_lenK (K := K) rfl) rfl T.b_len PySem.boot_len (pa_cons (pv 0) pa_nil)) pa_nil)) (pg_name (i := 2) sc__law_tree_of.nd rfl (Or.inr rfl)) (pss_cons (ps_set (i := 3) sc__law_tree_of.nd rfl (Or.inl rfl) (pe_slice sl_list (pe_compN ["k", "row", "place"] [none, some 0, some 2] rfl rfl rfl (pi_range1 rfl T.b_range (pa_cons (pv 2) pa_nil)) (fun _ _ _ _ _ => (pg_name (i := 0) (show (["k", "row", "place"] : List Str).Nodup from by decide +kernel) rfl (Or.inl rfl))) (fun _ _ _ _ _ => pifs_one (pt_cmpR op_le (pe_ix (r := rIxT K) ix_tup (pv 1) (pv 0) (fun _ _ => rfl)) (pe_ix (r := rIxT K) ix_tup (pv 1) (pv 2) (fun _ _ => rfl)) (nomark _))) (fun _ _ _ _ _ => (pv 0)) only_name) (po_some (pe_un un_neg pe_int)) po_none))
      (pss_cons (ps_set (i := 4) sc__law_tree_of.nd rfl (Or.inl rfl) (pe_slice sl_list (pe_compN ["k", "row", "place"] [none, some 0, some 2] rfl rfl rfl (pi_range2 rfl T.b_range (pa_cons (pe_op op_add (pv 2) pe_int) (pa_cons (pe_callB (call_lenK (K := K) rfl) rfl T.b_len PySem.boot_len (pa_cons (pv 0) pa_nil)) pa_nil))) (fun _ _ _ _ _ => (pg_name (i := 0) (show (["k", "row", "place"] : List Str).Nodup from by decide +kernel) rfl (Or.inl rfl))) (fun _ _ _ _ _ => pifs_one (pt_cmpR op_lt (pe_ix (r := rIxT K) ix_tup (pv 1) (pv 0) (fun _ _ => rfl)) (pe_ix (r := rIxT K) ix_tup (pv 1) (pv 2) (fun _ _ => rfl)) (nomark _))) (fun _ _ _ _ _ => (pv 0)) only_name) po_none (po_some pe_int)))
      (pss_cons (ps_if (PW.pt (pw_and (pt_cmpR (op_neD (K := K) rfl hr) (pv 3) (pe_lst pa_nil) (nomark _)) (pw_and (pt_cmpR (op_neD (K := K) rfl hr) (pv 4) (pe_lst pa_nil) (nomark _)) (pw_and1 (pt_cmpR op_gt (pe_ix ix_tup (pv 0) (pe_ix ix_list (pv 3) pe_int (fun _ _ => rfl)) (fun _ _ => rfl)) (pe_ix ix_tup (pv 0) (pe_ix ix_list (pv 4) pe_int (fun _ _ => rfl)) (fun _ _ => rfl)) (nomark _)))))) (pss_one (ps_set (i := 4) sc__law_tree_of.nd rfl (Or.inl rfl) (pe_lst pa_nil))) pss_nil)
      (pss_one (ps_expr (pe_bm PySem.F.plainAttrs_list PySem.F.slot_list_append PySem.F.type_list_append mt_append (pv 1) (pa_cons (pe_ix ix_list (pe_op op_cat (pe_op op_cat (pe_lst (pa_cons (pe_un un_neg pe_int) pa_nil)) (pv 3)) (pv 4)) (pe_un un_neg pe_int) (fun _ _ => rfl)) pa_nil)))))))))
      (pss_one (ps_ret (pe_callTy (call_tupK (K := K) rfl) rfl T.b_tuple bt_tuple (pa_cons (pv 1) pa_nil)))))), ?_⟩
  walk_at "rd"
  have eL : (ns.map V.int).length = ns.length := List.length_map ..
  refine ⟨Nat.zero_le _, fun l hl => ⟨_, .inr (SqT.of (((Same.refl H).upd hl) _ _ hr0)), by omega, by rw [eL]; omega, ?_⟩⟩
  have en : (((ns.map V.int).length : Nat) : Int).toNat = ns.length := by rw [eL]; omega
  rw [en]
  refine for_range (fun i σ Hx => ∃ (L : List Int) (v2 v3 v4 : Option V), σ = [some (.ref r), some (.ref l), v2, v3, v4] ∧ L.length = i ∧ Same H Hx ∧ Hx l = some (.lst (L.map V.int)) ∧ ∀ p, p < i → ElderIs (nth ns) ns.length p (L.getD p 0)) ⟨[], none, none, none, rfl, rfl, (Same.refl H).upd hl, upd_same, fun p hp => absurd hp (by omega)⟩ ?_ ?_
  · rintro i σ Hx hi ⟨L, v2, v3, v4, rfl, hL, sx, hxl, hF⟩
    have e0 : ((0 : Int) + (i : Int)) = (i : Int) := by omega
    rw [e0]
    have EE := elder_lists (f := nth ns) hi
    generalize hoa : ((List.range i).filter fun q => decide (nth ns q ≤ nth ns i)).getLast? = oa at EE
    generalize hob : ((List.range (ns.length - (i + 1))).filter fun j => decide (nth ns (i + 1 + j) < nth ns i)).head? = ob at EE
    have hqa : ∀ q, oa = some q → q < ns.length := fun q e => by
      rw [e] at hoa
      have := List.mem_range.mp (List.mem_filter.mp (List.mem_of_getLast? hoa)).1
      omega
    have hqb : ∀ j, ob = some j → i + 1 + j < ns.length := fun j e => by
      rw [e] at hob
      have := List.mem_range.mp (List.mem_filter.mp (List.mem_of_head? hob)).1
      omega
    refine seqR (fun σ Hy => ∃ a, σ = [some (.ref r), some (.ref l), some (.int (i : Int)), some (.ref a), v4] ∧ Same H Hy ∧ Hy l = some (.lst (L.map V.int)) ∧ Hy a = some (.lst (natsV oa.toList))) (fun R hR => ?_) ?_
    · walk_at "rd"
      refine ⟨by omega, by omega, ?_⟩
      have e1 : ((i : Int)).toNat = i := by omega
      rw [e1]
      refine comp_filt (n := i) (fun q => decide (nth ns q ≤ nth ns i)) (fun q => V.int ((q : Nat) : Int)) (Nat.lt_of_le_of_lt (show _ ≤ 1000 by omega) (by decide)) (fun j Hx s hj => hj) (fun Hx s => Nat.le_refl _) ?_ ?_
      · rintro j x Hy Hz hj s ⟨rfl, rfl⟩
        have e0 : ((0 : Int) + (j : Int)) = (j : Int) := by omega
        rw [e0]
        walk_at "rd"
        exact ⟨_, SqT.of ((sx.trans s) _ _ hr0), _, nth_at (by omega), _, SqT.of ((sx.trans s) _ _ hr0), _, nth_at hi, _, rfl, _, rfl, ite2 (fun h => CF.take hj (decide_eq_true h) rfl s) (fun h => CF.skip hj (decide_eq_false h) s)⟩
      · intro l1 H1 s1 hl1
        refine ⟨l1, rfl, _, SqL.of upd_same, fun a ha => hR _ _ ⟨a, rfl, ((sx.trans s1).upd' hl1).upd' ha, (((Same.refl H1).upd hl1).upd' ha) _ _ (s1 _ _ hxl), ?_⟩⟩
        rw [upd_same, cut_m1, drop_last', ← hoa, List.getLast?_map]
        cases (List.filter (fun q => decide (nth ns q ≤ nth ns i)) (List.range i)).getLast? <;> rfl
    clear sx hxl Hx
    rintro σ Hx ⟨a, rfl, sx, hxl, hxa⟩
    refine seqR (fun σ Hy => ∃ b, σ = [some (.ref r), some (.ref l), some (.int (i : Int)), some (.ref a), some (.ref b)] ∧ Same H Hy ∧ Hy l = some (.lst (L.map V.int)) ∧ Hy a = some (.lst (natsV oa.toList)) ∧ Hy b = some (.lst (natsV (ob.map fun j => i + 1 + j).toList))) (fun R hR => ?_) ?_
    · walk_at "rd"
      refine ⟨_, .inr (SqT.of (sx _ _ hr0)), by omega, by omega, by omega, by rw [eL]; omega, ?_⟩
      have e1 : ((((ns.map V.int).length : Nat) : Int) - ((i : Int) + 1)).toNat = ns.length - (i + 1) := by rw [eL]; omega
      rw [e1]
      refine comp_filt (n := ns.length - (i + 1)) (fun q => decide (nth ns (i + 1 + q) < nth ns i)) (fun q => V.int ((i + 1 + q : Nat) : Int)) (Nat.lt_of_le_of_lt (show _ ≤ 1000 by omega) (by decide)) (fun j Hx s hj => hj) (fun Hx s => Nat.le_refl _) ?_ ?_
      · rintro j x Hy Hz hj s ⟨rfl, rfl⟩
        have e0 : ((i : Int) + 1 + (j : Int)) = ((i + 1 + j : Nat) : Int) := by omega
        rw [e0]
        walk_at "rd"
        exact ⟨_, SqT.of ((sx.trans s) _ _ hr0), _, nth_at (by omega), _, SqT.of ((sx.trans s) _ _ hr0), _, nth_at hi, _, rfl, _, rfl, ite2 (fun h => CF.take hj (decide_eq_true h) rfl s) (fun h => CF.skip hj (decide_eq_false h) s)⟩
      · intro l1 H1 s1 hl1
        have g : Same Hx (upd H1 l1 (.lst (((List.range (ns.length - (i + 1))).filter fun q => decide (nth ns (i + 1 + q) < nth ns i)).map fun q => V.int ((i + 1 + q : Nat) : Int)))) := s1.upd' hl1
        refine ⟨l1, rfl, _, SqL.of upd_same, fun b hb => hR _ _ ⟨b, rfl, (sx.trans g).upd' hb, (g.upd' hb) _ _ hxl, (g.upd' hb) _ _ hxa, ?_⟩⟩
        rw [upd_same, cut_to1, take_one', ← hob, List.head?_map]
        cases (List.filter (fun q => decide (nth ns (i + 1 + q) < nth ns i)) (List.range (ns.length - (i + 1)))).head? <;> rfl
    clear sx hxl hxa Hx
    rintro σ Hx ⟨b, rfl, sx, hxl, hxa, hxb⟩
    refine seqR (fun σ Hy => ∃ (b : Addr) (B : List Nat), σ = [some (.ref r), some (.ref l), some (.int (i : Int)), some (.ref a), some (.ref b)] ∧ Same H Hy ∧ Hy l = some (.lst (L.map V.int)) ∧ Hy a = some (.lst (natsV oa.toList)) ∧ Hy b = some (.lst (natsV B)) ∧ B.length ≤ 1 ∧ ElderIs (nth ns) ns.length i (([-1] ++ (oa.toList ++ B).map fun (q : Nat) => (q : Int)).getLastD 0)) (fun R hR => ?_) ?_
    · have eqE : ∀ (Hx : Hp) (l q : Addr) (L : List Nat), Hx l = some (.lst (natsV L)) → Hx q = some (.lst []) → EqD K Hx 3 (V.ref l) (V.ref q) (decide (L = [])) := fun Hx l q L h1 h2 => by
        have hh := eqp_lst (n := 2) (K := K) (H := Hx) eqp_int (V.ref l) (V.ref q) (L.map fun (q : Nat) => (q : Int)) [] (isL_ints (SqL.of (by rw [h1]; simp [natsV, Function.comp_def]))) (isL_ints (ns := []) (SqL.of h2))
        have e : decide (L.map (fun (q : Nat) => (q : Int)) = []) = decide (L = []) := by cases L <;> simp
        rw [e] at hh; exact hh
      refine ifR (fun H1 => Same Hx H1 ∧ ∃ q j, oa = some q ∧ ob = some j ∧ nth ns (i + 1 + j) < nth ns q) (fun H1 => Same Hx H1 ∧ ∀ q j, oa = some q → ob = some j → nth ns q ≤ nth ns (i + 1 + j)) ?_ ?_ ?_
      · rintro H1 ⟨s1, q, j, rfl, rfl, hlt⟩
        walk_at "rd"
        refine ⟨Nat.zero_le _, fun c hc => hR _ _ ⟨c, [], rfl, (sx.trans s1).upd' hc, (s1.upd' hc) _ _ hxl, (s1.upd' hc) _ _ hxa, by rw [upd_same]; rfl, by simp, ?_⟩⟩
        simp only [if_neg (show ¬ nth ns q ≤ nth ns (i + 1 + j) by omega)] at EE
        simpa using EE
      · rintro H1 ⟨s1, hle⟩
        walk_at "rd"
        refine hR _ _ ⟨b, _, rfl, sx.trans s1, s1 _ _ hxl, s1 _ _ hxa, s1 _ _ hxb, by cases ob <;> simp, ?_⟩
        cases oa with
        | none => cases ob with
          | none => simpa using EE
          | some j => simpa using EE
        | some q => cases ob with
          | none => simpa using EE
          | some j =>
            simp only [if_pos (hle q j rfl rfl)] at EE
            simpa using EE
      · intro B hT hU
        walk_at "rd"
        refine ⟨Nat.zero_le _, fun c hc => ?_⟩
        have u1 := (Same.refl Hx).upd (o := .lst []) hc
        refine ⟨_, eqE _ _ _ _ (u1 _ _ hxa) upd_same, ?_⟩
        cases oa with
        | none => simpa using hU _ ⟨u1, fun q j e => nomatch e⟩
        | some q =>
          refine ite2 (fun _ => ⟨Nat.zero_le _, fun d hd => ?_⟩) fun z => absurd z (by simp)
          have u2 := u1.upd' (o := .lst []) hd
          refine ⟨_, eqE _ _ _ _ (u2 _ _ hxb) upd_same, ?_⟩
          cases ob with
          | none => simpa using hU _ ⟨u2, fun q j _ e => nomatch e⟩
          | some j =>
            refine ite2 (fun _ => ?_) fun z => absurd z (by simp)
            refine ⟨_, SqL.of (u2 _ _ hxa), _, rfl, _, _, rfl, SqT.of ((sx.trans u2) _ _ hr0), _, nth_at (hqa q rfl), _, SqL.of (u2 _ _ hxb), _, rfl, _, _, rfl, SqT.of ((sx.trans u2) _ _ hr0), _, nth_at (hqb j rfl), _, rfl, _, rfl, ?_⟩
            by_cases h : nth ns (i + 1 + j) < nth ns q
            · rw [decide_eq_true h]; exact hT _ ⟨u2, q, j, rfl, rfl, h⟩
            · rw [decide_eq_false h]; exact hU _ ⟨u2, fun q' j' e1 e2 => by cases e1; cases e2; omega⟩
    clear sx hxl hxa hxb Hx
    rintro σ Hx ⟨b, B, rfl, sx, hxl, hxa, hxb, hB, hE⟩
    walk_at "rd"
    have eLi : (L.map V.int).length = L.length := List.length_map ..
    refine ⟨tyV_list hxl, by decide, fun c1 h1 => ?_⟩
    have u1 := (Same.refl Hx).upd (o := .lst [V.int (-1)]) h1
    refine ⟨_, upd_same, _, u1 _ _ hxa, Nat.le_trans (show _ ≤ 1000 by rw [natsV_len]; cases oa <;> simp) (by decide), fun c2 h2 => ?_⟩
    have u2 := u1.upd' (o := .lst ([V.int (-1)] ++ natsV oa.toList)) h2
    refine ⟨_, upd_same, _, u2 _ _ hxb, Nat.le_trans (show _ ≤ 1000 by rw [List.length_append, natsV_len, natsV_len]; cases oa <;> simp <;> omega) (by decide), fun c3 h3 => ?_⟩
    have u3 := u2.upd' (o := .lst ([V.int (-1)] ++ natsV oa.toList ++ natsV B)) h3
    generalize hz : ([-1] ++ (oa.toList ++ B).map fun (q : Nat) => (q : Int)).getLastD 0 = z at hE
    refine ⟨_, SqL.of upd_same, V.int z, ?_, _, u3 _ _ hxl, Nat.lt_of_le_of_lt (show _ ≤ 1000 by omega) (by decide), L ++ [z], by simp [hL], (sx.trans u3).upd hl, by rw [upd_same]; simp, fun p hp => ?_⟩
    · have e : [V.int (-1)] ++ natsV oa.toList ++ natsV B = ([-1] ++ (oa.toList ++ B).map fun (q : Nat) => (q : Int)).map V.int := by simp [natsV, Function.comp_def]
      rw [e]
      refine last_at ?_
      rw [← hz, List.getLastD_eq_getLast?, List.getLast?_eq_some_getLast (by simp)]
      rfl
    · by_cases e : p = i
      · subst e
        have : (L ++ [z]).getD p 0 = z := by rw [← hL]; simp [List.getD_eq_getElem?_getD]
        rw [this]; exact hE
      · have : (L ++ [z]).getD p 0 = L.getD p 0 := by
          simp only [List.getD_eq_getElem?_getD]
          rw [List.getElem?_append_left (by omega)]
        rw [this]; exact hF p (by omega)
  · rintro σ Hx ⟨L, v2, v3, v4, rfl, hL, sx, hxl, hF⟩
    walk_at "rd"
    exact ⟨_, .inl ⟨SqL.of hxl, fun u hu => k1 u L _ ⟨hL, hF⟩ (sx.upd' hu) upd_same⟩⟩
theorem ok__law_is_tree {f : Addr} {fd : FuncData} (F : Fun K "_law_is_tree" "_law_is_tree" s__law_is_tree f fd) (G__law_flats : Callee P w K mg base "_law_flats" 2 ["tree"] (sp__law_flats K mg)) (G__law_tree_of : Callee P w K mg base "_law_tree_of" 1 ["row"] (sp__law_tree_of K mg)) (T : Txt K mg) : FnOk P w K mg base (CXE P w) 3 f fd ["tree"] (sp__law_is_tree K mg) := by
  refine F.okX sc__law_is_tree (fun vs H Q E h => ?_) (fun cdv A outer s H vs Q E hr h => ?_)
  · obtain ⟨t, T, rfl, _⟩ := h; rfl
  obtain ⟨t, T', rfl, ht, hn, k1, k2⟩ := h
  refine ⟨_, (pss_cons (ps_if (pt_cmpR op_gt (pe_callB (call_lenK (K := K) rfl) rfl T.b_len PySem.boot_len (pa_cons (pv 0) pa_nil)) pe_int (nomark _)) (pss_one (ps_ret pe_bl)) pss_nil)
      (pss_cons (ps_set (i := 1) sc__law_is_tree.nd rfl (Or.inl rfl) (pe_callF G__law_flats (hr.mono (by decide)) rfl passE (pa_cons (pv 0) pa_nil)))
      (pss_one (ps_ret (pe_and (pe_cmpR op_notN (pv 1) pe_non (nomark _)) (pe_one (pe_cmpR (op_eqD (K := K) rfl hr) (pe_callF G__law_tree_of (hr.mono (by decide)) rfl passE (pa_cons (pv 1) pa_nil)) (pv 0) (nomark _)))))))), ?_⟩
  walk_at "rd"
  have eL : (T'.map V.int).length = T'.length := List.length_map ..
  have eqT : ∀ (Hx : Hp) (t t' : Addr) (es fs : List Int), Hx t = some (.tup (es.map V.int)) → Hx t' = some (.tup (fs.map V.int)) → EqD K Hx 3 (V.ref t) (V.ref t') (decide (es = fs)) := fun Hx t t' es fs h1 h2 => eqp_tup (n := 2) eqp_int _ _ es fs (isT_ints (SqT.of h1)) (isT_ints (SqT.of h2))
  refine ⟨_, .inr (SqT.of ht), ite2 (fun z => k2 (fun g => ?_) _ (Same.refl H)) fun z => ⟨t, T', rfl, ht, hn, fun g u H1 s1 hu => ?_, fun g => ⟨fun H1 s1 => ?_, fun u L H1 hL s1 hu => ?_⟩⟩⟩
  · rw [eL] at z; have := g.1; omega
  · rw [eL] at z
    refine ite2 (fun _ => ⟨u, flatI T', rfl, hu, by rw [flatI_len]; omega, fun t2 es H2 hT2 s2 ht2 => ⟨t2, rfl, _, eqT _ _ _ _ _ ht2 ((s1.trans s2) _ _ ht), ?_⟩⟩) fun y => absurd (fun h => nomatch h) y
    obtain ⟨ns, hT⟩ := g
    rw [decide_eq_true (hT2.unique (flat_tree hT))]
    exact k1 ⟨by omega, ns, hT⟩ _ (s1.trans s2)
  · exact ite2 (fun y => absurd rfl y) fun _ => k2 (fun gg => g gg.2) _ s1
  · refine ite2 (fun _ => ⟨u, L, rfl, hu, by omega, fun t2 es H2 hT2 s2 ht2 => ⟨t2, rfl, _, eqT _ _ _ _ _ ht2 ((s1.trans s2) _ _ ht), ?_⟩⟩) fun y => absurd (fun h => nomatch h) y
    have : ¬ es = T' := fun e => g ⟨L, e ▸ hT2⟩
    rw [decide_eq_false this]
    exact k2 (fun gg => g gg.2) _ (s1.trans s2)
theorem ok_fences_of {f : Addr} {fd : FuncData} (F : Fun K "fences_of" "fences_of" s_fences_of f fd) (G_way_up : Callee P w K mg base "way_up" 1 ["tree", "place"] (sp_way_up K mg)) (T : Txt K mg) : FnOk P w K mg base (CXE P w) 2 f fd ["tree"] (sp_fences_of K mg) := by
  refine F.okX sc_fences_of (fun vs H Q E h => ?_) (fun cdv A outer s H vs Q E hr h => ?_)
  · obtain ⟨t, ns, T, rfl, _⟩ := h; rfl
  obtain ⟨t, ns, T', rfl, ht, hT, hn, k1⟩ := h
  refine ⟨_, (pss_cons (ps_set (i := 1) sc_fences_of.nd rfl (Or.inl rfl) (pe_lst pa_nil))
      (pss_cons (ps_nox (ps_for PassesOwn.never rfl (pi_range1 rfl T.b_range (pa_cons (pe_callB (call_lenK (K := K) rfl) rfl T.b_len PySem.boot_len (pa_cons (pv 0) pa_nil)) pa_nil)) (pg_name (i := 2) sc_fences_of.nd rfl (Or.inr rfl)) (pss_cons (ps_set (i := 3) sc_fences_of.nd rfl (Or.inl rfl) (pe_callF G_way_up (hr.mono (by decide)) rfl passE (pa_cons (pv 0) (pa_cons (pv 2) pa_nil))))
      (pss_cons (ps_set (i := 4) sc_fences_of.nd rfl (Or.inl rfl) (pe_maxD (K := K) rfl rfl rfl T.b_max (pa_cons (pe_compN ["elder", "place"] [none, some 2] rfl rfl rfl (pi_list (pv 3)) (fun _ _ _ _ _ => (pg_name (i := 0) (show (["elder", "place"] : List Str).Nodup from by decide +kernel) rfl (Or.inl rfl))) (fun _ _ _ _ _ => pifs_one (pt_cmpR op_lt (pv 0) (pv 1) (nomark _))) (fun _ _ _ _ _ => (pv 0)) only_name) pa_nil) (pk_cons (pe_un un_neg pe_int) pk_nil)))
      (pss_cons (ps_set (i := 5) sc_fences_of.nd rfl (Or.inl rfl) (pe_minD (K := K) rfl rfl rfl T.b_min (pa_cons (pe_compN ["elder", "place"] [none, some 2] rfl rfl rfl (pi_list (pv 3)) (fun _ _ _ _ _ => (pg_name (i := 0) (show (["elder", "place"] : List Str).Nodup from by decide +kernel) rfl (Or.inl rfl))) (fun _ _ _ _ _ => pifs_one (pt_cmpR op_gt (pv 0) (pv 1) (nomark _))) (fun _ _ _ _ _ => (pv 0)) only_name) pa_nil) (pk_cons (pe_callB (call_lenK (K := K) rfl) rfl T.b_len PySem.boot_len (pa_cons (pv 0) pa_nil)) pk_nil)))
      (pss_one (ps_expr (pe_bm PySem.F.plainAttrs_list PySem.F.slot_list_append PySem.F.type_list_append mt_append (pv 1) (pa_cons (pe_tup (pa_cons (pv 4) (pa_cons (pv 5) pa_nil))) pa_nil)))))))))
      (pss_one (ps_ret (pv 1))))), ?_⟩
  walk_at "rd"
  have eT : T'.length = ns.length := hT.1
  have eL : (T'.map V.int).length = T'.length := List.length_map ..
  refine ⟨Nat.zero_le _, fun p hp => ?_⟩
  have s0 : Same H (upd H p (.lst [])) := (Same.refl H).upd hp
  refine ⟨_, .inr (SqT.of (s0 _ _ ht)), by omega, by rw [eL]; omega, ?_⟩
  have en : (((T'.map V.int).length : Nat) : Int).toNat = ns.length := by rw [eL]; omega
  rw [en]
  have h0 : PairsAt (upd H p (.lst [])) p 0 (fun p => (fenA (nth ns) p, fenB (nth ns) ns.length p)) := ⟨[], upd_same, rfl, fun j q hq => by simp at hq⟩
  generalize upd H p (.lst []) = H0 at s0 h0 ⊢
  refine for_range (fun i σ Hx => ∃ v2 v3 v4 v5, σ = [some (.ref t), some (.ref p), v2, v3, v4, v5] ∧ PairsAt Hx p i (fun p => (fenA (nth ns) p, fenB (nth ns) ns.length p)) ∧ Same H Hx) ⟨_, _, _, _, rfl, h0, s0⟩ ?_ ?_
  · rintro i σ Hx hi ⟨v2, v3, v4, v5, rfl, hP, sx⟩
    have e0 : ((0 : Int) + (i : Int)) = (i : Int) := by omega
    rw [e0]
    have hpi : i < ns.length := hi
    have hw1 : (wayI T' i).length ≤ 1000 := by simp only [wayI, List.length_map]; exact Nat.le_trans (wayF_len _ _ _) (by omega)
    refine seqR (fun σ Hy => ∃ w : Addr, σ = [some (.ref t), some (.ref p), some (.int (i : Int)), some (.ref w), v4, v5] ∧ Hy w = some (.lst ((wayI T' i).map V.int)) ∧ PairsAt Hy p i (fun p => (fenA (nth ns) p, fenB (nth ns) ns.length p)) ∧ Same H Hy) (fun R hR => ?_) ?_
    · walk_at "rd"
      exact ⟨t, T', i, rfl, sx _ _ ht, by omega, by omega, fun w H1 hw s1 h1 => hR _ _ ⟨w, rfl, h1, hP.same s1, sx.trans s1⟩⟩
    rintro σ Hy ⟨w, rfl, hw, hP1, sy⟩
    refine seqR (fun σ Hz => σ = [some (.ref t), some (.ref p), some (.int (i : Int)), some (.ref w), some (.int (fenA (nth ns) i)), v5] ∧ Hz w = some (.lst ((wayI T' i).map V.int)) ∧ PairsAt Hz p i (fun p => (fenA (nth ns) p, fenB (nth ns) ns.length p)) ∧ Same H Hz) (fun R hR => ?_) ?_
    · walk_at "rd"
      refine ⟨⟨_, SqL.of hw⟩, comp_sift (fun o => decide (o < (i : Int))) hw hw1 (fun x Hy R hR => ?_) fun l H2 s2 hl => ?_⟩
      · walk_at "rd"
        exact hR
      have FA := fenA_max hT hpi
      have g := s2.upd' (o := .lst (((wayI T' i).filter fun o => decide (o < (i : Int))).map V.int)) hl
      refine ⟨l, rfl, _, SqL.of upd_same, fun e => ?_, fun hne m hm hmax => ?_⟩
      · rw [← FA.1 e]
        exact hR _ _ ⟨rfl, g _ _ hw, hP1.same g, sy.trans g⟩
      · rw [FA.2 hne m hm hmax]
        exact hR _ _ ⟨rfl, g _ _ hw, hP1.same g, sy.trans g⟩
    clear hw hP1 sy Hy
    rintro σ Hy ⟨rfl, hw, hP1, sy⟩
    refine seqR (fun σ Hz => σ = [some (.ref t), some (.ref p), some (.int (i : Int)), some (.ref w), some (.int (fenA (nth ns) i)), some (.int (fenB (nth ns) ns.length i))] ∧ PairsAt Hz p i (fun p => (fenA (nth ns) p, fenB (nth ns) ns.length p)) ∧ Same H Hz) (fun R hR => ?_) ?_
    · walk_at "rd"
      refine ⟨⟨_, SqL.of hw⟩, comp_sift (fun o => decide ((i : Int) < o)) hw hw1 (fun x Hy R hR => ?_) fun l H2 s2 hl => ?_⟩
      · walk_at "rd"
        exact hR
      have FB := fenB_min hT hpi
      have g := s2.upd' (o := .lst (((wayI T' i).filter fun o => decide ((i : Int) < o)).map V.int)) hl
      refine ⟨_, .inr (SqT.of ((sy.trans g) _ _ ht)), l, rfl, _, SqL.of upd_same, fun e => ?_, fun hne m hm hmin => ?_⟩
      · rw [eL, eT, ← FB.1 e]
        exact hR _ _ ⟨rfl, hP1.same g, sy.trans g⟩
      · rw [FB.2 hne m hm hmin]
        exact hR _ _ ⟨rfl, hP1.same g, sy.trans g⟩
    clear hw hP1 sy Hy
    rintro σ Hy ⟨rfl, hP1, sy⟩
    walk_at "rd"
    obtain ⟨qs, hq1, hq2, hq3⟩ := id hP1
    refine ⟨tyV_list hq1, by decide, fun q hq => ?_⟩
    have g := (Same.refl Hy).upd (o := .tup [.int (fenA (nth ns) i), .int (fenB (nth ns) ns.length i)]) hq
    obtain ⟨xs, hx1, hx2, hx3⟩ := (hP1.same g).push (q := q) upd_same
    have zp : H p = none := hp
    refine ⟨xs, hx1, Nat.lt_of_le_of_lt (show _ ≤ 1000 by omega) (by decide), hx3, fun b o z => ?_⟩
    rw [upd_ne (ne_of_none z zp)]
    exact (sy.trans g) b o z
  · rintro σ Hx ⟨v2, v3, v4, v5, rfl, hP, sx⟩
    walk_at "rd"
    exact k1 p Hx sx hP

theorem ok_running_sums {f : Addr} {fd : FuncData} (F : Fun K "running_sums" "running_sums" s_running_sums f fd)  (T : Txt K mg) : FnOk P w K mg base (CXE P w) 1 f fd ["numbers"] (sp_running_sums K mg) := by
  refine F.okX sc_running_sums (fun vs H Q E h => ?_) (fun cdv A outer s H vs Q E hr h => ?_)
  · obtain ⟨a, ns, rfl, _⟩ := h; rfl
  obtain ⟨a, ns, rfl, hS, hl, k1⟩ := h
  refine ⟨_, (pss_cons (ps_set (i := 1) sc_running_sums.nd rfl (Or.inl rfl) (pe_lst pa_nil))
      (pss_cons (ps_set (i := 2) sc_running_sums.nd rfl (Or.inl rfl) pe_int)
      (pss_cons (ps_nox (ps_for PassesOwn.never rfl (pi_list (pv 0)) (pg_name (i := 3) sc_running_sums.nd rfl (Or.inl rfl)) (pss_cons (ps_aug (i := 2) sc_running_sums.nd rfl (Or.inl rfl) (pv 3) ip_add)
      (pss_one (ps_expr (pe_bm PySem.F.plainAttrs_list PySem.F.slot_list_append PySem.F.type_list_append mt_append (pv 1) (pa_cons (pv 2) pa_nil)))))))
      (pss_one (ps_ret (pv 1)))))), ?_⟩
  walk_at "rd"
  refine ⟨Nat.zero_le _, fun p hp => ⟨⟨_, ((Same.refl H).upd hp).seq hS⟩, for_list (K := K) (a := a) (xs := ns.map V.int) (fun i σ H' => ∃ v, σ = [some (.ref a), some (.ref p), some (.int (ns.take i).sum), v] ∧ Same H H' ∧ H' p = some (.lst ((sumsFrom 0 (ns.take i)).map V.int)))
    ⟨none, rfl, (Same.refl H).upd hp, upd_same⟩ (fun i σ H' _ ⟨_, _, s, _⟩ => s.seq hS) ?_ ?_⟩⟩
  · rintro i y σ H' hi ⟨v, rfl, hs, hq⟩
    obtain ⟨z, hz, rfl⟩ : ∃ z, ns[i]? = some z ∧ y = V.int z := by
      rw [List.getElem?_map] at hi
      cases e : ns[i]? with
      | none => rw [e] at hi; cases hi
      | some z => rw [e] at hi; exact ⟨z, rfl, (Option.some.inj hi).symm⟩
    have hil : i < ns.length := (List.getElem?_eq_some_iff.mp hz).1
    have et : ns.take (i + 1) = ns.take i ++ [z] := by rw [List.take_add_one, hz]; rfl
    walk_at "rd"
    refine ⟨tyV_list hq, _, hq, ?_, ?_, hs.upd hp, ?_⟩
    · rw [List.length_map, sumsFrom_length, List.length_take]
      exact Nat.lt_of_le_of_lt (Nat.le_trans (Nat.min_le_right _ _) hl) (by decide)
    · rw [et]; simp
    · rw [upd_same, et, sumsFrom_append]; simp [sumsFrom]
  · rintro σ H' ⟨v, rfl, hs, hq⟩
    walk_at "rd"
    rw [List.length_map, List.take_length] at hq
    exact k1 p H' hs hq
theorem ok_one_more {f : Addr} {fd : FuncData} (F : Fun K "one_more" "one_more" s_one_more f fd) (G_running_sums : Callee P w K mg base "running_sums" 1 ["numbers"] (sp_running_sums K mg)) (T : Txt K mg) : FnOk P w K mg base (CXE P w) 2 f fd ["ends"] (sp_one_more K mg) := by
  refine F.okX sc_one_more (fun vs H Q E h => ?_) (fun cdv A outer s H vs Q E hr h => ?_)
  · obtain ⟨a, ns, rfl, _⟩ := h; rfl
  obtain ⟨a, ns, rfl, hS, hl, hne, k1⟩ := h
  refine ⟨_, (pss_cons (ps_set (i := 1) sc_one_more.nd rfl (Or.inl rfl) (pe_sliceR (K := K) rfl (pe_callF G_running_sums (hr.mono (by decide)) rfl passE (pa_cons (pe_sliceR (K := K) rfl (pv 0) (pe_un un_neg pe_int)) pa_nil)) (pe_un un_neg pe_int)))
      (pss_one (ps_ret (pe_op op_cat (pe_slice sl_list (pv 1) po_none (po_some pe_int)) (pe_slice sl_list (pv 1) po_none (po_some (pe_un un_neg pe_int))))))), ?_⟩
  walk_at "rd"
  refine ⟨_, hS, fun p hp => ⟨p, ns.reverse, rfl, SqL.of (by rw [upd_same, List.map_reverse]), by simpa using hl, fun l H1 s1 h1 => ⟨l, rfl, _, SqL.of h1, fun p1 hp1 => ⟨_, SqL.of upd_same, fun p2 hp2 => ⟨_, SqL.of ((Same.refl _).upd' hp2 _ _ upd_same), fun p3 hp3 =>
    ⟨_, (Same.refl _).upd' hp3 _ _ upd_same, _, upd_same, ?_, fun p4 hp4 => k1 p4 _ ((((((Same.refl H).upd hp).trans s1).upd' hp1).upd' hp2).upd' hp3 |>.upd' hp4) ?_⟩⟩⟩⟩⟩⟩
  · rw [cut_to1, cut_but1]
    simp only [List.length_take, List.length_reverse, List.length_map, sumsFrom_length]
    exact Nat.le_trans (show _ ≤ 200 by omega) (by decide)
  · rw [upd_same, cut_to1, cut_but1, ← List.map_reverse, suf_rev, List.length_map, suf_length, ← List.map_take, ← List.map_take, ← List.map_append, stepE_cut hne]
theorem ok_climbs {f : Addr} {fd : FuncData} (F : Fun K "climbs" "climbs" s_climbs f fd) (G_one_more : Callee P w K mg base "one_more" 2 ["ends"] (sp_one_more K mg)) (T : Txt K mg) : FnOk P w K mg base (CXE P w) 3 f fd ["n", "most"] (sp_climbs K mg) := by
  refine F.okX sc_climbs (fun vs H Q E h => ?_) (fun cdv A outer s H vs Q E hr h => ?_)
  · obtain ⟨n, most, rfl, _⟩ := h; rfl
  obtain ⟨n, most, rfl, h1, h2, k1⟩ := h
  refine ⟨_, (pss_cons (ps_set (i := 2) sc_climbs.nd rfl (Or.inl rfl) (pe_op op_cat (pe_lst (pa_cons pe_int pa_nil)) (pe_op op_rep (pe_lst (pa_cons pe_int pa_nil)) (pv 1))))
      (pss_cons (ps_nox (ps_for PassesOwn.never rfl (pi_range1 rfl T.b_range (pa_cons (pe_op op_sub (pv 0) pe_int) pa_nil)) (pg_name (i := 3) sc_climbs.nd rfl (Or.inl rfl)) (pss_one (ps_set (i := 2) sc_climbs.nd rfl (Or.inl rfl) (pe_callF G_one_more (hr.mono (by decide)) rfl passE (pa_cons (pv 2) pa_nil))))))
      (pss_one (ps_ret (pv 2))))), ?_⟩
  walk_at "rd"
  refine ⟨by decide, fun p hp => ⟨by decide, fun p1 hp1 => ⟨_, upd_same, by omega, by omega, ?_, fun p2 hp2 => ⟨_, (((Same.refl _).upd' hp1).upd' hp2) _ _ upd_same, _, upd_same, ?_, fun p3 hp3 => ⟨by omega, by omega, for_range (fun i σ H' => ∃ l v, σ = [some (.int n), some (.int most), some (.ref l), v] ∧ Same H H' ∧ H' l = some (.lst ((endsW most i).map V.int)))
    ⟨p3, none, rfl, ((((Same.refl H).upd hp).upd' hp1).upd' hp2).upd' hp3, ?_⟩ ?_ ?_⟩⟩⟩⟩⟩
  · exact Nat.le_trans (show _ ≤ 40 by simp; omega) (by decide)
  · exact Nat.le_trans (show _ ≤ 41 by simp; omega) (by decide)
  · rw [upd_same]
    simp [endsW]
  · rintro i σ H' hi ⟨l, v, rfl, hs, hq⟩
    walk_at "rd"
    refine ⟨l, endsW most i, rfl, SqL.of hq, by rw [endsW_length]; omega, fun z => ?_, fun l2 H2 s2 h2 => ⟨l2, rfl, hs.trans s2, h2⟩⟩
    have := endsW_length most i
    rw [z] at this; cases this
  · rintro σ H' ⟨l, v, rfl, hs, hq⟩
    walk_at "rd"
    have e : ((n : Int) - 1).toNat = n - 1 := by omega
    rw [e] at hq
    exact k1 l H' hs hq
theorem ok_many_flat {f : Addr} {fd : FuncData} (F : Fun K "many_flat" "many_flat" s_many_flat f fd) (G_need_count : Callee P w K mg base "need_count" 1 ["n"] (sp_need_count K mg)) (G_climbs : Callee P w K mg base "climbs" 3 ["n", "most"] (sp_climbs K mg)) (T : Txt K mg) : FnOk P w K mg base (CXE P w) 4 f fd ["n", "most"] (sp_many_flat K mg) := by
  refine F.okX sc_many_flat (fun vs H Q E h => ?_) (fun cdv A outer s H vs Q E hr h => ?_)
  · obtain ⟨n, most, rfl, _⟩ := h; rfl
  obtain ⟨n, most, rfl, k1, k2⟩ := h
  refine ⟨_, (pss_cons (ps_expr (pe_callF G_need_count (hr.mono (by decide)) rfl pass_on (pa_cons (pv 0) pa_nil)))
      (pss_cons (ps_if (pt_cmpR op_eq (pv 0) pe_int (nomark _)) (pss_one (ps_ret pe_int)) pss_nil)
      (pss_one (ps_ret (pe_ifExp (pt_cmpR op_ge (pv 1) pe_int (nomark _)) (pe_callB (call_sum rfl) rfl T.b_sum bt_sum (pa_cons (pe_callF G_climbs (hr.mono (by decide)) rfl passE (pa_cons (pv 0) (pa_cons (pe_callB (call_min2 rfl) rfl T.b_min bt_min (pa_cons (pv 1) (pa_cons (pe_op op_sub (pv 0) pe_int) pa_nil))) pa_nil))) pa_nil)) pe_int))))), ?_⟩
  walk_at "rd"
  refine ⟨n, rfl, fun hn => ?_, k2⟩
  have k3 := k1 hn
  unfold flatV at k3
  walk_at "rd"
  by_cases h0 : n = 0
  · rw [if_pos h0] at k3 ⊢
    exact k3 H (Same.refl H)
  · rw [if_neg h0] at k3 ⊢
    by_cases h1 : 0 ≤ most
    · rw [if_pos h1] at k3 ⊢
      have e : (if n - 1 < most then n - 1 else most) = (((min most (n - 1)).toNat : Nat) : Int) := by
        split <;> omega
      obtain ⟨m, rfl⟩ := Int.eq_ofNat_of_zero_le hn.1
      refine ⟨m, _, by rw [e], by omega, by omega, fun l H' hs hq => ⟨l, rfl, _, SqL.of hq, k3 H' hs⟩⟩
    · rw [if_neg h1] at k3 ⊢
      exact k3 H (Same.refl H)

theorem ok_many_trees {f : Addr} {fd : FuncData} (F : Fun K "many_trees" "many_trees" s_many_trees f fd) (G_many_flat : Callee P w K mg base "many_flat" 4 ["n", "most"] (sp_many_flat K mg)) (T : Txt K mg) : FnOk P w K mg base (CXE P w) 5 f fd ["n"] (sp_many_trees K mg) := by
  refine F.okX sc_many_trees (fun vs H Q E h => ?_) (fun cdv A outer s H vs Q E hr h => ?_)
  · obtain ⟨n, rfl, _⟩ := h; rfl
  obtain ⟨n, rfl, k1, k2⟩ := h
  refine ⟨_, (pss_one (ps_ret (pe_callF G_many_flat (hr.mono (by decide)) rfl pass_on (pa_cons (pv 0) (pa_cons (pv 0) pa_nil))))), ?_⟩
  walk_at "rd"
  exact ⟨n, n, rfl, k1, k2⟩
theorem ok_many_open {f : Addr} {fd : FuncData} (F : Fun K "many_open" "many_open" s_many_open f fd) (G_need_count : Callee P w K mg base "need_count" 1 ["n"] (sp_need_count K mg)) (G_climbs : Callee P w K mg base "climbs" 3 ["n", "most"] (sp_climbs K mg)) (T : Txt K mg) : FnOk P w K mg base (CXE P w) 4 f fd ["n", "k"] (sp_many_open K mg) := by
  refine F.okX sc_many_open (fun vs H Q E h => ?_) (fun cdv A outer s H vs Q E hr h => ?_)
  · obtain ⟨n, k, rfl, _⟩ := h; rfl
  obtain ⟨n, k, rfl, k1, k2⟩ := h
  refine ⟨_, (pss_cons (ps_expr (pe_callF G_need_count (hr.mono (by decide)) rfl pass_on (pa_cons (pv 0) pa_nil)))
      (pss_cons (ps_if (pt_cmpR op_eq (pv 0) pe_int (nomark _)) (pss_one (ps_ret (pe_ifExp (pt_cmpR op_eq (pv 1) pe_int (nomark _)) pe_int pe_int))) pss_nil)
      (pss_one (ps_ret (pe_ifExp (pt_chain op_le op_le pe_int (pv 1) (pv 0)) (pe_ix ix_list (pe_callF G_climbs (hr.mono (by decide)) rfl passE (pa_cons (pv 0) (pa_cons (pe_op op_sub (pv 0) pe_int) pa_nil))) (pe_op op_sub (pv 1) pe_int) (fun _ _ => rfl)) pe_int))))), ?_⟩
  walk_at "rd"
  refine ⟨n, rfl, fun hn => ?_, k2⟩
  have k3 := k1 hn
  unfold openV at k3
  walk_at "rd"
  by_cases h0 : n = 0
  · rw [if_pos h0] at k3 ⊢
    by_cases h1 : k = 0
    · rw [if_pos h1] at k3 ⊢; exact k3 H (Same.refl H)
    · rw [if_neg h1] at k3 ⊢; exact k3 H (Same.refl H)
  · rw [if_neg h0] at k3 ⊢
    by_cases h1 : 1 ≤ k
    · by_cases h2 : k ≤ n
      · rw [if_pos ⟨h1, h2⟩] at k3
        rw [if_pos h1, if_pos h2]
        obtain ⟨m, rfl⟩ := Int.eq_ofNat_of_zero_le hn.1
        have em : ((m : Int) - 1) = ((m - 1 : Nat) : Int) := by omega
        refine ⟨m, m - 1, by rw [em], by omega, by omega, fun l H' hs hq => ⟨l, rfl, _, SqL.of hq, ?_⟩⟩
        have e2 : (m : Int).toNat - 1 = m - 1 := by omega
        rw [tn_ends] at hq ⊢
        have hlt : (k - 1).toNat < ((tn (m - 1)).map V.int).length := by rw [List.length_map, tn_length]; omega
        refine ⟨_, atI_at (j := (k - 1).toNat) (by omega) hlt, ?_⟩
        have k4 := k3 H' hs
        rw [e2] at k4
        have e3 : ((tn (m - 1)).map V.int)[(k - 1).toNat] = V.int ((tn (m - 1)).getD (k - 1).toNat 0) := by
          have : (k - 1).toNat < (tn (m - 1)).length := by simpa using hlt
          rw [List.getElem_map, List.getD_eq_getElem?_getD, List.getElem?_eq_getElem this]; rfl
        rw [e3]; exact k4
      · rw [if_neg (fun z => h2 z.2)] at k3
        rw [if_pos h1, if_neg h2]; exact k3 H (Same.refl H)
    · rw [if_neg (fun z => h1 z.1)] at k3
      rw [if_neg h1]; exact k3 H (Same.refl H)

theorem ok_choices {f : Addr} {fd : FuncData} (F : Fun K "choices" "choices" s_choices f fd)  (T : Txt K mg) : FnOk P w K mg base (CXE P w) 1 f fd ["n", "k"] (sp_choices K mg) := by
  refine F.okX sc_choices (fun vs H Q E h => ?_) (fun cdv A outer s H vs Q E hr h => ?_)
  · obtain ⟨n, k, rfl, _⟩ := h; rfl
  obtain ⟨n, k, rfl, h0, h1, h2, h3, k1⟩ := h
  refine ⟨_, (pss_cons (ps_set (i := 2) sc_choices.nd rfl (Or.inl rfl) pe_int)
      (pss_cons (ps_nox (ps_for PassesOwn.never rfl (pi_range1 rfl T.b_range (pa_cons (pv 1) pa_nil)) (pg_name (i := 3) sc_choices.nd rfl (Or.inl rfl)) (pss_one (ps_set (i := 2) sc_choices.nd rfl (Or.inl rfl) (pe_op op_fdivM (pe_op op_mulX (pv 2) (pe_op op_sub (pv 0) (pv 3))) (pe_op op_add (pv 3) pe_int))))))
      (pss_one (ps_ret (pv 2))))), ?_⟩
  walk_at "rd"
  refine ⟨by omega, by omega, for_range (fun i σ H' => ∃ v, σ = [some (.int n), some (.int k), some (.int (chI n i)), v] ∧ H' = H) ⟨_, rfl, rfl⟩ ?_ ?_⟩
  · rintro i σ H' hi ⟨v, rfl, rfl⟩
    walk_at "rd"
    refine ⟨mul_r (by omega) (by omega), ⟨by omega, by omega⟩, ?_⟩
    simp [chI]
  · rintro σ H' ⟨v, rfl, rfl⟩
    walk_at "rd"
    exact k1
theorem ok_many_falls {f : Addr} {fd : FuncData} (F : Fun K "many_falls" "many_falls" s_many_falls f fd) (G_need_count : Callee P w K mg base "need_count" 1 ["n"] (sp_need_count K mg)) (G_choices : Callee P w K mg base "choices" 1 ["n", "k"] (sp_choices K mg)) (T : Txt K mg) : FnOk P w K mg base (CXE P w) 2 f fd ["n", "k"] (sp_many_falls K mg) := by
  refine F.okX sc_many_falls (fun vs H Q E h => ?_) (fun cdv A outer s H vs Q E hr h => ?_)
  · obtain ⟨n, k, rfl, _⟩ := h; rfl
  obtain ⟨n, k, rfl, k1, k2⟩ := h
  refine ⟨_, (pss_cons (ps_expr (pe_callF G_need_count (hr.mono (by decide)) rfl pass_on (pa_cons (pv 0) pa_nil)))
      (pss_cons (ps_if (pt_cmpR op_eq (pv 0) pe_int (nomark _)) (pss_one (ps_ret (pe_ifExp (pt_cmpR op_eq (pv 1) pe_int (nomark _)) pe_int pe_int))) pss_nil)
      (pss_one (ps_ret (pe_ifExp (pt_chain op_le op_lt pe_int (pv 1) (pv 0)) (pe_op op_fdivM (pe_op op_mulX (pe_callF G_choices (hr.mono (by decide)) rfl passE (pa_cons (pv 0) (pa_cons (pv 1) pa_nil))) (pe_callF G_choices (hr.mono (by decide)) rfl passE (pa_cons (pv 0) (pa_cons (pe_op op_add (pv 1) pe_int) pa_nil)))) (pv 0)) pe_int))))), ?_⟩
  walk_at "rd"
  refine ⟨n, rfl, fun hn => ?_, k2⟩
  have k3 := k1 hn
  unfold fallsV at k3
  walk_at "rd"
  by_cases h0 : n = 0
  · rw [if_pos h0] at k3 ⊢
    by_cases h1 : k = 0
    · rw [if_pos h1] at k3 ⊢; exact k3
    · rw [if_neg h1] at k3 ⊢; exact k3
  · rw [if_neg h0] at k3 ⊢
    by_cases h1 : 0 ≤ k
    · by_cases h2 : k < n
      · rw [if_pos ⟨h1, h2⟩] at k3
        rw [if_pos h1, if_pos h2]
        refine ⟨n, k, rfl, hn.1, hn.2, h1, by omega, n, k + 1, rfl, hn.1, hn.2, by omega, by omega, _, rfl, _, rfl, ?_, ⟨by omega, by omega⟩, k3⟩
        obtain ⟨m, rfl⟩ := Int.eq_ofNat_of_zero_le hn.1
        have b := chI_bits m (by omega) k.toNat (by omega)
        exact mul_l b.1 b.2
      · rw [if_neg (fun z => h2 z.2)] at k3
        rw [if_pos h1, if_neg h2]; exact k3
    · rw [if_neg (fun z => h1 z.1)] at k3
      rw [if_neg h1]; exact k3

theorem ok_drops_of {f : Addr} {fd : FuncData} (F : Fun K "drops_of" "drops_of" s_drops_of f fd) (G_need_tree : Callee P w K mg base "need_tree" 4 ["tree"] (sp_need_tree K mg)) (G_fences_of : Callee P w K mg base "fences_of" 2 ["tree"] (sp_fences_of K mg)) (T : Txt K mg) : FnOk P w K mg base (CXE P w) 5 f fd ["tree"] (sp_drops_of K mg) := by
  refine F.okX sc_drops_of (fun vs H Q E h => ?_) (fun cdv A outer s H vs Q E hr h => ?_)
  · obtain ⟨t, T, rfl, _⟩ := h; rfl
  obtain ⟨t, T', rfl, ht, hn, k⟩ := h
  refine ⟨_, (pss_cons (ps_expr (pe_callF G_need_tree (hr.mono (by decide)) rfl pass_on (pa_cons (pv 0) pa_nil)))
      (pss_cons (ps_set (i := 1) sc_drops_of.nd rfl (Or.inl rfl) (pe_op op_rep (pe_lst (pa_cons pe_int pa_nil)) (pe_callB (call_lenK (K := K) rfl) rfl T.b_len PySem.boot_len (pa_cons (pv 0) pa_nil))))
      (pss_cons (ps_nox (ps_for PassesOwn.never rfl (pi_list (pe_callF G_fences_of (hr.mono (by decide)) rfl passE (pa_cons (pv 0) pa_nil))) (pg_tup (n := 2) rfl (pgs_cons (pg_name (i := 2) sc_drops_of.nd rfl (Or.inl rfl)) (pgs_cons (pg_name (i := 3) sc_drops_of.nd rfl (Or.inl rfl)) pgs_nil))) (pss_one (ps_if (pt_cmpR op_lt (pv 3) (pe_callB (call_lenK (K := K) rfl) rfl T.b_len PySem.boot_len (pa_cons (pv 0) pa_nil)) (nomark _)) (pss_one (ps_augS (pv 1) (pv 3) (get_list (K := K) rfl) pe_int ip_add set_list)) pss_nil))))
      (pss_one (ps_ret (pe_callTy (call_tupK (K := K) rfl) rfl T.b_tuple bt_tuple (pa_cons (pv 1) pa_nil))))))), ?_⟩
  have eL : (T'.map V.int).length = T'.length := List.length_map ..
  refine seqR (fun σ Hx => ∃ ns : List Int, σ = [some (.ref t), none, none, none] ∧ T'.length ≤ 40 ∧ TreeIs ns T' ∧ (∀ (u : Addr) H', Same H H' → H' u = some (.tup (natsV (dropsN (nth ns) ns.length))) → Q (.ref u) H') ∧ Same H Hx) (fun R hR => ?_) ?_
  · walk_at "rd"
    refine ⟨t, T', rfl, ht, hn, fun g H1 s1 => ?_, fun g H1 s1 => ?_⟩
    · rcases k with ⟨ns, h40, hT, k1⟩ | ⟨ng, _⟩
      · exact hR _ _ ⟨ns, rfl, h40, hT, k1, s1⟩
      · exact absurd g ng
    · rcases k with ⟨ns, h40, hT, k1⟩ | ⟨ng, k2⟩
      · exact absurd ⟨h40, ns, hT⟩ g
      · exact k2 _ s1
  clear k
  rintro σ H1 ⟨ns, rfl, h40, hT, k1, s1⟩
  have eT := hT.1
  refine seqR (fun σ Hx => ∃ dl : Addr, σ = [some (.ref t), some (.ref dl), none, none] ∧ H dl = none ∧ Hx dl = some (.lst (((List.range ns.length).map fun k => (((List.range 0).countP (fun p => decide (fenB (nth ns) ns.length p = ((k : Nat) : Int))) : Nat) : Int)).map V.int)) ∧ Hx t = some (.tup (T'.map V.int)) ∧ Same H Hx) (fun R hR => ?_) ?_
  · walk_at "rd"
    refine ⟨by decide, fun p hp => ⟨_, .inr (SqT.of (((Same.refl H1).upd hp) _ _ (s1 _ _ ht))), _, upd_same, by omega, by rw [eL]; omega, ?_, fun dl hdl => ?_⟩⟩
    · exact Nat.le_trans (show _ ≤ 1000 by simp; omega) (by decide)
    have s2 := s1.upd' (o := .lst [V.int 0]) hp
    refine hR _ _ ⟨dl, rfl, s2.free hdl, ?_, (s2.upd' hdl) _ _ ht, s2.upd' hdl⟩
    rw [upd_same, eL, Int.toNat_natCast, eT, List.flatten_replicate_singleton, List.map_map]
    congr 2
    refine (List.eq_replicate_iff.mpr ⟨by simp, fun b hb => ?_⟩).symm
    simp at hb
    exact hb.2.symm
  clear s1 H1
  rintro σ H1 ⟨dl, rfl, zd, hdl, ht1, s1⟩
  refine seqR (fun σ Hx => ∃ v2 v3, σ = [some (.ref t), some (.ref dl), v2, v3] ∧ Hx dl = some (.lst (((List.range ns.length).map fun k => (((List.range ns.length).countP (fun p => decide (fenB (nth ns) ns.length p = ((k : Nat) : Int))) : Nat) : Int)).map V.int)) ∧ Same H Hx) (fun R hR => ?_) ?_
  · walk_at "rd"
    refine ⟨t, ns, T', rfl, ht1, hT, by omega, fun l H2 s2 hP => ⟨l, rfl, ?_⟩⟩
    obtain ⟨qs, h1, h2, h3⟩ := hP
    refine ⟨⟨_, SqL.of h1⟩, ?_⟩
    have hd2 := s2 _ _ hdl
    have nld : 0 < ns.length → l ≠ dl := fun hpos z => by
      rw [z, hd2] at h1
      have := congrArg (fun o => match o with | some (HO.lst (V.int _ :: _)) => true | _ => false) h1
      match qs, h2, this with
      | [], h2, _ => simp at h2; omega
      | q :: qs, _, this =>
        obtain ⟨m, hm⟩ : ∃ m, ns.length = m + 1 := ⟨ns.length - 1, by omega⟩
        rw [hm, List.range_succ_eq_map] at this
        simp at this
    by_cases hpos : 0 < ns.length
    case neg =>
      have hn0 : ns.length = 0 := by omega
      refine for_it (n := ns.length) (fun j σ Hx => σ = [some (.ref t), some (.ref dl), none, none] ∧ Hx = H2) ⟨rfl, rfl⟩ (fun j σ Hx hj _ => absurd hj (by omega)) (fun σ Hx ⟨_, e⟩ => e ▸ ⟨_, SqL.of h1, by rw [List.length_map]; omega⟩) (fun j x σ Hx Hx' hj => absurd hj (by omega)) ?_
      rintro σ Hx ⟨rfl, rfl⟩
      refine hR _ _ ⟨_, _, rfl, ?_, s1.trans s2⟩
      rw [hd2, hn0]
    refine for_it (n := ns.length) (fun j σ Hx => ∃ v2 v3, σ = [some (.ref t), some (.ref dl), v2, v3] ∧ Hx dl = some (.lst (((List.range ns.length).map fun k => (((List.range j).countP (fun p => decide (fenB (nth ns) ns.length p = ((k : Nat) : Int))) : Nat) : Int)).map V.int)) ∧ (0 < ns.length → Hx l = some (.lst (qs.map V.ref))) ∧ (∀ (j : Nat) (q : Addr), qs[j]? = some q → Hx q = some (.tup [.int (fenA (nth ns) j), .int (fenB (nth ns) ns.length j)])) ∧ Hx t = some (.tup (T'.map V.int)) ∧ Same H Hx) ⟨_, _, rfl, hd2, fun _ => h1, fun j q hq => h3 j q hq, s2 _ _ ht1, s1.trans s2⟩ (fun j σ Hx hj ⟨_, _, _, _, hx, _⟩ => ⟨_, _, SqL.of (hx (by omega)), List.getElem?_eq_getElem (by rw [List.length_map]; omega)⟩) ?_ ?_ ?_
    · rintro σ Hx ⟨v2, v3, rfl, hxd, hxl, hxq, hxt, sx⟩
      exact ⟨_, SqL.of (hxl hpos), by rw [List.length_map]; omega⟩
    · rintro j x σ Hx Hx' hj ⟨v2, v3, rfl, hxd, hxl, hxq, hxt, sx⟩ ⟨rfl, hx⟩
      have ex := hx _ (SqL.of (hxl (by omega)))
      obtain ⟨q, hq⟩ : ∃ q, qs[j]? = some q := ⟨qs[j]'(by omega), List.getElem?_eq_getElem (by omega)⟩
      rw [List.getElem?_map, hq] at ex
      cases ex
      have hq1 := hxq j q hq
      obtain ⟨b1, b2, b3, b4⟩ := fence_bounds (f := nth ns) hj
      obtain ⟨fb, hfb⟩ := Int.eq_ofNat_of_zero_le (show 0 ≤ fenB (nth ns) ns.length j by omega)
      rw [hfb] at hq1 b3 b4
      refine ⟨q, _, rfl, SqT.of hq1, rfl, _, _, rfl, _, _, rfl, rfl, ?_⟩
      walk_at "rd"
      refine ⟨_, .inr (SqT.of hxt), ?_⟩
      rw [eL, eT]
      have stp : ∀ k : Nat, ((List.range (j + 1)).countP (fun p => decide (fenB (nth ns) ns.length p = ((k : Nat) : Int)))) = (List.range j).countP (fun p => decide (fenB (nth ns) ns.length p = ((k : Nat) : Int))) + if fb = k then 1 else 0 := fun k => by
        rw [List.range_succ, List.countP_append, List.countP_singleton, hfb]
        by_cases e : fb = k
        · rw [if_pos e, if_pos (by simp [e])]
        · rw [if_neg e, if_neg (by simp; omega)]
      refine ite2 (fun z => ?_) fun z => ?_
      · have nq : ∀ q xs, Hx' q = some (.tup xs) → q ≠ dl := fun q xs h z => by rw [z, hxd] at h; cases h
        refine ⟨_, SqL.of hxd, _, nth_at (show fb < _ by simp; omega), _, rfl, _, hxd, fb, by rw [List.length_map, List.length_map, List.length_range]; exact ixN_nat (by omega), ?_, fun _ => by rw [upd_ne (nld hpos)]; exact hxl hpos, fun j q hq => by rw [upd_ne (nq _ _ (hxq j q hq))]; exact hxq j q hq, by rw [upd_ne (nq _ _ hxt)]; exact hxt, sx.upd zd⟩
        rw [upd_same, map_range_nth (by omega), ← List.map_set, map_range_set]
        congr 3
        refine List.map_congr_left fun k hk => ?_
        rw [stp k]
        by_cases e : k = fb
        · rw [if_pos e, if_pos e.symm, ← e]; omega
        · rw [if_neg e, if_neg (fun y => e y.symm)]; omega
      · refine ⟨?_, hxl, hxq, hxt, sx⟩
        rw [hxd]
        congr 3
        refine List.map_congr_left fun k hk => ?_
        have := List.mem_range.mp hk
        rw [stp k, if_neg (by omega)]; rfl
    · rintro σ Hx ⟨v2, v3, rfl, hxd, hxl, hxq, hxt, sx⟩
      exact hR _ _ ⟨_, _, rfl, hxd, sx⟩
  clear s1 hdl ht1 H1
  rintro σ H1 ⟨v2, v3, rfl, hd, s1⟩
  walk_at "rd"
  refine ⟨_, .inl ⟨SqL.of hd, fun u hu => k1 u _ (s1.upd' hu) ?_⟩⟩
  rw [upd_same]
  congr 2
  unfold natsV dropsN
  rw [List.map_map, List.map_map]
  refine List.map_congr_left fun k hk => ?_
  show V.int _ = V.int _
  rw [← fenB_dropAt (List.mem_range.mp hk)]
theorem ok_goings_on {f : Addr} {fd : FuncData} (F : Fun K "goings_on" "goings_on" s_goings_on f fd) (G_running_sums : Callee P w K mg base "running_sums" 1 ["numbers"] (sp_running_sums K mg)) (T : Txt K mg) : FnOk P w K mg base (CXE P w) 2 f fd ["n"] (sp_goings_on K mg) := by
  refine F.okX sc_goings_on (fun vs H Q E h => ?_) (fun cdv A outer s H vs Q E hr h => ?_)
  · obtain ⟨n, rfl, _⟩ := h; rfl
  obtain ⟨n, rfl, hn, k1⟩ := h
  refine ⟨_, (pss_cons (ps_set (i := 1) sc_goings_on.nd rfl (Or.inl rfl) (pe_lst (pa_cons (pe_op op_rep (pe_lst (pa_cons pe_int pa_nil)) (pe_op op_add (pv 0) pe_int)) pa_nil)))
      (pss_cons (ps_nox (ps_for PassesOwn.never rfl (pi_range1 rfl T.b_range (pa_cons (pv 0) pa_nil)) (pg_name (i := 2) sc_goings_on.nd rfl (Or.inl rfl)) (pss_one (ps_expr (pe_bm PySem.F.plainAttrs_list PySem.F.slot_list_append PySem.F.type_list_append mt_append (pv 1) (pa_cons (pe_callF G_running_sums (hr.mono (by decide)) rfl passE (pa_cons (pe_slice sl_list (pe_ix ix_list (pv 1) (pe_un un_neg pe_int) (fun _ _ => rfl)) (po_some pe_int) po_none) pa_nil)) pa_nil))))))
      (pss_one (ps_ret (pv 1))))), ?_⟩
  walk_at "rd"
  refine ⟨by decide, fun p hp => ⟨_, upd_same, by omega, by omega, ?_, fun p1 hp1 => ⟨by decide, fun tb htb => ⟨by omega, by omega, ?_⟩⟩⟩⟩
  · exact Nat.le_trans (show _ ≤ 1000 by simp; omega) (by decide)
  have e1 : (List.replicate ((n : Int) + 1).toNat [V.int 1]).flatten = (goRow 0 (n + 1)).map V.int := by
    rw [show ((n : Int) + 1).toNat = n + 1 by omega, List.flatten_replicate_singleton]
    refine (List.eq_replicate_iff.mpr ⟨by simp [goRow], fun b hb => ?_⟩).symm
    simp [goRow, goN] at hb
    exact hb.2.symm
  rw [e1] at htb ⊢
  have g0 := ((Same.refl H).upd (o := .lst [V.int 1]) hp).upd' (o := .lst ((goRow 0 (n + 1)).map V.int)) hp1
  have g1 := (Same.refl _).upd (o := .lst [V.ref p1]) htb
  have ztb : H tb = none := g0.free htb
  have np : tb ≠ p1 := fun z => by rw [z, upd_same] at htb; cases htb
  have R0 : Rows (upd (upd (upd H p (.lst [V.int 1])) p1 (.lst ((goRow 0 (n + 1)).map V.int))) tb (.lst [V.ref p1])) tb [goRow 0 (n + 1)] := ⟨[p1], upd_same, by simpa using np, rfl, fun i h1 h2 => by
    have : i = 0 := by simp at h1; omega
    subst this
    exact g1 _ _ upd_same⟩
  rw [Int.toNat_natCast]
  refine for_range (fun i σ Hx => ∃ v2, σ = [some (.int (n : Int)), some (.ref tb), v2] ∧ Rows Hx tb ((List.range (i + 1)).map fun r => goRow r (n + 1 - r)) ∧ Same H Hx) ⟨none, rfl, R0, g0.trans g1⟩ ?_ ?_
  · rintro i σ Hx hi ⟨v2, rfl, hR, sx⟩
    walk_at "rd"
    obtain ⟨as, a1, a2, a3, a4⟩ := id hR
    have la : as.length = i + 1 := by simpa using a3
    have hlast := a4 i (by omega) (by simp)
    have eg : ((List.range (i + 1)).map fun r => goRow r (n + 1 - r))[i]'(by simp) = goRow i (n - i + 1) := by
      rw [List.getElem_map, List.getElem_range]; congr 1; omega
    rw [eg] at hlast
    have hat : atI (as.map V.ref) (-1) = some (V.ref (as[i]'(by omega))) := by
      refine atI_m1 (by rw [List.length_map]; omega) ?_
      have e : as.length - 1 = i := by omega
      rw [List.length_map, List.getElem?_map, e, List.getElem?_eq_getElem (by omega)]; rfl
    refine ⟨tyV_list a1, _, SqL.of a1, _, hat, _, rfl, _, SqL.of hlast, fun u hu => ?_⟩
    have ec : cutV ((goRow i (n - i + 1)).map V.int) (some 1) none = ((goRow i (n - i + 1)).drop 1).map V.int := by
      have := cut_fromN ((goRow i (n - i + 1)).map V.int) 1
      rw [show ((1 : Nat) : Int) = 1 from rfl] at this
      rw [this, List.map_drop]
    rw [ec]
    have gu := (Same.refl Hx).upd (o := .lst (((goRow i (n - i + 1)).drop 1).map V.int)) hu
    refine ⟨u, _, rfl, SqL.of upd_same, by rw [List.length_drop, goRow_len]; omega, fun q H2 s2 hq => ?_⟩
    rw [sums_goRow] at hq
    have g2 := gu.trans s2
    refine ⟨_, g2 _ _ a1, Nat.lt_of_le_of_lt (show _ ≤ 1000 by rw [List.length_map]; omega) (by decide), ?_, (sx.trans g2).upd ztb⟩
    rw [List.range_succ, List.map_append]
    have nq : q ≠ tb := fun z => by
      rw [z, g2 _ _ a1] at hq
      have := congrArg (fun o => match o with | some (HO.lst (V.int _ :: _)) => true | _ => false) hq
      match as, la, this with
      | a :: as, _, this =>
        rw [show n - i = (n - i - 1) + 1 by omega, goRow, List.range_succ_eq_map] at this
        simp at this
    have ep : (List.map (fun r => goRow r (n + 1 - r)) [i + 1]) = [goRow (i + 1) (n - i)] := by simp
    rw [ep]
    exact Rows.push (g2 _ _ a1) a2 a3 (fun j j1 j2 => g2 _ _ (a4 j j1 j2)) hq nq
  · rintro σ Hx ⟨v2, rfl, hR, sx⟩
    walk_at "rd"
    exact k1 tb Hx sx hR
theorem ok_drop_ways {f : Addr} {fd : FuncData} (F : Fun K "drop_ways" "drop_ways" s_drop_ways f fd)  (T : Txt K mg) : FnOk P w K mg base (CXE P w) 1 f fd ["goings", "still"] (sp_drop_ways K mg) := by
  refine F.okX sc_drop_ways (fun vs H Q E h => ?_) (fun cdv A outer s H vs Q E hr h => ?_)
  · obtain ⟨g, r, m, st, rfl, _⟩ := h; rfl
  obtain ⟨g, r, m, st, rfl, hg, hst, hm, k1⟩ := h
  refine ⟨_, (pss_one (ps_ret (pe_sliceR (K := K) rfl (pe_slice sl_list (pv 0) (po_some pe_int) (po_some (pe_op op_add (pv 1) pe_int))) (pe_un un_neg pe_int)))), ?_⟩
  walk_at "rd"
  refine ⟨_, SqL.of hg, fun p hp => ⟨_, SqL.of upd_same, fun q hq => k1 q _ (((Same.refl H).upd hp).upd' hq) ?_⟩⟩
  rw [upd_same]
  have ec : cutV ((goRow r m).map V.int) (some 1) (some ((st : Int) + 2)) = (cutN (goRow r m) 1 (st + 1)).map V.int := by
    have := cut_ints (goRow r m) (a := 1) (c := st + 2) (by omega) (by rw [goRow_len]; omega)
    rw [show ((1 : Nat) : Int) = 1 from rfl, show ((st + 2 : Nat) : Int) = (st : Int) + 2 by omega] at this
    rw [this]; rfl
  rw [ec, ← List.map_reverse]
  congr 3
  have lc : (cutN (goRow r m) 1 (st + 1)).length = st + 1 := cutN_len (by rw [goRow_len]; omega)
  refine List.ext_getElem (by simp [lc]) fun j j1 j2 => ?_
  have hj : j < st + 1 := by simpa using j2
  rw [List.getElem_reverse]
  have : (cutN (goRow r m) 1 (st + 1))[(cutN (goRow r m) 1 (st + 1)).length - 1 - j]'(by omega) = nth (cutN (goRow r m) 1 (st + 1)) (st - j) := by
    simp [nth, List.getD_eq_getElem?_getD, lc, show st - j < st + 1 by omega, show st - j < (cutN (goRow r m) 1 (st + 1)).length by omega]
  rw [this, cutN_nth (by omega), goRow_nth (by omega)]
  simp
  congr 1; omega
theorem ok_number_of {f : Addr} {fd : FuncData} (F : Fun K "number_of" "number_of" s_number_of f fd) (G_drops_of : Callee P w K mg base "drops_of" 5 ["tree"] (sp_drops_of K mg)) (G_goings_on : Callee P w K mg base "goings_on" 2 ["n"] (sp_goings_on K mg)) (G_drop_ways : Callee P w K mg base "drop_ways" 1 ["goings", "still"] (sp_drop_ways K mg)) (T : Txt K mg) : FnOk P w K mg base (CXE P w) 6 f fd ["tree"] (sp_number_of K mg) := by
  refine F.okX sc_number_of (fun vs H Q E h => ?_) (fun cdv A outer s H vs Q E hr h => ?_)
  · obtain ⟨t, T, rfl, _⟩ := h; rfl
  obtain ⟨t, T', rfl, ht, hn, k⟩ := h
  refine ⟨_, (pss_cons (ps_set (i := 1) sc_number_of.nd rfl (Or.inl rfl) (pe_callF G_drops_of (hr.mono (by decide)) rfl pass_on (pa_cons (pv 0) pa_nil)))
      (pss_cons (ps_set (i := 2) sc_number_of.nd rfl (Or.inl rfl) (pe_callF G_goings_on (hr.mono (by decide)) rfl passE (pa_cons (pe_callB (call_lenK (K := K) rfl) rfl T.b_len PySem.boot_len (pa_cons (pv 1) pa_nil)) pa_nil)))
      (pss_cons (ps_set (i := 3) sc_number_of.nd rfl (Or.inl rfl) pe_int)
      (pss_cons (ps_set (i := 4) sc_number_of.nd rfl (Or.inl rfl) pe_int)
      (pss_cons (ps_nox (ps_for PassesOwn.never rfl (pi_enumT (K := K) rfl rfl T.b_enumerate (pa_cons (pv 1) pa_nil)) (pg_tup (n := 2) rfl (pgs_cons (pg_name (i := 5) sc_number_of.nd rfl (Or.inl rfl)) (pgs_cons (pg_name (i := 6) sc_number_of.nd rfl (Or.inl rfl)) pgs_nil))) (pss_cons (ps_aug (i := 3) sc_number_of.nd rfl (Or.inl rfl) (pe_callB (call_sum rfl) rfl T.b_sum bt_sum (pa_cons (pe_slice sl_list (pe_callF G_drop_ways (hr.mono (by decide)) rfl passE (pa_cons (pe_ix ix_list (pv 2) (pe_op op_sub (pe_op op_sub (pe_callB (call_lenK (K := K) rfl) rfl T.b_len PySem.boot_len (pa_cons (pv 1) pa_nil)) pe_int) (pv 5)) (fun _ _ => rfl)) (pa_cons (pv 4) pa_nil))) po_none (po_some (pv 6))) pa_nil)) ip_add)
      (pss_one (ps_aug (i := 4) sc_number_of.nd rfl (Or.inl rfl) (pe_op op_sub pe_int (pv 6)) ip_add)))))
      (pss_one (ps_ret (pv 3)))))))), ?_⟩
  have k' : (∃ ns : List Int, T'.length ≤ 40 ∧ TreeIs ns T' ∧ ∀ H', Same H H' → Q (.int (rankTo ns.length (dropsN (nth ns) ns.length) ns.length)) H') ∨ (¬ GoodT T' ∧ ∀ H', Same H H' → E (.ref (clsAt mg "NoTree")) none H') := k
  refine seqR (fun σ Hx => ∃ (ns : List Int) (u : Addr), σ = [some (.ref t), some (.ref u), none, none, none, none, none] ∧ T'.length ≤ 40 ∧ TreeIs ns T' ∧ (∀ H', Same H H' → Q (.int (rankTo ns.length (dropsN (nth ns) ns.length) ns.length)) H') ∧ Hx u = some (.tup (natsV (dropsN (nth ns) ns.length))) ∧ Same H Hx) (fun R hR => ?_) ?_
  · walk_at "rd"
    rcases k' with ⟨ns, h40, hT, k1⟩ | ⟨ng, k2⟩
    · exact ⟨t, T', rfl, ht, hn, .inl ⟨ns, h40, hT, fun u H1 s1 hu => hR _ _ ⟨ns, u, rfl, h40, hT, k1, hu, s1⟩⟩⟩
    · exact ⟨t, T', rfl, ht, hn, .inr ⟨ng, k2⟩⟩
  clear k k'
  rintro σ H1 ⟨ns, u, rfl, h40, hT, k1, hu, s1⟩
  have eT := hT.1
  have hD := dropsN_ok (nth ns) ns.length
  have ld := dropsN_len (nth ns) ns.length
  generalize dropsN (nth ns) ns.length = ds at hu k1 hD ld
  have eL : (natsV ds).length = ns.length := by rw [natsV_len, ld]
  refine seqR (fun σ Hx => ∃ tb : Addr, σ = [some (.ref t), some (.ref u), some (.ref tb), none, none, none, none] ∧ Rows Hx tb (goTab (ns.length + 1) ns.length) ∧ Hx u = some (.tup (natsV ds)) ∧ Same H Hx) (fun R hR => ?_) ?_
  · walk_at "rd"
    refine ⟨_, .inr (SqT.of hu), ns.length, by rw [eL], by omega, fun l H2 s2 hl => hR _ _ ⟨l, rfl, hl, s2 _ _ hu, s1.trans s2⟩⟩
  clear s1 hu H1
  rintro σ H1 ⟨tb, rfl, htb, hu, s1⟩
  walk_at "rd"
  refine ⟨_, SqT.of hu, ?_⟩
  refine for_it (n := ns.length) (fun k σ Hx => ∃ v5 v6, σ = [some (.ref t), some (.ref u), some (.ref tb), some (.int (rankTo ns.length ds k)), some (.int (openN ds k : Nat)), v5, v6] ∧ Same H1 Hx) ⟨none, none, rfl, Same.refl H1⟩ (fun k σ Hx hk ⟨_, _, _, sx⟩ => ⟨_, _, SqT.of (sx _ _ hu), List.getElem?_eq_getElem (by rw [eL]; exact hk)⟩) (fun σ Hx ⟨_, _, _, sx⟩ => ⟨_, SqT.of (sx _ _ hu), eL⟩) ?_ ?_
  · rintro k x σ Hx Hx' hk ⟨v5, v6, rfl, sx⟩ ⟨q, x, hq, rfl, rfl, hx⟩
    have ex := hx _ (SqT.of (sx _ _ hu))
    have ed : (natsV ds)[k]? = some (V.int (ds.getD k 0 : Nat)) := by simp [natsV, List.getD_eq_getElem?_getD, show k < ds.length by omega]
    rw [ed] at ex
    cases ex
    have hdk := hD k (by omega)
    have hok := openN_le ds k
    have est : rankTo ns.length ds (k + 1) = rankTo ns.length ds k + fewer (ns.length - 1 - k) (openN ds k) (ds.getD k 0) := rfl
    have eop : openN ds (k + 1) = openN ds k - ds.getD k 0 + 1 := rfl
    generalize ds.getD k 0 = d at hdk ed hx hq est eop ⊢
    have g := (Same.refl Hx).upd (o := .tup [.int (k : Int), .int (d : Nat)]) hq
    have tq : (upd Hx q (.tup [.int (k : Int), .int (d : Nat)])) q = some (.tup [.int (k : Int), .int (d : Nat)]) := upd_same
    replace sx := sx.trans g
    generalize upd Hx q (.tup [.int (k : Int), .int (d : Nat)]) = Hy at sx tq ⊢
    clear g hx hq Hx
    refine ⟨q, _, rfl, SqT.of tq, rfl, _, _, rfl, _, _, rfl, rfl, ?_⟩
    clear tq
    have hgl : (goTab (ns.length + 1) ns.length).length = ns.length + 1 := by simp [goTab]
    obtain ⟨xs, a, x1, x2, x3⟩ := (htb.same sx).at (K := K) (i := ns.length - 1 - k) (by rw [hgl]; omega)
    have er : (goTab (ns.length + 1) ns.length)[ns.length - 1 - k]'(by rw [hgl]; omega) = goRow (ns.length - 1 - k) (k + 2) := by
      unfold goTab
      rw [List.getElem_map, List.getElem_range]; congr 1; omega
    rw [er] at x3
    walk_at "rd"
    refine ⟨_, .inr (SqT.of (sx _ _ hu)), _, x1, V.ref a, ?_, a, ns.length - 1 - k, k + 2, openN ds k, rfl, x3, by omega, by omega, fun l H2 s2 hl => ⟨l, rfl, _, SqL.of hl, fun p hp => ?_⟩⟩
    · rw [eL, show ((ns.length : Int) - 1 - (k : Int)) = ((ns.length - 1 - k : Nat) : Int) by omega]; exact x2
    rw [cut_to, ← List.map_take]
    refine ⟨_, SqL.of upd_same, ?_, by rw [eop]; omega, sx.trans (s2.upd' hp)⟩
    rw [est, ← List.map_take, List.take_range, show min d (openN ds k + 1) = d by omega]; rfl
  · rintro σ Hx ⟨v5, v6, rfl, sx⟩
    walk_at "rd"
    exact k1 _ (s1.trans sx)
theorem ok__law_drops_of {f : Addr} {fd : FuncData} (F : Fun K "_law_drops_of" "_law_drops_of" s__law_drops_of f fd)  (T : Txt K mg) : FnOk P w K mg base (CXE P w) 1 f fd ["row"] (sp__law_drops_of K mg) := by
  refine F.okX sc__law_drops_of (fun vs H Q E h => ?_) (fun cdv A outer s H vs Q E hr h => ?_)
  · obtain ⟨r, ns, rfl, _⟩ := h; rfl
  obtain ⟨r, ns, rfl, hr1, hn, k1⟩ := h
  refine ⟨_, (pss_cons (ps_set (i := 1) sc__law_drops_of.nd rfl (Or.inl rfl) (pe_lst pa_nil))
      (pss_cons (ps_set (i := 2) sc__law_drops_of.nd rfl (Or.inl rfl) (pe_lst pa_nil))
      (pss_cons (ps_nox (ps_for PassesOwn.never rfl (pi_tup (pv 0)) (pg_name (i := 3) sc__law_drops_of.nd rfl (Or.inr rfl)) (pss_cons (ps_setCN (i := 4) ["other", "number"] [none, some 3] sc__law_drops_of.nd rfl (Or.inl rfl) rfl rfl rfl (pi_list (pv 1)) (fun _ _ _ _ _ => (pg_name (i := 0) (show (["other", "number"] : List Str).Nodup from by decide +kernel) rfl (Or.inl rfl))) (fun _ _ _ _ _ => pifs_one (pt_cmpR op_le (pv 0) (pv 1) (nomark _))) (fun _ _ _ _ _ => (pv 0)) only_name)
      (pss_cons (ps_expr (pe_bm PySem.F.plainAttrs_list PySem.F.slot_list_append PySem.F.type_list_append mt_append (pv 2) (pa_cons (pe_op op_sub (pe_callB (call_lenK (K := K) rfl) rfl T.b_len PySem.boot_len (pa_cons (pv 1) pa_nil)) (pe_callB (call_lenK (K := K) rfl) rfl T.b_len PySem.boot_len (pa_cons (pv 4) pa_nil))) pa_nil)))
      (pss_one (ps_set (i := 1) sc__law_drops_of.nd rfl (Or.inl rfl) (pe_op op_cat (pv 4) (pe_lst (pa_cons (pv 3) pa_nil)))))))))
      (pss_one (ps_ret (pe_callTy (call_tupK (K := K) rfl) rfl T.b_tuple bt_tuple (pa_cons (pv 2) pa_nil))))))), ?_⟩
  walk_at "rd"
  refine ⟨Nat.zero_le _, fun sl hsl => ⟨Nat.zero_le _, fun fo hfo => ⟨⟨_, SqT.of ((((Same.refl H).upd hsl).upd' hfo) _ _ hr1)⟩, ?_⟩⟩⟩
  have s0 := ((Same.refl H).upd (o := .lst []) hsl).upd' (o := .lst []) hfo
  have zf : H fo = none := ((Same.refl H).upd hsl).free hfo
  have nsf : sl ≠ fo := fun z => by rw [← z, upd_same] at hfo; cases hfo
  have hsl0 : (upd (upd H sl (.lst [])) fo (.lst [])) sl = some (.lst []) := by rw [upd_ne nsf, upd_same]
  refine for_tup (K := K) (a := r) (xs := ns.map V.int) (fun i σ Hx => ∃ (S : List Nat) (sl : Addr) (v3 v4 : Option V), σ = [some (.ref r), some (.ref sl), some (.ref fo), v3, v4] ∧ Spine (nth ns) i S ∧ Hx sl = some (.lst ((S.map (nth ns)).map V.int)) ∧ Hx fo = some (.lst (natsV ((List.range i).map (dropAt (nth ns))))) ∧ sl ≠ fo ∧ Same H Hx) ⟨[], sl, none, none, rfl, ⟨List.Pairwise.nil, fun q => by simp⟩, hsl0, upd_same, nsf, s0⟩ (fun i σ Hx _ ⟨_, _, _, _, _, _, _, _, _, s⟩ => SqT.of (s _ _ hr1)) ?_ ?_
  · clear hsl0 nsf s0 hfo hsl sl
    rintro i x σ Hx hi ⟨S, sl, v3, v4, rfl, hS, hxs, hxf, nsf, sx⟩
    obtain ⟨hil, rfl⟩ : ∃ h : i < ns.length, x = V.int (nth ns i) := by
      have h1 := (List.getElem?_eq_some_iff.mp hi).1
      rw [List.length_map] at h1
      refine ⟨h1, ?_⟩
      rw [List.getElem?_map, List.getElem?_eq_getElem h1] at hi
      cases hi
      simp [nth, List.getD_eq_getElem?_getD, h1]
    have hSl : S.length ≤ i := by
      rcases pw_len S i 0 hS.1 (fun q hq => ⟨Nat.zero_le _, ((hS.2 q).mp hq).1⟩) with z | z
      · omega
      · rw [z]; simp
    obtain ⟨A', B, rfl, hA, hB⟩ := split_at (f := nth ns) (nth ns i) S hS.mono
    have hfs := filter_split (f := nth ns) (v := nth ns i) hA hB
    have hdr := spine_drop hS hA hB
    rw [List.length_append] at hSl
    refine seqR (fun σ Hy => ∃ le : Addr, σ = [some (.ref r), some (.ref sl), some (.ref fo), some (.int (nth ns i)), some (.ref le)] ∧ Hx le = none ∧ Hy le = some (.lst ((A'.map (nth ns)).map V.int)) ∧ Same Hx Hy) (fun R hR => ?_) ?_
    · walk_at "rd"
      refine ⟨⟨_, SqL.of hxs⟩, comp_sift (fun o => decide (o ≤ nth ns i)) hxs (by rw [List.length_map, List.length_append]; omega) (fun x Hz R hR => ?_) fun l H3 s3 hl => ?_⟩
      · walk_at "rd"
        exact hR
      · rw [hfs]
        exact hR _ _ ⟨l, rfl, s3.free hl, upd_same, s3.upd' hl⟩
    rintro σ Hy ⟨le, rfl, zle, hle, sy⟩
    have nlf : le ≠ fo := fun z => by rw [z, hxf] at zle; cases zle
    replace hxs := sy _ _ hxs
    replace hxf := sy _ _ hxf
    replace sx := sx.trans sy
    walk_at "rd"
    have l1 : (((A' ++ B).map (nth ns)).map V.int).length = A'.length + B.length := by simp
    have l2 : ((A'.map (nth ns)).map V.int).length = A'.length := by simp
    refine ⟨tyV_list hxf, _, .inl (SqL.of hxs), _, .inl (SqL.of hle), _, hxf, Nat.lt_of_le_of_lt (show _ ≤ 2000 by rw [natsV_len]; simp; omega) (by decide), by decide, fun p hp => ?_⟩
    rw [l1, l2, show ((A'.length + B.length : Nat) : Int) - (A'.length : Int) = ((dropAt (nth ns) i : Nat) : Int) by rw [hdr]; omega] at hp ⊢
    have ef : natsV ((List.range i).map (dropAt (nth ns))) ++ [V.int ((dropAt (nth ns) i : Nat) : Int)] = natsV ((List.range (i + 1)).map (dropAt (nth ns))) := by
      rw [List.range_succ, List.map_append, natsV_app]; rfl
    rw [ef] at hp ⊢
    have gp := (Same.refl _).upd (o := .lst [V.int (nth ns i)]) hp
    have hle2 : (upd Hy fo (.lst (natsV ((List.range (i + 1)).map (dropAt (nth ns)))))) le = some (.lst ((A'.map (nth ns)).map V.int)) := by rw [upd_ne nlf]; exact hle
    refine ⟨_, gp _ _ hle2, _, upd_same, Nat.le_trans (show _ ≤ 2000 by simp; omega) (by decide), fun q hq => ?_⟩
    have gq := (Same.refl _).upd (o := .lst ((A'.map (nth ns)).map V.int ++ [V.int (nth ns i)])) hq
    have hf2 := gq _ _ (gp _ _ (upd_same (H := Hy) (a := fo) (o := .lst (natsV ((List.range (i + 1)).map (dropAt (nth ns)))))))
    refine ⟨A' ++ [i], (spine_step hS hA hB).1, by rw [upd_same]; simp, hf2, fun z => ?_, ((sx.upd zf).trans gp).trans gq⟩
    rw [z] at hq
    rw [gp _ _ (upd_same (H := Hy) (a := fo) (o := .lst (natsV ((List.range (i + 1)).map (dropAt (nth ns))))))] at hq
    cases hq
  · rintro σ Hx ⟨S, sl, v3, v4, rfl, hS, hxs, hxf, nsf, sx⟩
    walk_at "rd"
    rw [List.length_map] at hxf
    exact ⟨_, .inl ⟨SqL.of hxf, fun u hu => k1 u _ (sx.upd' hu) upd_same⟩⟩
theorem ok__law_kin_row {f : Addr} {fd : FuncData} (F : Fun K "_law_kin_row" "_law_kin_row" s__law_kin_row f fd) (G__law_pick : Callee P w K mg base "_law_pick" 1 ["pool", "many"] (sp__law_pick K mg)) (G__law_over : Callee P w K mg base "_law_over" 1 ["tree", "place"] (sp__law_over K mg)) (T : Txt K mg) : FnOk P w K mg base (CXE P w) 2 f fd ["pool", "tree"] (sp__law_kin_row K mg) := by
  refine F.okX sc__law_kin_row (fun vs H Q E h => ?_) (fun cdv A outer s H vs Q E hr h => ?_)
  · obtain ⟨p, t, T, rfl, _⟩ := h; rfl
  obtain ⟨p, t, T', rfl, hP, ht, hn, ⟨ns, hT⟩, k1⟩ := h
  refine ⟨_, (pss_cons (ps_set (i := 2) sc__law_kin_row.nd rfl (Or.inl rfl) (pe_op op_add pe_int (pe_callF G__law_pick (hr.mono (by decide)) rfl passE (pa_cons (pv 0) (pa_cons pe_int pa_nil)))))
      (pss_cons (ps_set (i := 3) sc__law_kin_row.nd rfl (Or.inl rfl) (pe_op op_mulX (pe_op op_sub (pe_callF G__law_pick (hr.mono (by decide)) rfl passE (pa_cons (pv 0) (pa_cons pe_int pa_nil))) pe_int) (pe_ix ix_tup (pe_tup (pa_cons pe_int (pa_cons pe_int (pa_cons (pe_op op_pow pe_int pe_int) pa_nil)))) (pe_callF G__law_pick (hr.mono (by decide)) rfl passE (pa_cons (pv 0) (pa_cons pe_int pa_nil))) (fun _ _ => rfl))))
      (pss_cons (ps_set (i := 4) sc__law_kin_row.nd rfl (Or.inl rfl) (pe_op op_rep (pe_lst (pa_cons (pv 3) pa_nil)) (pe_callB (call_lenK (K := K) rfl) rfl T.b_len PySem.boot_len (pa_cons (pv 1) pa_nil))))
      (pss_cons (ps_set (i := 5) sc__law_kin_row.nd rfl (Or.inl rfl) (pe_lst pa_nil))
      (pss_cons (ps_nox (ps_for PassesOwn.never rfl (pi_range1 rfl T.b_range (pa_cons (pe_callB (call_lenK (K := K) rfl) rfl T.b_len PySem.boot_len (pa_cons (pv 1) pa_nil)) pa_nil)) (pg_name (i := 6) sc__law_kin_row.nd rfl (Or.inl rfl)) (pss_one (ps_expr (pe_bm PySem.F.plainAttrs_list PySem.F.slot_list_append PySem.F.type_list_append mt_append (pv 5) (pa_cons (pe_tup (pa_cons (pe_callB (call_lenK (K := K) rfl) rfl T.b_len PySem.boot_len (pa_cons (pe_callF G__law_over (hr.mono (by decide)) rfl passE (pa_cons (pv 1) (pa_cons (pv 6) pa_nil))) pa_nil)) (pa_cons (pv 6) pa_nil))) pa_nil))))))
      (pss_cons (ps_nox (ps_for PassesOwn.never rfl (pi_list (pe_callB (call_sortedT (K := K) rfl) rfl T.b_sorted bt_sorted (pa_cons (pv 5) pa_nil))) (pg_tup (n := 2) rfl (pgs_cons (pg_name (i := 7) sc__law_kin_row.nd rfl (Or.inl rfl)) (pgs_cons (pg_name (i := 6) sc__law_kin_row.nd rfl (Or.inl rfl)) pgs_nil))) (pss_cons (ps_set (i := 8) sc__law_kin_row.nd rfl (Or.inl rfl) (pe_ix ix_tup (pv 1) (pv 6) (fun _ _ => rfl)))
      (pss_one (ps_if (pt_cmpR op_ge (pv 8) pe_int (nomark _)) (pss_cons (ps_set (i := 9) sc__law_kin_row.nd rfl (Or.inl rfl) (pe_op op_add (pe_ix ix_list (pv 4) (pv 8) (fun _ _ => rfl)) (pe_callTy call_intB rfl T.b_int bt_int (pa_cons (pe_cmpR op_lt (pv 6) (pv 8) (nomark _)) pa_nil))))
      (pss_one (ps_asg (pe_op op_add (pv 9) (pe_callF G__law_pick (hr.mono (by decide)) rfl passE (pa_cons (pv 0) (pa_cons (pv 2) pa_nil)))) (pg_sub (pv 4) (pv 6) set_list (fun _ => rfl))))) pss_nil)))))
      (pss_one (ps_ret (pe_callTy (call_tupK (K := K) rfl) rfl T.b_tuple bt_tuple (pa_cons (pv 4) pa_nil)))))))))), ?_⟩
  have eT : T'.length = ns.length := hT.1
  have eL : (T'.map V.int).length = T'.length := List.length_map ..
  have ntp : t ≠ p := fun z => by
    obtain ⟨x, y, e, _⟩ := hP
    rw [z, e] at ht; cases ht
  refine seqR (fun σ Hx => ∃ rise : Int, σ = [some (.ref p), some (.ref t), some (.int rise), none, none, none, none, none, none, none] ∧ 1 ≤ rise ∧ rise ≤ 3 ∧ PoolAt Hx p ∧ Exc p H Hx) (fun R hR => ?_) ?_
  · walk_at "rd"
    exact ⟨p, _, rfl, by decide, by decide, hP, fun d H1 d0 d1 P1 e1 => ⟨d, rfl, hR _ _ ⟨_, rfl, by omega, by omega, P1, e1⟩⟩⟩
  rintro σ H1 ⟨rise, rfl, hr1, hr3, P1, e1⟩
  refine seqR (fun σ Hx => ∃ begin : Int, σ = [some (.ref p), some (.ref t), some (.int rise), some (.int begin), none, none, none, none, none, none] ∧ PoolAt Hx p ∧ Exc p H Hx) (fun R hR => ?_) ?_
  · walk_at "rd"
    refine ⟨p, _, rfl, by decide, by decide, P1, fun d H2 d0 d1 P2 e2 => ⟨d, rfl, cp58, by decide, fun q hq => ⟨p, _, rfl, by decide, by decide, P2.upd hq, fun u H3 u0 u1 P3 e3 => ?_⟩⟩⟩
    have hq3 := e3 _ _ (P2.ne hq) upd_same
    obtain ⟨v, hv, z, rfl⟩ := atI_all (xs := [V.int 1, V.int 1, V.int (10 ^ Int.toNat 58)]) (i := u) (fun v => ∃ n : Int, v = V.int n) u0 u1 (by
      intro x hx
      simp only [List.mem_cons, List.not_mem_nil, or_false] at hx
      rcases hx with rfl | rfl | rfl <;> exact ⟨_, rfl⟩)
    exact ⟨_, u, rfl, SqT.of hq3, _, hv, z, rfl, mul_l (by omega) (by omega), hR _ _ ⟨_, rfl, P3, ((e1.trans e2).same ((Same.refl H2).upd hq)).trans e3⟩⟩
  clear P1 e1 H1
  rintro σ H1 ⟨begin, rfl, P1, e1⟩
  refine seqR (fun σ Hx => ∃ fo : Addr, σ = [some (.ref p), some (.ref t), some (.int rise), some (.int begin), some (.ref fo), none, none, none, none, none] ∧ fo ≠ p ∧ H fo = none ∧ Hx fo = some (.lst ((List.replicate T'.length begin).map V.int)) ∧ PoolAt Hx p ∧ Exc p H Hx) (fun R hR => ?_) ?_
  · walk_at "rd"
    have ht1 := e1 _ _ ntp ht
    refine ⟨by decide, fun q hq => ⟨_, .inr (SqT.of (((Same.refl H1).upd hq) _ _ ht1)), _, upd_same, by omega, by rw [eL]; omega, ?_, fun fo hfo => ?_⟩⟩
    · exact Nat.le_trans (show _ ≤ 1000 by simp; omega) (by decide)
    have e2 := e1.same ((Same.refl H1).upd (o := .lst [V.int begin]) hq)
    refine hR _ _ ⟨fo, rfl, (P1.upd hq).ne hfo, e2.free ((P1.upd hq).ne hfo) hfo, ?_, (P1.upd hq).upd hfo, e2.same ((Same.refl _).upd hfo)⟩
    rw [upd_same, eL]; simp
  clear P1 e1 H1
  rintro σ H1 ⟨fo, rfl, nfp, zf, hfo, P1, e1⟩
  refine seqR (fun σ Hx => ∃ (ra : Addr), σ = [some (.ref p), some (.ref t), some (.int rise), some (.int begin), some (.ref fo), some (.ref ra), none, none, none, none] ∧ ra ≠ p ∧ ra ≠ fo ∧ H ra = none ∧ TupsAt Hx ra [] ∧ Hx fo = some (.lst ((List.replicate T'.length begin).map V.int)) ∧ PoolAt Hx p ∧ Exc p H Hx) (fun R hR => ?_) ?_
  · walk_at "rd"
    exact ⟨Nat.zero_le _, fun ra hra => hR _ _ ⟨ra, rfl, P1.ne hra, (fun z => by rw [z, hfo] at hra; cases hra), e1.free (P1.ne hra) hra, TupsAt.nil upd_same, ((Same.refl H1).upd hra) _ _ hfo, P1.upd hra, e1.same ((Same.refl H1).upd hra)⟩⟩
  clear P1 e1 hfo H1
  rintro σ H1 ⟨ra, rfl, nrp, nrf, zra, hra, hfo, P1, e1⟩
  refine seqR (fun σ Hx => ∃ (v6 : Option V), σ = [some (.ref p), some (.ref t), some (.int rise), some (.int begin), some (.ref fo), some (.ref ra), v6, none, none, none] ∧ TupsAt Hx ra ((List.range T'.length).map (rankF T')) ∧ Hx fo = some (.lst ((List.replicate T'.length begin).map V.int)) ∧ PoolAt Hx p ∧ Exc p H Hx) (fun R hR => ?_) ?_
  · walk_at "rd"
    refine ⟨_, .inr (SqT.of (e1 _ _ ntp ht)), by omega, by rw [eL]; omega, ?_⟩
    rw [eL, Int.toNat_natCast]
    refine for_range (fun i σ Hx => ∃ (v6 : Option V), σ = [some (.ref p), some (.ref t), some (.int rise), some (.int begin), some (.ref fo), some (.ref ra), v6, none, none, none] ∧ TupsAt Hx ra ((List.range i).map (rankF T')) ∧ Hx fo = some (.lst ((List.replicate T'.length begin).map V.int)) ∧ PoolAt Hx p ∧ Exc p H Hx) ⟨none, rfl, hra, hfo, P1, e1⟩ ?_ ?_
    · rintro i σ Hx hi ⟨v6, rfl, hxr, hxf, Px, ex⟩
      have ei : ((0 : Int) + (i : Int)) = (i : Int) := by omega
      rw [ei]
      walk_at "rd"
      obtain ⟨as, t1, t2, t3⟩ := id hxr
      refine ⟨tyV_list t1, t, T', i, rfl, ex _ _ ntp ht, by omega, by omega, fun g w H2 hw s2 h2 => ?_, fun g => absurd ⟨ns, hT⟩ g⟩
      have ew : ((wayI T' i).map V.int).length = (way T' i).length := by rw [List.length_map, wayI_way, List.length_map]
      refine ⟨w, rfl, _, .inl (SqL.of h2), by decide, fun q1 hq1 => ?_⟩
      rw [ew]
      have g1 := s2.upd' (o := .tup [V.int ((way T' i).length : Nat), V.int (i : Int)]) hq1
      have lr : ((List.range i).map (rankF T')).length = i := by simp
      refine ⟨_, g1 _ _ t1, Nat.lt_of_le_of_lt (show _ ≤ 2000 by rw [List.length_map]; omega) (by decide), ?_, ?_, (Px.same g1).updN nrp, (ex.same g1).updN zra⟩
      · rw [List.range_succ, List.map_append]
        exact TupsAt.push (r := rankF T' i) (g1 _ _ t1) t2 (fun j j1 j2 => g1 _ _ (t3 j j1 j2)) upd_same
      · rw [upd_ne nrf.symm]; exact g1 _ _ hxf
    · rintro σ Hx ⟨v6, rfl, hxr, hxf, Px, ex⟩
      exact hR _ _ ⟨v6, rfl, hxr, hxf, Px, ex⟩
  clear P1 e1 hfo hra H1
  rintro σ H1 ⟨v6, rfl, hra, hfo, P1, e1⟩
  walk_at "rd"
  refine ⟨_, hra, ?_, by simp; omega, fun rs' l H2 hperm hpw zl s2 hl => ?_⟩
  · intro r hr'
    obtain ⟨q, hq, rfl⟩ := List.mem_map.mp hr'
    have := List.mem_range.mp hq
    exact ⟨_, _, rfl, by omega, by omega⟩
  obtain ⟨os, ho, rfl, hos⟩ := rank_order (by omega) hperm hpw
  have nlp : l ≠ p := P1.ne zl
  have nlf : l ≠ fo := fun z => by rw [z, hfo] at zl; cases zl
  have lo : os.length = T'.length := by simpa using ho.length_eq
  have hlt : ∀ i, i < os.length → os.getD i 0 < T'.length := fun i hi => by
    rw [show os.getD i 0 = os[i] by simp [hi]]
    exact List.mem_range.mp (ho.mem_iff.mp (List.getElem_mem hi))
  have lm : (os.map (rankF T')).length = T'.length := by rw [List.length_map, lo]
  refine ⟨hl.sq, ?_⟩
  refine for_it (n := T'.length) (fun j σ Hx => ∃ (fs : List Int) (v6 v7 v8 v9 : Option V), σ = [some (.ref p), some (.ref t), some (.int rise), some (.int begin), some (.ref fo), some (.ref ra), v6, v7, v8, v9] ∧ fs.length = T'.length ∧ Hx fo = some (.lst (fs.map V.int)) ∧ TupsAt Hx l (os.map (rankF T')) ∧ (∀ i, i < j → ∀ q : Nat, nth T' (os.getD i 0) = q → nth fs q + (if os.getD i 0 < q then 1 else 0) ≤ nth fs (os.getD i 0)) ∧ PoolAt Hx p ∧ Exc p H Hx) ⟨_, v6, none, none, none, rfl, List.length_replicate .., s2 _ _ hfo, hl, (fun i hi => by omega), P1.same s2, e1.same s2⟩ (fun j σ Hx hj ⟨_, _, _, _, _, _, _, _, hx, _⟩ => (hx.walk (K := K)).1 j Hx (Same.refl _) (by rw [lm]; exact hj)) (fun σ Hx ⟨_, _, _, _, _, _, _, _, hx, _⟩ => lm ▸ (hx.walk (K := K)).2.1 Hx (Same.refl _)) ?_ ?_
  · rintro j x σ Hx Hx' hj ⟨fs, v6, v7, v8, v9, rfl, hfl, hxf, hxl, hF, Px, ex⟩ y
    obtain ⟨rfl, a, rfl, ha⟩ := (hxl.walk (K := K)).2.2 j x Hx Hx' (by rw [lm]; exact hj) (Same.refl _) y
    have ej : (os.map (rankF T'))[j]'(by rw [lm]; exact hj) = rankF T' (os.getD j 0) := by
      rw [List.getElem_map]; congr 1; simp [show j < os.length by omega]
    rw [ej] at ha
    have hq0 := hlt j (by omega)
    have hF2 : ∀ i, i < j → os.getD i 0 ≠ os.getD j 0 ∧ (way T' (os.getD i 0)).length ≤ (way T' (os.getD j 0)).length := fun i hi => hos i j hi (by omega)
    have hl2 : ∀ i, i < j → os.getD i 0 < T'.length := fun i hi => hlt i (by omega)
    generalize hj0 : os.getD j 0 = q0 at ha hq0 hF2
    refine ⟨a, _, rfl, SqT.of ha, rfl, _, _, rfl, _, _, rfl, rfl, ?_⟩
    have htx := ex _ _ ntp ht
    walk_at "rd"
    refine ⟨_, SqT.of htx, _, nth_at hq0, _, rfl, ?_⟩
    rcases elder_cases hT (show q0 < ns.length by omega) with z | ⟨e, z, he, hO, _⟩
    · rw [z]
      refine ite2 (fun y => absurd y (by omega)) fun _ => ⟨fs, hfl, hxf, hxl, fun i hi q e => ?_, Px, ex⟩
      by_cases ei : i = j
      · rw [ei, hj0, z] at e; omega
      · exact hF i (by omega) q e
    · rw [z]
      have neq : e ≠ q0 := hO.ne
      refine ite2 (fun _ => ⟨_, _, rfl, SqL.of hxf, _, nth_at (show e < fs.length by omega), _, rfl, _, rfl, p, rise, rfl, by omega, by omega, Px, fun u H4 u0 u1 P4 e4 => ⟨_, rfl, _, e4 _ _ nfp hxf, q0, ?_, ?_⟩⟩) fun y => absurd (by omega) y
      · rw [List.length_map]; exact ixN_nat (by omega)
      rw [← List.map_set]
      have hx4 := e4 _ _ nfp hxf
      refine ⟨fs.set q0 (nth fs e + (if (q0 : Int) < (e : Int) then 1 else 0) + u), by simp [hfl], upd_same, (hxl.exc e4 Px nlp).updL hx4 nlf, fun i hi q eq => ?_, P4.updN nfp, (ex.trans e4).updN zf⟩
      have setn : ∀ r, r < fs.length → nth (fs.set q0 (nth fs e + (if (q0 : Int) < (e : Int) then 1 else 0) + u)) r = if q0 = r then nth fs e + (if (q0 : Int) < (e : Int) then 1 else 0) + u else nth fs r := fun r hr' => getD_set _ _ _ _ hr'
      by_cases ei : i = j
      · rw [ei, hj0, z] at eq
        have : q = e := by omega
        subst this
        rw [ei, hj0, setn q (by omega), setn q0 (by omega), if_neg neq.symm, if_pos rfl]
        by_cases y : q0 < q
        · rw [if_pos y, if_pos (by omega)]; omega
        · rw [if_neg y, if_neg (by omega)]; omega
      · have hij : i < j := by omega
        obtain ⟨n1, n2⟩ := hF2 i hij
        have hli := hl2 i hij
        have old := hF i hij q eq
        generalize os.getD i 0 = p0 at *
        rcases elder_cases hT (show p0 < ns.length by omega) with z' | ⟨e', z', he', _⟩
        · rw [z'] at eq; omega
        have : q = e' := by rw [z'] at eq; omega
        subst this
        have hw := way_cons hT (show p0 < ns.length by omega) z'
        rw [hw, List.length_cons] at n2
        have nq : q0 ≠ q := fun y => by subst y; omega
        rw [setn q (by omega), setn p0 (by omega), if_neg nq, if_neg (show ¬ q0 = p0 from fun y => n1 y.symm)]
        exact old
  · rintro σ Hx ⟨fs, v6, v7, v8, v9, rfl, hfl, hxf, hxl, hF, Px, ex⟩
    walk_at "rd"
    refine ⟨_, .inl ⟨SqL.of hxf, fun u hu => k1 u fs _ (ex.free (Px.ne hu) hu) (kin_tree hT hfl fun p q hp e => ?_) upd_same (Px.upd hu) (ex.same ((Same.refl Hx).upd hu))⟩⟩
    obtain ⟨i, hi, e2⟩ := List.getElem_of_mem (ho.mem_iff.mpr (List.mem_range.mpr hp))
    have e3 : os.getD i 0 = p := by simp [hi, e2]
    have := hF i (by omega) q (by rw [e3]; exact e)
    rwa [e3] at this

theorem ok_need_short {f : Addr} {fd : FuncData} (F : Fun K "need_short" "need_short" s_need_short f fd)  (T : Txt K mg) : FnOk P w K mg base (CXE P w) 1 f fd ["told"] (sp_need_short K mg) := by
  refine F.okX sc_need_short (fun vs H Q E h => ?_) (fun cdv A outer s H vs Q E hr h => ?_)
  · obtain ⟨t, xs, rfl, _⟩ := h; rfl
  obtain ⟨t, xs, rfl, ht, hn, k1⟩ := h
  refine ⟨_, (pss_one (ps_if (PW.pt (pw_or (pt_not (pt_val (pe_callB (call_isiK (K := K) rfl) rfl T.b_isinstance bt_isinstance (pa_cons (pv 0) (pa_cons (pe_bltn (v := .ty "tuple") rfl T.b_tuple bt_tuple rfl) pa_nil))))) (pw_or1 (pt_cmpR op_gt (pe_callB (call_lenK (K := K) rfl) rfl T.b_len PySem.boot_len (pa_cons (pv 0) pa_nil)) (pe_glob (v := .int 40) rfl T.m_MOST_PLACES ⟨_, rfl⟩) (nomark _))))) (pss_one (ps_raise rfl rfl T.c_NoTelling T.x_NoTelling (pa_cons (pe_joined (pj_text (by decide) (pj_int (pe_glob (v := .int 40) rfl T.m_MOST_PLACES ⟨_, rfl⟩) (pj_text (by decide) pj_nil)))) pa_nil) raisesE)) pss_nil)), ?_⟩
  walk_at "rd"
  refine ⟨true, .inl ⟨_, .tup ht, kit_self⟩, ite2 (fun z => nomatch z) fun _ => ⟨_, .inr (SqT.of ht), ite2 (fun z => absurd z (by omega)) fun _ => k1⟩⟩
theorem ok_by_drops {f : Addr} {fd : FuncData} (F : Fun K "by_drops" "by_drops" s_by_drops f fd) (G_settle : Callee P w K mg base "settle" 1 ["elders", "spine", "place", "keep"] (sp_settle K mg)) (G_need_short : Callee P w K mg base "need_short" 1 ["told"] (sp_need_short K mg)) (T : Txt K mg) : FnOk P w K mg base (CXE P w) 2 f fd ["told"] (sp_by_drops K mg) := by
  refine F.okX sc_by_drops (fun vs H Q E h => ?_) (fun cdv A outer s H vs Q E hr h => ?_)
  · obtain ⟨t, xs, rfl, _⟩ := h; rfl
  obtain ⟨t, ds, rfl, ht, hn, hD, k1⟩ := h
  refine ⟨_, (pss_cons (ps_expr (pe_callF G_need_short (hr.mono (by decide)) rfl pass_on (pa_cons (pv 0) pa_nil)))
      (pss_cons (ps_set (i := 1) sc_by_drops.nd rfl (Or.inl rfl) (pe_op op_rep (pe_lst (pa_cons (pe_un un_neg pe_int) pa_nil)) (pe_callB (call_lenK (K := K) rfl) rfl T.b_len PySem.boot_len (pa_cons (pv 0) pa_nil))))
      (pss_cons (ps_set (i := 2) sc_by_drops.nd rfl (Or.inl rfl) (pe_lst pa_nil))
      (pss_cons (ps_for PassesOwn.leaving rfl (pi_enumT (K := K) rfl rfl T.b_enumerate (pa_cons (pv 0) pa_nil)) (pg_tup (n := 2) rfl (pgs_cons (pg_name (i := 3) sc_by_drops.nd rfl (Or.inl rfl)) (pgs_cons (pg_name (i := 4) sc_by_drops.nd rfl (Or.inl rfl)) pgs_nil))) (pss_cons (ps_if (pt_not (pt_chain op_le op_le pe_int (pv 4) (pe_callB (call_lenK (K := K) rfl) rfl T.b_len PySem.boot_len (pa_cons (pv 2) pa_nil)))) (pss_one (ps_raise rfl rfl T.c_NoTelling T.x_NoTelling (pa_cons (pe_joined (pj_text (by decide) (pj_int (pv 3) pj_nil))) pa_nil) raisesE)) pss_nil)
      (pss_one (ps_expr (pe_callF G_settle (hr.mono (by decide)) rfl passE (pa_cons (pv 1) (pa_cons (pv 2) (pa_cons (pv 3) (pa_cons (pe_op op_sub (pe_callB (call_lenK (K := K) rfl) rfl T.b_len PySem.boot_len (pa_cons (pv 2) pa_nil)) (pv 4)) pa_nil)))))))))
      (pss_one (ps_ret (pe_callTy (call_tupK (K := K) rfl) rfl T.b_tuple bt_tuple (pa_cons (pv 1) pa_nil)))))))), ?_⟩
  walk_at "rd"
  have eL : (natsV ds).length = ds.length := natsV_len ds
  refine ⟨t, _, rfl, ht, by rw [eL]; exact hn, by decide, fun p hp => ⟨_, .inr (SqT.of (((Same.refl H).upd hp) _ _ ht)), _, upd_same, by omega, by rw [eL]; omega, ?_, fun el hel => ⟨Nat.zero_le _, fun sp hsp => ?_⟩⟩⟩
  · exact Nat.le_trans (show _ ≤ 1000 by simp; omega) (by decide)
  have en : (((natsV ds).length : Nat) : Int).toNat = ds.length := by rw [eL]; omega
  have s0 : Same H (upd (upd (upd H p (.lst [V.int (-1)])) el (.lst (List.replicate (((natsV ds).length : Nat) : Int).toNat [V.int (-1)]).flatten)) sp (.lst [])) := (((Same.refl H).upd hp).upd' hel).upd' hsp
  refine ⟨_, SqT.of (s0 _ _ ht), ?_⟩
  have hel0 : (upd (upd (upd H p (.lst [V.int (-1)])) el (.lst (List.replicate (((natsV ds).length : Nat) : Int).toNat [V.int (-1)]).flatten)) sp (.lst [])) el = some (.lst ((List.replicate ds.length (-1 : Int)).map V.int)) := by
    have := ((Same.refl _).upd' (o := .lst []) hsp) el _ upd_same
    rw [this, en]; simp
  have hsp0 : (upd (upd (upd H p (.lst [V.int (-1)])) el (.lst (List.replicate (((natsV ds).length : Nat) : Int).toNat [V.int (-1)]).flatten)) sp (.lst [])) sp = some (.lst (natsV [])) := upd_same
  have nes : el ≠ sp := fun z => by
    subst z
    rw [upd_same] at hsp; cases hsp
  have zel : H el = none := ((Same.refl H).upd hp).free hel
  have zsp : H sp = none := (((Same.refl H).upd hp).upd' hel).free hsp
  rw [en] at hel0 hsp0 s0 ⊢
  generalize (upd (upd (upd H p (.lst [V.int (-1)])) el (.lst (List.replicate ds.length [V.int (-1)]).flatten)) sp (.lst [])) = H0 at s0 hel0 hsp0 ⊢
  refine for_it (n := ds.length) (fun i σ Hx => ∃ (es : List Int) (S : List Nat) (v3 v4 : Option V), σ = [some (.ref t), some (.ref el), some (.ref sp), v3, v4] ∧ Hx el = some (.lst (es.map V.int)) ∧ Hx sp = some (.lst (natsV S)) ∧ hungSt ds i = (S, es) ∧ Same H Hx)
    ⟨List.replicate ds.length (-1), [], none, none, rfl, hel0, hsp0, rfl, s0⟩ (fun i σ Hx hi ⟨_, _, _, _, _, _, _, _, sx⟩ => ⟨_, _, SqT.of (sx _ _ ht), List.getElem?_eq_getElem (by rw [eL]; exact hi)⟩) (fun σ Hx ⟨_, _, _, _, _, _, _, _, sx⟩ => ⟨_, SqT.of (sx _ _ ht), eL⟩) ?_ ?_
  · rintro i x σ Hx Hx' hi ⟨es, S, v3, v4, rfl, hxe, hxs, hst0, sx⟩ ⟨q, x, hq, rfl, rfl, hx⟩
    have ex := hx _ (SqT.of (sx _ _ ht))
    have ed : (natsV ds)[i]? = some (V.int (ds.getD i 0 : Nat)) := by simp [natsV, List.getD_eq_getElem?_getD, hi]
    rw [ed] at ex
    cases ex
    have hdi := hD i hi
    obtain ⟨hH, hSl, hel', _⟩ := hungSt_ok hD i (by omega)
    rw [hst0] at hH hSl hel'
    have hSlt := hH.lt
    have hok := openN_le ds i
    have hSl : S.length = openN ds i := hSl
    have hel' : es.length = ds.length := hel'
    rw [← hSl] at hdi hok
    generalize hdd : ds.getD i 0 = d at hdi ed hx hq ⊢
    have g := (Same.refl Hx).upd (o := .tup [.int (i : Int), .int (d : Nat)]) hq
    have tq : (upd Hx q (.tup [.int (i : Int), .int (d : Nat)])) q = some (.tup [.int (i : Int), .int (d : Nat)]) := upd_same
    replace sx := sx.trans g
    replace hxe := g _ _ hxe
    replace hxs := g _ _ hxs
    generalize upd Hx q (.tup [.int (i : Int), .int (d : Nat)]) = Hy at sx hxe hxs tq ⊢
    clear g hx hq Hx
    refine ⟨q, _, rfl, SqT.of tq, rfl, _, _, rfl, _, _, rfl, rfl, ?_⟩
    clear tq
    obtain ⟨A', B, hAB, hBl⟩ := split_last S hdi
    have hSAB : S.length = A'.length + B.length := by rw [hAB, List.length_append]
    walk_at "rd"
    have hlx : (natsV S).length = S.length := natsV_len S
    refine ite2 (fun _ => ⟨_, .inl (SqL.of hxs), ite2 (fun z => absurd ?_ z) fun _ => ⟨_, .inl (SqL.of hxs), ?_⟩⟩) fun z => absurd (by omega) z
    · rw [hlx]; omega
    refine ⟨el, sp, es, A', B, i, ?_, hxe, by rw [← hAB]; exact hxs, nes, by omega, fun q hq => by have := hSlt q (by rw [hAB]; exact hq); omega, by rw [← hAB]; omega, fun H' q1 q2 q3 => ?_⟩
    · rw [hlx, show ((S.length : Nat) : Int) - (d : Nat) = (A'.length : Nat) by omega]
    refine ⟨setE es A' B i, q2, A' ++ [i], q3, ?_, fun b o z => q1 b o (ne_of_none z zel) (ne_of_none z zsp) (sx b o z)⟩
    rw [hungSt_step (A := A') (B := B) (by rw [hst0]; exact hAB) (by rw [hBl, hdd]), hst0]
  · rintro σ Hx ⟨es, S, v3, v4, rfl, hxe, hxs, hst0, sx⟩
    walk_at "rd"
    exact ⟨_, .inl ⟨SqL.of hxe, fun u hu => k1 u _ (sx.upd' hu) (by rw [upd_same]; unfold hungT; rw [hst0])⟩⟩
theorem ok_pick {f : Addr} {fd : FuncData} (F : Fun K "pick" "pick" s_pick f fd)  (T : Txt K mg) : FnOk P w K mg base (CXE P w) 1 f fd ["ways", "number"] (sp_pick K mg) := by
  refine F.okX sc_pick (fun vs H Q E h => ?_) (fun cdv A outer s H vs Q E hr h => ?_)
  · obtain ⟨t, ws, x, rfl, _⟩ := h; rfl
  obtain ⟨t, ws, x, rfl, ht, h0, h1, k1⟩ := h
  refine ⟨_, (pss_cons (ps_set (i := 2) sc_pick.nd rfl (Or.inl rfl) pe_int)
      (pss_cons (ps_nox (ps_while PassesOwn.never (pt_cmpR op_ge (pv 1) (pe_ix ix_list (pv 0) (pv 2) (fun _ _ => rfl)) (nomark _)) (pss_cons (ps_aug (i := 1) sc_pick.nd rfl (Or.inl rfl) (pe_ix ix_list (pv 0) (pv 2) (fun _ _ => rfl)) ip_sub)
      (pss_one (ps_aug (i := 2) sc_pick.nd rfl (Or.inl rfl) pe_int ip_add)))))
      (pss_one (ps_ret (pe_tup (pa_cons (pv 2) (pa_cons (pv 1) pa_nil))))))), ?_⟩
  walk_at "rd"
  refine while_i ws.length (fun i σ Hx => ∃ y : Int, σ = [some (.ref t), some (.int y), some (.int (i : Int))] ∧ 0 ≤ y ∧ y < (ws.drop i).sum ∧ pickN ws x = (i + (pickN (ws.drop i) y).1, (pickN (ws.drop i) y).2) ∧ Hx = H) ⟨x, rfl, h0, h1, by rw [List.drop_zero, Nat.zero_add], rfl⟩ ?_
  rintro i σ Hx hi ⟨y, rfl, y0, y1, hP, rfl⟩
  have hil : i < ws.length := by
    rcases Nat.lt_or_ge i ws.length with z | z
    · exact z
    · rw [List.drop_of_length_le z] at y1; simp at y1; omega
  have ea : ws[i]? = some (nth ws i) := by simp [nth, List.getD_eq_getElem?_getD, hil]
  rw [pickN_step ea] at hP
  have es : (ws.drop i).sum = nth ws i + (ws.drop (i + 1)).sum := by
    rw [List.drop_eq_getElem_cons hil, List.sum_cons]
    simp [nth, List.getD_eq_getElem?_getD, hil]
  walk_at "rd"
  refine ⟨_, SqL.of ht, _, nth_at hil, _, rfl, ite2 (fun z => ?_) fun z => ?_⟩
  · rw [if_pos z] at hP
    refine ⟨_, WI.next, _, SqL.of ht, _, nth_at hil, _, rfl, hil, _, rfl, by omega, by omega, ?_, rfl⟩
    rw [hP]; congr 1; omega
  · rw [if_neg z] at hP
    refine ⟨by decide, fun u hu => k1 u _ ((Same.refl _).upd hu) ?_⟩
    rw [upd_same, hP]; rfl

theorem ok_tree_at {f : Addr} {fd : FuncData} (F : Fun K "tree_at" "tree_at" s_tree_at f fd) (G_need_count : Callee P w K mg base "need_count" 1 ["n"] (sp_need_count K mg)) (G_by_drops : Callee P w K mg base "by_drops" 2 ["told"] (sp_by_drops K mg)) (G_pick : Callee P w K mg base "pick" 1 ["ways", "number"] (sp_pick K mg)) (G_goings_on : Callee P w K mg base "goings_on" 2 ["n"] (sp_goings_on K mg)) (G_drop_ways : Callee P w K mg base "drop_ways" 1 ["goings", "still"] (sp_drop_ways K mg)) (T : Txt K mg) : FnOk P w K mg base (CXE P w) 3 f fd ["n", "number"] (sp_tree_at K mg) := by
  refine F.okX sc_tree_at (fun vs H Q E h => ?_) (fun cdv A outer s H vs Q E hr h => ?_)
  · obtain ⟨n, x, rfl, _⟩ := h; rfl
  obtain ⟨n, x, rfl, k1, k2, k3⟩ := h
  refine ⟨_, (pss_cons (ps_expr (pe_callF G_need_count (hr.mono (by decide)) rfl pass_on (pa_cons (pv 0) pa_nil)))
      (pss_cons (ps_set (i := 2) sc_tree_at.nd rfl (Or.inl rfl) (pe_callF G_goings_on (hr.mono (by decide)) rfl passE (pa_cons (pv 0) pa_nil)))
      (pss_cons (ps_if (pt_not (pt_chain op_le op_lt pe_int (pv 1) (pe_ix ix_list (pe_ix ix_list (pv 2) (pv 0) (fun _ _ => rfl)) pe_int (fun _ _ => rfl)))) (pss_one (ps_raise rfl rfl T.c_NoNumber T.x_NoNumber (pa_cons (pe_joined (pj_text (by decide) (pj_int (pv 0) (pj_text (by decide) pj_nil)))) pa_nil) raisesE)) pss_nil)
      (pss_cons (ps_set (i := 3) sc_tree_at.nd rfl (Or.inl rfl) (pe_lst pa_nil))
      (pss_cons (ps_set (i := 4) sc_tree_at.nd rfl (Or.inl rfl) pe_int)
      (pss_cons (ps_nox (ps_for PassesOwn.never rfl (pi_revR rfl T.b_reversed (pa_cons (pe_range1 rfl T.b_range (pa_cons (pv 0) pa_nil)) pa_nil)) (pg_name (i := 5) sc_tree_at.nd rfl (Or.inl rfl)) (pss_cons (ps_asg (pe_callF G_pick (hr.mono (by decide)) rfl passE (pa_cons (pe_callF G_drop_ways (hr.mono (by decide)) rfl passE (pa_cons (pe_ix ix_list (pv 2) (pv 5) (fun _ _ => rfl)) (pa_cons (pv 4) pa_nil))) (pa_cons (pv 1) pa_nil))) (pg_tup (n := 2) rfl (pgs_cons (pg_name (i := 6) sc_tree_at.nd rfl (Or.inl rfl)) (pgs_cons (pg_name (i := 1) sc_tree_at.nd rfl (Or.inl rfl)) pgs_nil))))
      (pss_cons (ps_expr (pe_bm PySem.F.plainAttrs_list PySem.F.slot_list_append PySem.F.type_list_append mt_append (pv 3) (pa_cons (pv 6) pa_nil)))
      (pss_one (ps_aug (i := 4) sc_tree_at.nd rfl (Or.inl rfl) (pe_op op_sub pe_int (pv 6)) ip_add))))))
      (pss_one (ps_ret (pe_callF G_by_drops (hr.mono (by decide)) rfl pass_on (pa_cons (pe_callTy (call_tupK (K := K) rfl) rfl T.b_tuple bt_tuple (pa_cons (pv 3) pa_nil)) pa_nil)))))))))), ?_⟩
  walk_at "rd"
  refine ⟨n, rfl, fun hn => ?_, fun hn => k1 hn H (Same.refl H)⟩
  obtain ⟨m, rfl⟩ := Int.eq_ofNat_of_zero_le hn.1
  have hm : m ≤ 40 := by omega
  replace k2 := k2 m rfl hm
  replace k3 := k3 m rfl hm
  refine ⟨m, rfl, hm, fun tb H1 s1 htb => ?_⟩
  have hgl : (goTab (m + 1) m).length = m + 1 := by simp [goTab]
  refine ite2 (fun hx0 => ?_) fun hx0 => ⟨by omega, by omega, fun y => ⟨by decide, k2 (fun z => hx0 z.1) H1 s1⟩⟩
  obtain ⟨xs, a, x1, x2, x3⟩ := htb.at (K := K) (i := m) (by rw [hgl]; omega)
  have er : (goTab (m + 1) m)[m]'(by rw [hgl]; omega) = goRow m 1 := by
    unfold goTab
    rw [List.getElem_map, List.getElem_range]; congr 1; omega
  rw [er] at x3
  have e0 : atI ((goRow m 1).map V.int) 0 = some (V.int (goN m 0)) := by
    have := nth_at (ns := goRow m 1) (i := 0) (by rw [goRow_len]; omega)
    rw [goRow_nth (by omega)] at this
    exact this
  refine ⟨tb, rfl, _, x1, _, x2, a, rfl, _, SqL.of x3, _, e0, _, rfl, ite2 (fun z => ⟨by omega, by omega, fun y => ⟨by decide, k2 (fun q => z q.2) H1 s1⟩⟩) fun hx1 => ?_⟩
  replace hx1 := Decidable.not_not.mp hx1
  clear x1 x2 x3 er e0 xs a k1 k2
  refine ⟨Nat.zero_le _, fun dl hdl => ⟨by omega, by omega, fun rg hrg => ⟨_, _, upd_same, by omega, by omega, by omega, by omega, ?_⟩⟩⟩
  rw [show ((m : Int) - 0).toNat = m by omega]
  have g0 := ((Same.refl H1).upd (o := .lst []) hdl).upd' (o := .rng 0 m) hrg
  have hd0 : (upd (upd H1 dl (.lst [])) rg (.rng 0 m)) dl = some (.lst (natsV [])) := ((Same.refl _).upd' hrg) _ _ upd_same
  generalize upd (upd H1 dl (.lst [])) rg (.rng 0 m) = H2 at g0 hd0 ⊢
  clear hrg rg
  refine for_it (n := m) (fun k σ Hx => ∃ v5 v6, σ = [some (.int (m : Int)), some (.int (unrk m x k).2), some (.ref tb), some (.ref dl), some (.int (openN (unrk m x k).1 k : Nat)), v5, v6] ∧ Hx dl = some (.lst (natsV (unrk m x k).1)) ∧ Same H1 Hx) ⟨none, none, rfl, hd0, g0⟩ (fun i σ Hx hi _ => hi) (fun σ Hx _ => Nat.le_refl _) ?_ ?_
  · clear g0 hd0 H2
    rintro k v σ Hx Hx' hk ⟨v5, v6, rfl, hxd, sx⟩ ⟨rfl, rfl⟩
    obtain ⟨u1, u2, u3, u4⟩ := unrk_ok hx0 hx1 k (by omega)
    have hok := openN_le (unrk m x k).1 k
    have es1 : (unrk m x (k + 1)).1 = (unrk m x k).1 ++ [(pickN (waysL (m - 1 - k) (openN (unrk m x k).1 k)) (unrk m x k).2).1] := rfl
    have es2 : (unrk m x (k + 1)).2 = (pickN (waysL (m - 1 - k) (openN (unrk m x k).1 k)) (unrk m x k).2).2 := rfl
    have eso := unrk_open u1
    rw [show m - k = m - 1 - k + 1 by omega, ← waysL_sum] at u4
    have P1 := (pickN_ok _ _ u3 u4).1
    rw [waysL_len] at P1
    generalize openN (unrk m x (k + 1)).1 (k + 1) = st' at eso ⊢
    rw [es1, es2]
    clear es1 es2 u2
    generalize (unrk m x k).2 = y at u3 u4 P1 eso ⊢
    generalize openN (unrk m x k).1 k = st at u4 P1 eso hok ⊢
    generalize (unrk m x k).1 = ds at u1 hxd ⊢
    obtain ⟨xs, a, x1, x2, x3⟩ := (htb.same sx).at (K := K) (i := m - 1 - k) (by rw [hgl]; omega)
    have er : (goTab (m + 1) m)[m - 1 - k]'(by rw [hgl]; omega) = goRow (m - 1 - k) (k + 2) := by
      unfold goTab
      rw [List.getElem_map, List.getElem_range]; congr 1; omega
    rw [er] at x3
    have ei : (0 : Int) + (m : Nat) - 1 - (k : Nat) = ((m - 1 - k : Nat) : Int) := by omega
    rw [ei]
    walk_at "rd"
    refine ⟨_, x1, _, x2, a, m - 1 - k, k + 2, st, rfl, x3, by omega, by omega, fun l H3 s3 hl => ⟨l, waysL (m - 1 - k) st, y, rfl, hl, u3, u4, fun u H4 s4 hu => ?_⟩⟩
    generalize pickN (waysL (m - 1 - k) st) y = p at P1 eso hu ⊢
    have s5 := s3.trans s4
    have hd4 := s5 _ _ hxd
    refine ⟨u, rfl, _, SqT.of hu, rfl, _, _, rfl, _, _, rfl, rfl, tyV_list hd4, _, hd4, Nat.lt_of_le_of_lt (show _ ≤ 1000 by rw [natsV_len]; omega) (by decide), _, rfl, rfl, ?_, ?_, (sx.trans s5).upd hdl⟩
    · rw [eso]; omega
    · rw [upd_same, natsV_app]; rfl
  · rintro σ Hx ⟨v5, v6, rfl, hxd, sx⟩
    walk_at "rd"
    obtain ⟨u1, u2, _⟩ := unrk_ok hx0 hx1 m (by omega)
    refine ⟨_, .inl ⟨SqL.of hxd, fun u hu => ⟨u, (unrk m x m).1, rfl, upd_same, by omega, u2, fun w' H3 s3 hw => k3 hx0 hx1 w' H3 (s1.trans ((sx.upd' hu).trans s3)) hw⟩⟩⟩
def chk27 (n : Nat) (L : List (List Int)) : Bool := (List.range (n + 3)).all fun k => decide (openV (n : Nat) (-1 + (k : Nat)) = ((L.filter fun r => decide (r.getD 0 0 = -1 + ((k : Nat) : Int))).length : Nat)) && decide (fallsV (n : Nat) (-1 + (k : Nat)) = ((L.filter fun r => decide (r.getD 1 0 = -1 + ((k : Nat) : Int))).length : Nat)) && decide (flatV (n : Nat) (-1 + (k : Nat)) = ((L.filter fun r => decide (r.getD 2 0 ≤ -1 + ((k : Nat) : Int))).length : Nat))
theorem c27k : ∀ n < 7, chk27 n ((List.range (goN n 0).toNat).map (shapeL n)) = true := by decide +kernel
theorem c27c (n : Nat) (hn : n < 7) (k : Nat) (hk : k < n + 3) : openV (n : Nat) (-1 + (k : Nat)) = (((List.range (goN n 0).toNat).filter fun j => decide ((shapeL n j).getD 0 0 = -1 + ((k : Nat) : Int))).length : Nat) ∧ fallsV (n : Nat) (-1 + (k : Nat)) = (((List.range (goN n 0).toNat).filter fun j => decide ((shapeL n j).getD 1 0 = -1 + ((k : Nat) : Int))).length : Nat) ∧ flatV (n : Nat) (-1 + (k : Nat)) = (((List.range (goN n 0).toNat).filter fun j => decide ((shapeL n j).getD 2 0 ≤ -1 + ((k : Nat) : Int))).length : Nat) := by
  have h := List.all_eq_true.mp (c27k n hn) k (List.mem_range.mpr hk)
  rw [Bool.and_eq_true, Bool.and_eq_true, decide_eq_true_iff, decide_eq_true_iff, decide_eq_true_iff] at h
  obtain ⟨⟨h1, h2⟩, h3⟩ := h
  rw [List.filter_map, List.length_map] at h1 h2 h3
  exact ⟨h1, h2, h3⟩
theorem c27g : ∀ n < 7, goN n 0 ≤ 132 := by decide +kernel
def LastAt (n i : Nat) (v : Option V) (H : Hp) : Prop := (i = 0 ∧ v = some .non) ∨ ∃ (j : Nat) (a : Addr), i = j + 1 ∧ v = some (.ref a) ∧ H a = some (.tup (natsV (unrank n (j : Nat))))
theorem LastAt.same {n i : Nat} {v : Option V} {H H' : Hp} (h : LastAt n i v H) (s : Same H H') : LastAt n i v H' := by
  rcases h with h | ⟨j, a, e, e2, ha⟩
  · exact .inl h
  · exact .inr ⟨j, a, e, e2, s _ _ ha⟩
theorem ok__law_falls {f : Addr} {fd : FuncData} (F : Fun K "_law_falls" "_law_falls" s__law_falls f fd)  (T : Txt K mg) : FnOk P w K mg base (CXE P w) 1 f fd ["row"] (sp__law_falls K mg) := by
  refine F.okX sc__law_falls (fun vs H Q E h => ?_) (fun cdv A outer s H vs Q E hr h => ?_)
  · obtain ⟨r, ns, rfl, _⟩ := h; rfl
  obtain ⟨r, ns, rfl, hr', hn, k1⟩ := h
  refine ⟨_, (pss_one (ps_ret (pe_callB (call_lenK (K := K) rfl) rfl T.b_len PySem.boot_len (pa_cons (pe_compN ["k", "row"] [none, some 0] rfl rfl rfl (pi_range2 rfl T.b_range (pa_cons pe_int (pa_cons (pe_callB (call_lenK (K := K) rfl) rfl T.b_len PySem.boot_len (pa_cons (pv 0) pa_nil)) pa_nil))) (fun _ _ _ _ _ => (pg_name (i := 0) (show (["k", "row"] : List Str).Nodup from by decide +kernel) rfl (Or.inl rfl))) (fun _ _ _ _ _ => pifs_one (pt_cmpR op_lt (pe_ix (r := rIxT K) ix_tup (pv 1) (pv 0) (fun _ _ => rfl)) (pe_ix (r := rIxT K) ix_tup (pv 1) (pe_op op_sub (pv 0) pe_int) (fun _ _ => rfl)) (nomark _))) (fun _ _ _ _ _ => (pv 0)) only_name) pa_nil)))), ?_⟩
  walk_at "rd"
  have el : (ns.map V.int).length = ns.length := List.length_map ..
  refine ⟨_, .inr (SqT.of hr'), by decide, by decide, by omega, by rw [el]; omega, ?_⟩
  rw [el, show ((ns.length : Int) - 1).toNat = ns.length - 1 by omega]
  refine comp_filt (n := ns.length - 1) (fun k => decide (nth ns (k + 1) < nth ns k)) (fun k => V.int ((k + 1 : Nat) : Int)) (Nat.lt_of_le_of_lt (show _ ≤ 1000 by omega) (by decide)) (fun k Hz s hk => hk) (fun Hz s => Nat.le_refl _) ?_ ?_
  · rintro k v Hx Hy hk s ⟨rfl, rfl⟩
    rw [show (1 : Int) + (k : Int) = ((k + 1 : Nat) : Int) by omega]
    walk_at "rd"
    refine ⟨_, SqT.of (s _ _ hr'), _, nth_at (by omega), _, SqT.of (s _ _ hr'), V.int (nth ns k), ?_, _, rfl, _, rfl, ite2 (fun z => CF.take hk (decide_eq_true z) rfl s) fun z => CF.skip hk (decide_eq_false z) s⟩
    rw [show ((k + 1 : Nat) : Int) - 1 = (k : Nat) by omega]
    exact nth_at (by omega)
  · intro l Hz s hl
    refine ⟨l, rfl, _, .inl (SqL.of upd_same), ?_⟩
    rw [List.length_map]
    exact k1 _ (s.upd' hl)
theorem ok__law_none_behind {f : Addr} {fd : FuncData} (F : Fun K "_law_none_behind" "_law_none_behind" s__law_none_behind f fd) (G_tree_at : Callee P w K mg base "tree_at" 3 ["n", "number"] (sp_tree_at K mg)) (G__law_alone : Callee P w K mg base "_law_alone" 1 ["e", "place"] (sp__law_alone K mg)) (T : Txt K mg) : FnOk P w K mg base (CXE P w) 4 f fd ["n", "number"] (sp__law_none_behind K mg) := by
  refine F.okX sc__law_none_behind (fun vs H Q E h => ?_) (fun cdv A outer s H vs Q E hr h => ?_)
  · obtain ⟨n, x, rfl, _⟩ := h; rfl
  obtain ⟨n, x, rfl, hn, hx, k1⟩ := h
  refine ⟨_, (pss_cons (ps_set (i := 2) sc__law_none_behind.nd rfl (Or.inl rfl) pe_non)
      (pss_cons (ps_try (j := 3) ⟨rfl, rfl⟩ sc__law_none_behind.nd rfl rfl rfl T.c_DipError T.x_DipError (fun Ec pl => (pss_one (ps_expr (pe_callFX G_tree_at (hr.mono (by decide)) rfl passT (pa_cons (pv 0) (pa_cons (pv 1) pa_nil)))))) (fun A' => (pss_one (ps_set (i := 2) sc__law_none_behind.nd rfl (Or.inl rfl) (pv 3)))))
      (pss_one (ps_ret (pe_callF G__law_alone (hr.mono (by decide)) rfl passE (pa_cons (pv 2) (pa_cons pe_int pa_nil))))))), ?_⟩
  walk_at "rd"
  refine ⟨fun σ1 C _ H1 => σ1 = [some (.int (n : Int)), some (.int x), some .non, none] ∧ C = cNN mg ∧ Same H H1, ?_, ?_⟩
  · walk_at "rd"
    exact ⟨n, x, rfl, fun h => absurd ⟨by omega, by omega⟩ h, fun m' e h _ H1 s1 => ⟨rfl, s1⟩, fun m' e h a b => absurd ⟨a, by rw [show n = m' by omega]; exact b⟩ hx⟩
  · rintro σ1 C H1 ⟨rfl, rfl, s1⟩
    refine ⟨_, rfl, T.up_NoNumber, fun e he => ?_⟩
    walk_at "rd"
    exact .inr ⟨e, rfl, upd_same, fun H' hs => k1 H' ((s1.upd' he).trans hs)⟩
theorem ok_law {f : Addr} {fd : FuncData} (F : Fun K "law" "law" s_law f fd) (G_many_trees : Callee P w K mg base "many_trees" 5 ["n"] (sp_many_trees K mg)) (G_many_open : Callee P w K mg base "many_open" 4 ["n", "k"] (sp_many_open K mg)) (G_many_falls : Callee P w K mg base "many_falls" 2 ["n", "k"] (sp_many_falls K mg)) (G_many_flat : Callee P w K mg base "many_flat" 4 ["n", "most"] (sp_many_flat K mg)) (G_tree_at : Callee P w K mg base "tree_at" 3 ["n", "number"] (sp_tree_at K mg)) (G_number_of : Callee P w K mg base "number_of" 6 ["tree"] (sp_number_of K mg)) (G__law_pool : Callee P w K mg base "_law_pool" 1 ["script", "k"] (sp__law_pool K mg)) (G__law_pick : Callee P w K mg base "_law_pick" 1 ["pool", "many"] (sp__law_pick K mg)) (G__law_flats : Callee P w K mg base "_law_flats" 2 ["tree"] (sp__law_flats K mg)) (G__law_is_tree : Callee P w K mg base "_law_is_tree" 3 ["tree"] (sp__law_is_tree K mg)) (G__law_kin_row : Callee P w K mg base "_law_kin_row" 2 ["pool", "tree"] (sp__law_kin_row K mg)) (G__law_drops_of : Callee P w K mg base "_law_drops_of" 1 ["row"] (sp__law_drops_of K mg)) (G__law_none_behind : Callee P w K mg base "_law_none_behind" 4 ["n", "number"] (sp__law_none_behind K mg)) (G__law_falls : Callee P w K mg base "_law_falls" 1 ["row"] (sp__law_falls K mg)) (T : Txt K mg) : FnOk P w K mg base (CXE P w) 7 f fd ["script"] (spLaw K) := by
  refine F.okX sc_law (fun vs H Q E h => ?_) (fun cdv A outer s H vs Q E hr h => ?_)
  · obtain ⟨a, ns, rfl, _⟩ := h; rfl
  obtain ⟨sc, ss, rfl, hsc, hss, k1⟩ := h
  refine ⟨_, (pss_cons (ps_set (i := 1) sc_law.nd rfl (Or.inl rfl) (pe_callF G__law_pool (hr.mono (by decide)) rfl passE (pa_cons (pv 0) (pa_cons pe_int pa_nil))))
      (pss_cons (ps_set (i := 2) sc_law.nd rfl (Or.inl rfl) (pe_callF G__law_pick (hr.mono (by decide)) rfl passE (pa_cons (pv 1) (pa_cons pe_int pa_nil))))
      (pss_cons (ps_set (i := 3) sc_law.nd rfl (Or.inl rfl) pe_non)
      (pss_cons (ps_set (i := 4) sc_law.nd rfl (Or.inl rfl) (pe_lst pa_nil))
      (pss_cons (ps_nox (ps_for PassesOwn.never rfl (pi_range1 rfl T.b_range (pa_cons (pe_callF G_many_trees (hr.mono (by decide)) rfl passE (pa_cons (pv 2) pa_nil)) pa_nil)) (pg_name (i := 5) sc_law.nd rfl (Or.inl rfl)) (pss_cons (ps_set (i := 6) sc_law.nd rfl (Or.inl rfl) (pe_callF G_tree_at (hr.mono (by decide)) rfl passE (pa_cons (pv 2) (pa_cons (pv 5) pa_nil))))
      (pss_cons (ps_if (PW.pt (pw_or (pt_cmpR op_ne (pe_callB (call_lenK (K := K) rfl) rfl T.b_len PySem.boot_len (pa_cons (pv 6) pa_nil)) (pv 2) (nomark _)) (pw_or (pt_not (pt_val (pe_callF G__law_is_tree (hr.mono (by decide)) rfl passE (pa_cons (pv 6) pa_nil)))) (pw_or1 (pt_cmpR op_ne (pe_callF G_number_of (hr.mono (by decide)) rfl passE (pa_cons (pv 6) pa_nil)) (pv 5) (nomark _)))))) (pss_one (ps_ret pe_bl)) pss_nil)
      (pss_cons (ps_set (i := 7) sc_law.nd rfl (Or.inl rfl) (pe_callF G__law_flats (hr.mono (by decide)) rfl passE (pa_cons (pv 6) pa_nil)))
      (pss_cons (ps_set (i := 8) sc_law.nd rfl (Or.inl rfl) (pe_callF G__law_drops_of (hr.mono (by decide)) rfl passE (pa_cons (pv 7) pa_nil)))
      (pss_cons (ps_if (PW.pt (pw_and (pt_cmpR op_notN (pv 3) pe_non (nomark _)) (pw_and1 (pt_not (pt_cmpR (op_ltQ (K := K) rfl hr) (pv 3) (pv 8) (nomark _)))))) (pss_one (ps_ret pe_bl)) pss_nil)
      (pss_cons (ps_set (i := 3) sc_law.nd rfl (Or.inl rfl) (pv 8))
      (pss_cons (ps_expr (pe_bm PySem.F.plainAttrs_list PySem.F.slot_list_append PySem.F.type_list_append mt_append (pv 4) (pa_cons (pe_tup (pa_cons (pe_op op_sub (pv 2) (pe_callB (call_sumT (K := K) rfl rfl) rfl T.b_sum bt_sum (pa_cons (pv 8) pa_nil))) (pa_cons (pe_callF G__law_falls (hr.mono (by decide)) rfl passE (pa_cons (pv 7) pa_nil)) (pa_cons (pe_maxDT (K := K) rfl rfl rfl T.b_max (pa_cons (pv 7) pa_nil) (pk_cons (pe_un un_neg pe_int) pk_nil)) pa_nil)))) pa_nil)))
      (pss_one (ps_if (pt_cmpR op_ne (pe_callF G__law_falls (hr.mono (by decide)) rfl passE (pa_cons (pe_callF G__law_kin_row (hr.mono (by decide)) rfl passE (pa_cons (pv 1) (pa_cons (pv 6) pa_nil))) pa_nil)) (pe_callF G__law_falls (hr.mono (by decide)) rfl passE (pa_cons (pv 7) pa_nil)) (nomark _)) (pss_one (ps_ret pe_bl)) pss_nil)))))))))))
      (pss_cons (ps_nox (ps_for PassesOwn.never rfl (pi_range2 rfl T.b_range (pa_cons (pe_un un_neg pe_int) (pa_cons (pe_op op_add (pv 2) pe_int) pa_nil))) (pg_name (i := 9) sc_law.nd rfl (Or.inr rfl)) (pss_cons (ps_if (pt_cmpR op_ne (pe_callF G_many_open (hr.mono (by decide)) rfl passE (pa_cons (pv 2) (pa_cons (pv 9) pa_nil))) (pe_callB (call_lenK (K := K) rfl) rfl T.b_len PySem.boot_len (pa_cons (pe_compN ["shape", "k"] [none, some 9] rfl rfl rfl (pi_list (pv 4)) (fun _ _ _ _ _ => (pg_name (i := 0) (show (["shape", "k"] : List Str).Nodup from by decide +kernel) rfl (Or.inl rfl))) (fun _ _ _ _ _ => pifs_one (pt_cmpR op_eq (pe_ix (r := rIxT K) ix_tup (pv 0) pe_int (fun _ _ => rfl)) (pv 1) (nomark _))) (fun _ _ _ _ _ => (pv 0)) only_name) pa_nil)) (nomark _)) (pss_one (ps_ret pe_bl)) pss_nil)
      (pss_cons (ps_if (pt_cmpR op_ne (pe_callF G_many_falls (hr.mono (by decide)) rfl passE (pa_cons (pv 2) (pa_cons (pv 9) pa_nil))) (pe_callB (call_lenK (K := K) rfl) rfl T.b_len PySem.boot_len (pa_cons (pe_compN ["shape", "k"] [none, some 9] rfl rfl rfl (pi_list (pv 4)) (fun _ _ _ _ _ => (pg_name (i := 0) (show (["shape", "k"] : List Str).Nodup from by decide +kernel) rfl (Or.inl rfl))) (fun _ _ _ _ _ => pifs_one (pt_cmpR op_eq (pe_ix (r := rIxT K) ix_tup (pv 0) pe_int (fun _ _ => rfl)) (pv 1) (nomark _))) (fun _ _ _ _ _ => (pv 0)) only_name) pa_nil)) (nomark _)) (pss_one (ps_ret pe_bl)) pss_nil)
      (pss_one (ps_if (pt_cmpR op_ne (pe_callF G_many_flat (hr.mono (by decide)) rfl passE (pa_cons (pv 2) (pa_cons (pv 9) pa_nil))) (pe_callB (call_lenK (K := K) rfl) rfl T.b_len PySem.boot_len (pa_cons (pe_compN ["shape", "k"] [none, some 9] rfl rfl rfl (pi_list (pv 4)) (fun _ _ _ _ _ => (pg_name (i := 0) (show (["shape", "k"] : List Str).Nodup from by decide +kernel) rfl (Or.inl rfl))) (fun _ _ _ _ _ => pifs_one (pt_cmpR op_le (pe_ix (r := rIxT K) ix_tup (pv 0) pe_int (fun _ _ => rfl)) (pv 1) (nomark _))) (fun _ _ _ _ _ => (pv 0)) only_name) pa_nil)) (nomark _)) (pss_one (ps_ret pe_bl)) pss_nil))))))
      (pss_one (ps_ret (pe_callF G__law_none_behind (hr.mono (by decide)) rfl passE (pa_cons (pv 2) (pa_cons (pe_callB (call_lenK (K := K) rfl) rfl T.b_len PySem.boot_len (pa_cons (pv 4) pa_nil)) pa_nil))))))))))), ?_⟩
  refine seqR (fun σ Hx => ∃ p, σ = [some (.ref sc), some (.ref p), none, none, none, none, none, none, none, none] ∧ H p = none ∧ PoolAt Hx p ∧ Same H Hx) (fun R hR => ?_) ?_
  · walk_at "rd"
    exact ⟨sc, ss, _, rfl, hsc, by omega, by omega, fun p H1 hp s1 P1 => hR _ _ ⟨p, rfl, hp, P1, s1⟩⟩
  rintro σ H1 ⟨p, rfl, zp, P1, s1⟩
  refine seqR (fun σ Hx => ∃ n : Nat, σ = [some (.ref sc), some (.ref p), some (.int (n : Int)), none, none, none, none, none, none, none] ∧ n < 7 ∧ PoolAt Hx p ∧ Same H Hx) (fun R hR => ?_) ?_
  · walk_at "rd"
    refine ⟨p, _, rfl, by decide, by decide, P1, fun d H2 d0 d1 P2 e2 => ?_⟩
    obtain ⟨n, rfl⟩ := Int.eq_ofNat_of_zero_le d0
    exact hR _ _ ⟨n, rfl, by omega, P2, s1.exc zp e2⟩
  clear s1 P1 H1
  rintro σ H1 ⟨n, rfl, hn, P1, s1⟩
  refine seqR (fun σ Hx => σ = [some (.ref sc), some (.ref p), some (.int (n : Int)), some .non, none, none, none, none, none, none] ∧ PoolAt Hx p ∧ Same H Hx) (fun R hR => ?_) ?_
  · walk_at "rd"
    exact hR _ _ ⟨rfl, P1, s1⟩
  clear s1 P1 H1
  rintro σ H1 ⟨rfl, P1, s1⟩
  refine seqR (fun σ Hx => ∃ l : Addr, σ = [some (.ref sc), some (.ref p), some (.int (n : Int)), some .non, some (.ref l), none, none, none, none, none] ∧ H l = none ∧ l ≠ p ∧ Hx l = some (.lst []) ∧ PoolAt Hx p ∧ Same H Hx) (fun R hR => ?_) ?_
  · walk_at "rd"
    exact ⟨Nat.zero_le _, fun l hl => hR _ _ ⟨l, rfl, s1.free hl, P1.ne hl, upd_same, P1.upd hl, s1.upd' hl⟩⟩
  clear s1 P1 H1
  rintro σ H1 ⟨l, rfl, zl, nlp, hl, P1, s1⟩
  have eT := trees_go (show n ≤ 40 by omega)
  have ht0 := goN_pos n 0
  refine seqR (fun σ Hx => ∃ v3 v5 v6 v7 v8, σ = [some (.ref sc), some (.ref p), some (.int (n : Int)), v3, some (.ref l), v5, v6, v7, v8, none] ∧ TupsAt Hx l ((List.range (goN n 0).toNat).map (shapeL n)) ∧ Same H Hx) (fun R hR => ?_) ?_
  · walk_at "rd"
    refine ⟨n, rfl, fun _ H2 s2 => ?_, fun z => absurd ⟨by omega, by omega⟩ z⟩
    rw [eT]
    have hg132 := c27g n hn
    refine ⟨_, rfl, by omega, by omega, for_range (fun i σ Hx => ∃ v3 v5 v6 v7 v8, σ = [some (.ref sc), some (.ref p), some (.int (n : Int)), v3, some (.ref l), v5, v6, v7, v8, none] ∧ LastAt n i v3 Hx ∧ TupsAt Hx l ((List.range i).map (shapeL n)) ∧ PoolAt Hx p ∧ Same H Hx) ⟨_, _, _, _, _, rfl, .inl ⟨rfl, rfl⟩, TupsAt.nil (s2 _ _ hl), P1.same s2, s1.trans s2⟩ ?_ ?_⟩
    · clear hl s1 P1 s2 H1 H2
      rintro i σ H1 hi ⟨v3, v5, v6, v7, v8, rfl, hv3, hL, P1, s1⟩
      have i0 : (0 : Int) ≤ (i : Nat) := by omega
      have i1 : ((i : Nat) : Int) < goN n 0 := by omega
      rw [show (0 : Int) + (i : Int) = ((i : Nat) : Int) by omega]
      obtain ⟨ul, uD, _⟩ := unrk_ok i0 i1 n (Nat.le_refl _)
      have ul : (unrank n (i : Nat)).length = n := ul
      have uD : DropsOk (unrank n (i : Nat)) := uD
      obtain ⟨ns, hT, hnl, hdr⟩ := hung_drops uD
      have lT := hungT_len uD
      have hru := rank_unrank i0 i1
      have hF := flat_tree hT
      have lF := flatI_len (hungT (unrank n (i : Nat)))
      refine seqR (fun σ Hx => ∃ t : Addr, σ = [some (.ref sc), some (.ref p), some (.int (n : Int)), v3, some (.ref l), some (.int (i : Nat)), some (.ref t), v7, v8, none] ∧ Hx t = some (.tup ((hungT (unrank n (i : Nat))).map V.int)) ∧ LastAt n i v3 Hx ∧ TupsAt Hx l ((List.range i).map (shapeL n)) ∧ PoolAt Hx p ∧ Same H Hx) (fun R hR => ?_) ?_
      · walk_at "rd"
        refine ⟨n, (i : Nat), rfl, fun z => absurd ⟨by omega, by omega⟩ z, fun m' e _ z => absurd ⟨i0, by rw [show m' = n by omega]; exact i1⟩ z, fun m' e _ _ _ t H2 s2 ht => ?_⟩
        rw [show m' = n by omega] at ht
        exact hR _ _ ⟨t, rfl, ht, hv3.same s2, hL.same s2, P1.same s2, s1.trans s2⟩
      clear hv3 hL P1 s1 H1
      rintro σ H1 ⟨t, rfl, ht, hv3, hL, P1, s1⟩
      refine seqR (fun σ Hx => σ = [some (.ref sc), some (.ref p), some (.int (n : Int)), v3, some (.ref l), some (.int (i : Nat)), some (.ref t), v7, v8, none] ∧ Same H1 Hx) (fun R hR => ?_) ?_
      · walk_at "rd"
        refine ⟨_, .inr (SqT.of ht), ite2 (fun z => absurd (by rw [List.length_map]; omega) z) fun _ => ⟨t, _, rfl, ht, by omega, fun _ H2 s2 => ⟨true, rfl, ite2 (fun z => nomatch z) fun _ => ⟨t, _, rfl, s2 _ _ ht, by omega, .inl ⟨ns, by omega, hT, fun H3 s3 => ?_⟩⟩⟩, fun ng => absurd ⟨by omega, ns, hT⟩ ng⟩⟩
        rw [hdr, hnl, ul, hru]
        exact ⟨rfl, ite2 (fun z => absurd rfl z) fun _ => hR _ _ ⟨rfl, s2.trans s3⟩⟩
      rintro σ H2 ⟨rfl, s2⟩
      refine seqR (fun σ Hx => ∃ u : Addr, σ = [some (.ref sc), some (.ref p), some (.int (n : Int)), v3, some (.ref l), some (.int (i : Nat)), some (.ref t), some (.ref u), v8, none] ∧ Hx u = some (.tup ((flatI (hungT (unrank n (i : Nat)))).map V.int)) ∧ Same H1 Hx) (fun R hR => ?_) ?_
      · walk_at "rd"
        exact ⟨t, _, rfl, s2 _ _ ht, by omega, fun _ u H3 s3 hu => hR _ _ ⟨u, rfl, hu, s2.trans s3⟩, fun ng => absurd ⟨ns, hT⟩ ng⟩
      clear s2 H2
      rintro σ H2 ⟨u, rfl, hu, s2⟩
      refine seqR (fun σ Hx => ∃ d : Addr, σ = [some (.ref sc), some (.ref p), some (.int (n : Int)), v3, some (.ref l), some (.int (i : Nat)), some (.ref t), some (.ref u), some (.ref d), none] ∧ Hx d = some (.tup (natsV (unrank n (i : Nat)))) ∧ Hx u = some (.tup ((flatI (hungT (unrank n (i : Nat)))).map V.int)) ∧ Same H1 Hx) (fun R hR => ?_) ?_
      · walk_at "rd"
        refine ⟨u, _, rfl, hu, by omega, fun d H3 s3 hd => hR _ _ ⟨d, rfl, ?_, s3 _ _ hu, s2.trans s3⟩⟩
        rw [hd, ← dropsN_trees hT hF, hdr]
      clear s2 hu H2
      rintro σ H2 ⟨d, rfl, hd, hu, s2⟩
      replace ht := s2 _ _ ht
      replace hv3 := hv3.same s2
      replace hL := hL.same s2
      replace P1 := P1.same s2
      replace s1 := s1.trans s2
      clear s2 H1
      refine seqR (fun σ Hx => σ = [some (.ref sc), some (.ref p), some (.int (n : Int)), v3, some (.ref l), some (.int (i : Nat)), some (.ref t), some (.ref u), some (.ref d), none] ∧ Hx = H2) (fun R hR => ?_) ?_
      · rcases hv3 with ⟨rfl, rfl⟩ | ⟨j, a, rfl, rfl, ha⟩
        · walk_at "rd"
          exact ite2 (fun z => absurd trivial z) fun _ => hR _ _ ⟨rfl, rfl⟩
        · walk_at "rd"
          rw [nats_ints] at ha hd
          refine ite2 (fun _ => ⟨_, SqT.of ha, _, SqT.of hd, ite2 (fun z => ?_) fun _ => hR _ _ ⟨rfl, rfl⟩⟩) fun z => absurd (fun q => nomatch q) z
          rw [unrank_lt (by omega) (by omega) i1] at z
          exact nomatch z
      rintro σ Hx ⟨rfl, rfl⟩
      refine seqR (fun σ Hy => σ = [some (.ref sc), some (.ref p), some (.int (n : Int)), some (.ref d), some (.ref l), some (.int (i : Nat)), some (.ref t), some (.ref u), some (.ref d), none] ∧ Hy = Hx) (fun R hR => ?_) ?_
      · walk_at "rd"
        exact hR _ _ ⟨rfl, rfl⟩
      rintro σ Hy ⟨rfl, rfl⟩
      refine seqR (fun σ Hx => σ = [some (.ref sc), some (.ref p), some (.int (n : Int)), some (.ref d), some (.ref l), some (.int (i : Nat)), some (.ref t), some (.ref u), some (.ref d), none] ∧ TupsAt Hx l ((List.range (i + 1)).map (shapeL n)) ∧ Hx t = some (.tup ((hungT (unrank n (i : Nat))).map V.int)) ∧ Hx d = some (.tup (natsV (unrank n (i : Nat)))) ∧ Hx u = some (.tup ((flatI (hungT (unrank n (i : Nat)))).map V.int)) ∧ PoolAt Hx p ∧ Same H Hx) (fun R hR => ?_) ?_
      · walk_at "rd"
        have hd' := hd
        rw [nats_ints] at hd'
        obtain ⟨as, ha, hal, hat⟩ := id hL
        have hsum : ((unrank n (i : Nat)).map fun (d : Nat) => (d : Int)).sum = ((unrank n (i : Nat)).sum : Nat) := sum_cast _
        have ntl : t ≠ l := fun z => by rw [z, ha] at ht; cases ht
        have ndl : d ≠ l := fun z => by rw [z, ha] at hd; cases hd
        have nul : u ≠ l := fun z => by rw [z, ha] at hu; cases hu
        refine ⟨tyV_list ha, _, SqT.of hd', u, _, rfl, hu, by omega, fun H2 s2 => ?_⟩
        rw [hsum]
        have fin : ∀ m : Int, m = maxI (flatI (hungT (unrank n (i : Nat)))) → 0 + 1 + 1 + 1 ≤ sizeLine ∧ ∀ q, H2 q = none → ∃ x3, upd H2 q (HO.tup [V.int ((n : Int) - ((unrank n (i : Nat)).sum : Nat)), V.int (fallsI (flatI (hungT (unrank n (i : Nat)))) : Nat), V.int m]) l = some (HO.lst x3) ∧ x3.length < sizeLine ∧ R [some (.ref sc), some (.ref p), some (.int (n : Int)), some (.ref d), some (.ref l), some (.int (i : Nat)), some (.ref t), some (.ref u), some (.ref d), none] (upd (upd H2 q (HO.tup [V.int ((n : Int) - ((unrank n (i : Nat)).sum : Nat)), V.int (fallsI (flatI (hungT (unrank n (i : Nat)))) : Nat), V.int m])) l (HO.lst (x3 ++ [V.ref q]))) := by
          rintro m rfl
          refine ⟨by decide, fun q hq => ?_⟩
          have hq1 : (upd H2 q (HO.tup [V.int ((n : Int) - ((unrank n (i : Nat)).sum : Nat)), V.int (fallsI (flatI (hungT (unrank n (i : Nat)))) : Nat), V.int (maxI (flatI (hungT (unrank n (i : Nat)))))])) q = some (.tup ((shapeL n i).map V.int)) := upd_same
          have g := s2.upd' (o := HO.tup [V.int ((n : Int) - ((unrank n (i : Nat)).sum : Nat)), V.int (fallsI (flatI (hungT (unrank n (i : Nat)))) : Nat), V.int (maxI (flatI (hungT (unrank n (i : Nat)))))]) hq
          generalize upd H2 q (HO.tup [V.int ((n : Int) - ((unrank n (i : Nat)).sum : Nat)), V.int (fallsI (flatI (hungT (unrank n (i : Nat)))) : Nat), V.int (maxI (flatI (hungT (unrank n (i : Nat)))))]) = H3 at hq1 g ⊢
          have ps := TupsAt.push (g _ _ ha) hal (fun i i1 i2 => g _ _ (hat i i1 i2)) hq1
          refine ⟨_, g _ _ ha, Nat.lt_of_le_of_lt (show _ ≤ 1000 by rw [List.length_map, hal, List.length_map, List.length_range]; omega) (by decide), hR _ _ ⟨rfl, ?_, by rw [upd_ne ntl]; exact g _ _ ht, by rw [upd_ne ndl]; exact g _ _ hd, by rw [upd_ne nul]; exact g _ _ hu, ?_, (s1.trans g).upd zl⟩⟩
          · rw [List.range_succ, List.map_append]; exact ps
          · obtain ⟨x, y, e, r⟩ := P1.same g
            exact ⟨x, y, by rw [upd_ne nlp.symm]; exact e, r⟩
        exact ⟨_, SqT.of (s2 _ _ hu), fun e => fin _ (by rw [e]; rfl), fun ne m hm hle => fin m (maxI_is hm hle (by have := flatI_pos m hm; omega)).symm⟩
      clear hL hd hu ht s1 P1 hv3 Hy
      rintro σ H1 ⟨rfl, hL, ht, hd, hu, P1, s1⟩
      walk_at "rd"
      have nup : u ≠ p := fun z => by obtain ⟨x, y, e, _⟩ := P1; rw [z, e] at hu; cases hu
      have ndp : d ≠ p := fun z => by obtain ⟨x, y, e, _⟩ := P1; rw [z, e] at hd; cases hd
      refine ⟨p, t, _, rfl, P1, ht, by omega, ⟨ns, hT⟩, fun r ms H2 zr hM hr2 P2 e2 => ⟨r, ms, rfl, hr2, by have := hM.1; omega, fun H3 s3 => ⟨u, _, rfl, s3 _ _ (e2 u _ nup hu), by omega, fun H4 s4 => ?_⟩⟩⟩
      rw [falls_trees hM hF]
      have s34 := s3.trans s4
      exact ⟨rfl, ite2 (fun z => absurd rfl z) fun _ => ⟨.inr ⟨i, d, rfl, rfl, s34 _ _ (e2 d _ ndp hd)⟩, (hL.exc e2 P1 nlp).same s34, P2.same s34, (s1.exc zp e2).trans s34⟩⟩
    · rintro σ Hx ⟨v3, v5, v6, v7, v8, rfl, _, hL, _, sx⟩
      exact hR _ _ ⟨v3, v5, v6, v7, v8, rfl, hL, sx⟩
  clear hl s1 P1 H1
  rintro σ H1 ⟨v3, v5, v6, v7, v8, rfl, hL, s1⟩
  refine seqR (fun σ Hx => ∃ v9, σ = [some (.ref sc), some (.ref p), some (.int (n : Int)), v3, some (.ref l), v5, v6, v7, v8, v9] ∧ TupsAt Hx l ((List.range (goN n 0).toNat).map (shapeL n)) ∧ Same H Hx) (fun R hR => ?_) ?_
  · walk_at "rd"
    refine ⟨by decide, by decide, by omega, by omega, ?_⟩
    rw [show ((n : Int) + 2 - -1).toNat = n + 3 by omega]
    refine for_range (fun k σ Hx => ∃ v9, σ = [some (.ref sc), some (.ref p), some (.int (n : Int)), v3, some (.ref l), v5, v6, v7, v8, v9] ∧ TupsAt Hx l ((List.range (goN n 0).toNat).map (shapeL n)) ∧ Same H Hx) ⟨_, rfl, hL, s1⟩ ?_ ?_
    · clear hL s1 H1
      rintro k σ H1 hk ⟨v9, rfl, hL, s1⟩
      have hc := c27c n hn k hk
      have hg132 := c27g n hn
      refine seqR (fun σ Hx => σ = [some (.ref sc), some (.ref p), some (.int (n : Int)), v3, some (.ref l), v5, v6, v7, v8, some (.int (-1 + (k : Int)))] ∧ TupsAt Hx l ((List.range (goN n 0).toNat).map (shapeL n)) ∧ Same H Hx) (fun R hR => ?_) ?_
      · walk_at "rd"
        refine ⟨n, _, rfl, fun _ H2 s2 => ?_, fun z => absurd ⟨by omega, by omega⟩ z⟩
        obtain ⟨as, ha, hal, hat⟩ := id (hL.same s2)
        rw [List.length_map, List.length_range] at hal
        have hat' : ∀ j (h : j < as.length), H2 as[j] = some (.tup ((shapeL n j).map V.int)) := fun j h => by
          have := hat j h (by rw [List.length_map, List.length_range]; omega)
          simpa using this
        refine ⟨⟨_, SqL.of ha⟩, ?_⟩
        refine comp_filt (n := (goN n 0).toNat) (fun j => decide ((shapeL n j).getD 0 0 = -1 + (k : Int))) (fun j => V.ref (as.getD j 0)) (Nat.lt_of_le_of_lt (show _ ≤ 1000 by omega) (by decide)) (fun j Hz s hj => ⟨_, _, SqL.of (s _ _ ha), List.getElem?_eq_getElem (by rw [List.length_map]; omega)⟩) (fun Hz s => ⟨_, SqL.of (s _ _ ha), by rw [List.length_map]; omega⟩) ?_ ?_
        · rintro j v Hx Hy hj s ⟨rfl, hv⟩
          have hv := hv _ (SqL.of (s _ _ ha))
          rw [List.getElem?_map, List.getElem?_eq_getElem (by omega)] at hv
          cases hv
          have ev : V.ref as[j] = V.ref (as.getD j 0) := by rw [List.getD_eq_getElem?_getD, List.getElem?_eq_getElem (by omega)]; rfl
          walk_at "rd"
          exact ⟨_, SqT.of (s _ _ (hat' j (by omega))), _, rfl, rfl, ite2 (fun z => CF.take hj (decide_eq_true (by injection z)) ev s) fun z => CF.skip hj (decide_eq_false (fun q => z (congrArg V.int q))) s⟩
        · intro l' Hz s hl'
          have gz := s2.trans (s.upd' (o := .lst (((List.range (goN n 0).toNat).filter (fun j => decide ((shapeL n j).getD 0 0 = -1 + (k : Int)))).map fun j => V.ref (as.getD j 0))) hl')
          refine ⟨l', rfl, _, .inl (SqL.of upd_same), ?_⟩
          rw [List.length_map, hc.1]
          exact ⟨rfl, ite2 (fun z => absurd rfl z) fun _ => hR _ _ ⟨rfl, hL.same gz, s1.trans gz⟩⟩
      clear hL s1 H1
      rintro σ H1 ⟨rfl, hL, s1⟩
      refine seqR (fun σ Hx => σ = [some (.ref sc), some (.ref p), some (.int (n : Int)), v3, some (.ref l), v5, v6, v7, v8, some (.int (-1 + (k : Int)))] ∧ TupsAt Hx l ((List.range (goN n 0).toNat).map (shapeL n)) ∧ Same H Hx) (fun R hR => ?_) ?_
      · walk_at "rd"
        refine ⟨n, _, rfl, fun _ => ?_, fun z => absurd ⟨by omega, by omega⟩ z⟩
        obtain ⟨H2, s2⟩ : ∃ H2, H2 = H1 := ⟨_, rfl⟩
        rw [← s2]
        replace s2 : Same H1 H2 := by rw [s2]; exact Same.refl _
        obtain ⟨as, ha, hal, hat⟩ := id (hL.same s2)
        rw [List.length_map, List.length_range] at hal
        have hat' : ∀ j (h : j < as.length), H2 as[j] = some (.tup ((shapeL n j).map V.int)) := fun j h => by
          have := hat j h (by rw [List.length_map, List.length_range]; omega)
          simpa using this
        refine ⟨⟨_, SqL.of ha⟩, ?_⟩
        refine comp_filt (n := (goN n 0).toNat) (fun j => decide ((shapeL n j).getD 1 0 = -1 + (k : Int))) (fun j => V.ref (as.getD j 0)) (Nat.lt_of_le_of_lt (show _ ≤ 1000 by omega) (by decide)) (fun j Hz s hj => ⟨_, _, SqL.of (s _ _ ha), List.getElem?_eq_getElem (by rw [List.length_map]; omega)⟩) (fun Hz s => ⟨_, SqL.of (s _ _ ha), by rw [List.length_map]; omega⟩) ?_ ?_
        · rintro j v Hx Hy hj s ⟨rfl, hv⟩
          have hv := hv _ (SqL.of (s _ _ ha))
          rw [List.getElem?_map, List.getElem?_eq_getElem (by omega)] at hv
          cases hv
          have ev : V.ref as[j] = V.ref (as.getD j 0) := by rw [List.getD_eq_getElem?_getD, List.getElem?_eq_getElem (by omega)]; rfl
          walk_at "rd"
          exact ⟨_, SqT.of (s _ _ (hat' j (by omega))), _, rfl, rfl, ite2 (fun z => CF.take hj (decide_eq_true (by injection z)) ev s) fun z => CF.skip hj (decide_eq_false (fun q => z (congrArg V.int q))) s⟩
        · intro l' Hz s hl'
          have gz := s2.trans (s.upd' (o := .lst (((List.range (goN n 0).toNat).filter (fun j => decide ((shapeL n j).getD 1 0 = -1 + (k : Int)))).map fun j => V.ref (as.getD j 0))) hl')
          refine ⟨l', rfl, _, .inl (SqL.of upd_same), ?_⟩
          rw [List.length_map, hc.2.1]
          exact ⟨rfl, ite2 (fun z => absurd rfl z) fun _ => hR _ _ ⟨rfl, hL.same gz, s1.trans gz⟩⟩
      clear hL s1 H1
      rintro σ H1 ⟨rfl, hL, s1⟩
      walk_at "rd"
      refine ⟨n, _, rfl, fun _ H2 s2 => ?_, fun z => absurd ⟨by omega, by omega⟩ z⟩
      obtain ⟨as, ha, hal, hat⟩ := id (hL.same s2)
      rw [List.length_map, List.length_range] at hal
      have hat' : ∀ j (h : j < as.length), H2 as[j] = some (.tup ((shapeL n j).map V.int)) := fun j h => by
        have := hat j h (by rw [List.length_map, List.length_range]; omega)
        simpa using this
      refine ⟨⟨_, SqL.of ha⟩, ?_⟩
      refine comp_filt (n := (goN n 0).toNat) (fun j => decide ((shapeL n j).getD 2 0 ≤ -1 + (k : Int))) (fun j => V.ref (as.getD j 0)) (Nat.lt_of_le_of_lt (show _ ≤ 1000 by omega) (by decide)) (fun j Hz s hj => ⟨_, _, SqL.of (s _ _ ha), List.getElem?_eq_getElem (by rw [List.length_map]; omega)⟩) (fun Hz s => ⟨_, SqL.of (s _ _ ha), by rw [List.length_map]; omega⟩) ?_ ?_
      · rintro j v Hx Hy hj s ⟨rfl, hv⟩
        have hv := hv _ (SqL.of (s _ _ ha))
        rw [List.getElem?_map, List.getElem?_eq_getElem (by omega)] at hv
        cases hv
        have ev : V.ref as[j] = V.ref (as.getD j 0) := by rw [List.getD_eq_getElem?_getD, List.getElem?_eq_getElem (by omega)]; rfl
        walk_at "rd"
        exact ⟨_, SqT.of (s _ _ (hat' j (by omega))), _, rfl, _, rfl, ite2 (fun z => CF.take hj (decide_eq_true (z)) ev s) fun z => CF.skip hj (decide_eq_false (z)) s⟩
      · intro l' Hz s hl'
        have gz := s2.trans (s.upd' (o := .lst (((List.range (goN n 0).toNat).filter (fun j => decide ((shapeL n j).getD 2 0 ≤ -1 + (k : Int)))).map fun j => V.ref (as.getD j 0))) hl')
        refine ⟨l', rfl, _, .inl (SqL.of upd_same), ?_⟩
        rw [List.length_map, hc.2.2]
        exact ⟨rfl, ite2 (fun z => absurd rfl z) fun _ => ⟨hL.same gz, s1.trans gz⟩⟩
    · rintro σ Hx ⟨v9, rfl, hL, sx⟩
      exact hR _ _ ⟨v9, rfl, hL, sx⟩
  clear hL s1 H1
  rintro σ H1 ⟨v9, rfl, hL, s1⟩
  walk_at "rd"
  obtain ⟨as, ha, hal, hat⟩ := hL
  refine ⟨_, .inl (SqL.of ha), n, _, rfl, by omega, ?_, fun H2 s2 => k1 H2⟩
  rw [List.length_map, hal, List.length_map, List.length_range]
  omega

end
theorem all_mk {l : PySem.W.OpenLaw} {w : World} {K : PySem.W.Frag} {h : Heap} {mg : Str → Option Value} {fa : Addr} (X : K.In h) (G : h.Ns mainGlobals mg) (hfa : mg "law" = some (.ref fa))
    {f_settle : Addr} {od_settle an_settle : Option Addr} {sl_settle : Array (Option Value)} {oc_settle kV_settle dc_settle pm_settle cd_settle ct_settle : Value}
    (a_settle : PySem.W.nsIn K mainGlobals "settle" = some (some (.ref f_settle))) (l_settle : K.lookup f_settle = some ⟨oc_settle, od_settle, .func (PySem.W.fnOf "settle" "settle" (defArgs s_settle) (defBody s_settle) (defScope s_settle) .none kV_settle dc_settle pm_settle an_settle cd_settle ct_settle), sl_settle⟩) (c_settle : PySem.W.codeIn K cd_settle "settle" = true) (k_settle : PySem.W.keepIn K (.ref f_settle) = true)
    {f_tree_of : Addr} {od_tree_of an_tree_of : Option Addr} {sl_tree_of : Array (Option Value)} {oc_tree_of kV_tree_of dc_tree_of pm_tree_of cd_tree_of ct_tree_of : Value}
    (a_tree_of : PySem.W.nsIn K mainGlobals "tree_of" = some (some (.ref f_tree_of))) (l_tree_of : K.lookup f_tree_of = some ⟨oc_tree_of, od_tree_of, .func (PySem.W.fnOf "tree_of" "tree_of" (defArgs s_tree_of) (defBody s_tree_of) (defScope s_tree_of) .none kV_tree_of dc_tree_of pm_tree_of an_tree_of cd_tree_of ct_tree_of), sl_tree_of⟩) (c_tree_of : PySem.W.codeIn K cd_tree_of "tree_of" = true) (k_tree_of : PySem.W.keepIn K (.ref f_tree_of) = true)
    {f_way_up : Addr} {od_way_up an_way_up : Option Addr} {sl_way_up : Array (Option Value)} {oc_way_up kV_way_up dc_way_up pm_way_up cd_way_up ct_way_up : Value}
    (a_way_up : PySem.W.nsIn K mainGlobals "way_up" = some (some (.ref f_way_up))) (l_way_up : K.lookup f_way_up = some ⟨oc_way_up, od_way_up, .func (PySem.W.fnOf "way_up" "way_up" (defArgs s_way_up) (defBody s_way_up) (defScope s_way_up) .none kV_way_up dc_way_up pm_way_up an_way_up cd_way_up ct_way_up), sl_way_up⟩) (c_way_up : PySem.W.codeIn K cd_way_up "way_up" = true) (k_way_up : PySem.W.keepIn K (.ref f_way_up) = true)
    {f_is_tree : Addr} {od_is_tree an_is_tree : Option Addr} {sl_is_tree : Array (Option Value)} {oc_is_tree kV_is_tree dc_is_tree pm_is_tree cd_is_tree ct_is_tree : Value}
    (a_is_tree : PySem.W.nsIn K mainGlobals "is_tree" = some (some (.ref f_is_tree))) (l_is_tree : K.lookup f_is_tree = some ⟨oc_is_tree, od_is_tree, .func (PySem.W.fnOf "is_tree" "is_tree" (defArgs s_is_tree) (defBody s_is_tree) (defScope s_is_tree) .none kV_is_tree dc_is_tree pm_is_tree an_is_tree cd_is_tree ct_is_tree), sl_is_tree⟩) (c_is_tree : PySem.W.codeIn K cd_is_tree "is_tree" = true) (k_is_tree : PySem.W.keepIn K (.ref f_is_tree) = true)
    {f_need_tree : Addr} {od_need_tree an_need_tree : Option Addr} {sl_need_tree : Array (Option Value)} {oc_need_tree kV_need_tree dc_need_tree pm_need_tree cd_need_tree ct_need_tree : Value}
    (a_need_tree : PySem.W.nsIn K mainGlobals "need_tree" = some (some (.ref f_need_tree))) (l_need_tree : K.lookup f_need_tree = some ⟨oc_need_tree, od_need_tree, .func (PySem.W.fnOf "need_tree" "need_tree" (defArgs s_need_tree) (defBody s_need_tree) (defScope s_need_tree) .none kV_need_tree dc_need_tree pm_need_tree an_need_tree cd_need_tree ct_need_tree), sl_need_tree⟩) (c_need_tree : PySem.W.codeIn K cd_need_tree "need_tree" = true) (k_need_tree : PySem.W.keepIn K (.ref f_need_tree) = true)
    {f_fences_of : Addr} {od_fences_of an_fences_of : Option Addr} {sl_fences_of : Array (Option Value)} {oc_fences_of kV_fences_of dc_fences_of pm_fences_of cd_fences_of ct_fences_of : Value}
    (a_fences_of : PySem.W.nsIn K mainGlobals "fences_of" = some (some (.ref f_fences_of))) (l_fences_of : K.lookup f_fences_of = some ⟨oc_fences_of, od_fences_of, .func (PySem.W.fnOf "fences_of" "fences_of" (defArgs s_fences_of) (defBody s_fences_of) (defScope s_fences_of) .none kV_fences_of dc_fences_of pm_fences_of an_fences_of cd_fences_of ct_fences_of), sl_fences_of⟩) (c_fences_of : PySem.W.codeIn K cd_fences_of "fences_of" = true) (k_fences_of : PySem.W.keepIn K (.ref f_fences_of) = true)
    {f_need_count : Addr} {od_need_count an_need_count : Option Addr} {sl_need_count : Array (Option Value)} {oc_need_count kV_need_count dc_need_count pm_need_count cd_need_count ct_need_count : Value}
    (a_need_count : PySem.W.nsIn K mainGlobals "need_count" = some (some (.ref f_need_count))) (l_need_count : K.lookup f_need_count = some ⟨oc_need_count, od_need_count, .func (PySem.W.fnOf "need_count" "need_count" (defArgs s_need_count) (defBody s_need_count) (defScope s_need_count) .none kV_need_count dc_need_count pm_need_count an_need_count cd_need_count ct_need_count), sl_need_count⟩) (c_need_count : PySem.W.codeIn K cd_need_count "need_count" = true) (k_need_count : PySem.W.keepIn K (.ref f_need_count) = true)
    {f_running_sums : Addr} {od_running_sums an_running_sums : Option Addr} {sl_running_sums : Array (Option Value)} {oc_running_sums kV_running_sums dc_running_sums pm_running_sums cd_running_sums ct_running_sums : Value}
    (a_running_sums : PySem.W.nsIn K mainGlobals "running_sums" = some (some (.ref f_running_sums))) (l_running_sums : K.lookup f_running_sums = some ⟨oc_running_sums, od_running_sums, .func (PySem.W.fnOf "running_sums" "running_sums" (defArgs s_running_sums) (defBody s_running_sums) (defScope s_running_sums) .none kV_running_sums dc_running_sums pm_running_sums an_running_sums cd_running_sums ct_running_sums), sl_running_sums⟩) (c_running_sums : PySem.W.codeIn K cd_running_sums "running_sums" = true) (k_running_sums : PySem.W.keepIn K (.ref f_running_sums) = true)
    {f_one_more : Addr} {od_one_more an_one_more : Option Addr} {sl_one_more : Array (Option Value)} {oc_one_more kV_one_more dc_one_more pm_one_more cd_one_more ct_one_more : Value}
    (a_one_more : PySem.W.nsIn K mainGlobals "one_more" = some (some (.ref f_one_more))) (l_one_more : K.lookup f_one_more = some ⟨oc_one_more, od_one_more, .func (PySem.W.fnOf "one_more" "one_more" (defArgs s_one_more) (defBody s_one_more) (defScope s_one_more) .none kV_one_more dc_one_more pm_one_more an_one_more cd_one_more ct_one_more), sl_one_more⟩) (c_one_more : PySem.W.codeIn K cd_one_more "one_more" = true) (k_one_more : PySem.W.keepIn K (.ref f_one_more) = true)
    {f_climbs : Addr} {od_climbs an_climbs : Option Addr} {sl_climbs : Array (Option Value)} {oc_climbs kV_climbs dc_climbs pm_climbs cd_climbs ct_climbs : Value}
    (a_climbs : PySem.W.nsIn K mainGlobals "climbs" = some (some (.ref f_climbs))) (l_climbs : K.lookup f_climbs = some ⟨oc_climbs, od_climbs, .func (PySem.W.fnOf "climbs" "climbs" (defArgs s_climbs) (defBody s_climbs) (defScope s_climbs) .none kV_climbs dc_climbs pm_climbs an_climbs cd_climbs ct_climbs), sl_climbs⟩) (c_climbs : PySem.W.codeIn K cd_climbs "climbs" = true) (k_climbs : PySem.W.keepIn K (.ref f_climbs) = true)
    {f_many_trees : Addr} {od_many_trees an_many_trees : Option Addr} {sl_many_trees : Array (Option Value)} {oc_many_trees kV_many_trees dc_many_trees pm_many_trees cd_many_trees ct_many_trees : Value}
    (a_many_trees : PySem.W.nsIn K mainGlobals "many_trees" = some (some (.ref f_many_trees))) (l_many_trees : K.lookup f_many_trees = some ⟨oc_many_trees, od_many_trees, .func (PySem.W.fnOf "many_trees" "many_trees" (defArgs s_many_trees) (defBody s_many_trees) (defScope s_many_trees) .none kV_many_trees dc_many_trees pm_many_trees an_many_trees cd_many_trees ct_many_trees), sl_many_trees⟩) (c_many_trees : PySem.W.codeIn K cd_many_trees "many_trees" = true) (k_many_trees : PySem.W.keepIn K (.ref f_many_trees) = true)
    {f_many_open : Addr} {od_many_open an_many_open : Option Addr} {sl_many_open : Array (Option Value)} {oc_many_open kV_many_open dc_many_open pm_many_open cd_many_open ct_many_open : Value}
    (a_many_open : PySem.W.nsIn K mainGlobals "many_open" = some (some (.ref f_many_open))) (l_many_open : K.lookup f_many_open = some ⟨oc_many_open, od_many_open, .func (PySem.W.fnOf "many_open" "many_open" (defArgs s_many_open) (defBody s_many_open) (defScope s_many_open) .none kV_many_open dc_many_open pm_many_open an_many_open cd_many_open ct_many_open), sl_many_open⟩) (c_many_open : PySem.W.codeIn K cd_many_open "many_open" = true) (k_many_open : PySem.W.keepIn K (.ref f_many_open) = true)
    {f_choices : Addr} {od_choices an_choices : Option Addr} {sl_choices : Array (Option Value)} {oc_choices kV_choices dc_choices pm_choices cd_choices ct_choices : Value}
    (a_choices : PySem.W.nsIn K mainGlobals "choices" = some (some (.ref f_choices))) (l_choices : K.lookup f_choices = some ⟨oc_choices, od_choices, .func (PySem.W.fnOf "choices" "choices" (defArgs s_choices) (defBody s_choices) (defScope s_choices) .none kV_choices dc_choices pm_choices an_choices cd_choices ct_choices), sl_choices⟩) (c_choices : PySem.W.codeIn K cd_choices "choices" = true) (k_choices : PySem.W.keepIn K (.ref f_choices) = true)
    {f_many_falls : Addr} {od_many_falls an_many_falls : Option Addr} {sl_many_falls : Array (Option Value)} {oc_many_falls kV_many_falls dc_many_falls pm_many_falls cd_many_falls ct_many_falls : Value}
    (a_many_falls : PySem.W.nsIn K mainGlobals "many_falls" = some (some (.ref f_many_falls))) (l_many_falls : K.lookup f_many_falls = some ⟨oc_many_falls, od_many_falls, .func (PySem.W.fnOf "many_falls" "many_falls" (defArgs s_many_falls) (defBody s_many_falls) (defScope s_many_falls) .none kV_many_falls dc_many_falls pm_many_falls an_many_falls cd_many_falls ct_many_falls), sl_many_falls⟩) (c_many_falls : PySem.W.codeIn K cd_many_falls "many_falls" = true) (k_many_falls : PySem.W.keepIn K (.ref f_many_falls) = true)
    {f_many_flat : Addr} {od_many_flat an_many_flat : Option Addr} {sl_many_flat : Array (Option Value)} {oc_many_flat kV_many_flat dc_many_flat pm_many_flat cd_many_flat ct_many_flat : Value}
    (a_many_flat : PySem.W.nsIn K mainGlobals "many_flat" = some (some (.ref f_many_flat))) (l_many_flat : K.lookup f_many_flat = some ⟨oc_many_flat, od_many_flat, .func (PySem.W.fnOf "many_flat" "many_flat" (defArgs s_many_flat) (defBody s_many_flat) (defScope s_many_flat) .none kV_many_flat dc_many_flat pm_many_flat an_many_flat cd_many_flat ct_many_flat), sl_many_flat⟩) (c_many_flat : PySem.W.codeIn K cd_many_flat "many_flat" = true) (k_many_flat : PySem.W.keepIn K (.ref f_many_flat) = true)
    {f_drops_of : Addr} {od_drops_of an_drops_of : Option Addr} {sl_drops_of : Array (Option Value)} {oc_drops_of kV_drops_of dc_drops_of pm_drops_of cd_drops_of ct_drops_of : Value}
    (a_drops_of : PySem.W.nsIn K mainGlobals "drops_of" = some (some (.ref f_drops_of))) (l_drops_of : K.lookup f_drops_of = some ⟨oc_drops_of, od_drops_of, .func (PySem.W.fnOf "drops_of" "drops_of" (defArgs s_drops_of) (defBody s_drops_of) (defScope s_drops_of) .none kV_drops_of dc_drops_of pm_drops_of an_drops_of cd_drops_of ct_drops_of), sl_drops_of⟩) (c_drops_of : PySem.W.codeIn K cd_drops_of "drops_of" = true) (k_drops_of : PySem.W.keepIn K (.ref f_drops_of) = true)
    {f_need_short : Addr} {od_need_short an_need_short : Option Addr} {sl_need_short : Array (Option Value)} {oc_need_short kV_need_short dc_need_short pm_need_short cd_need_short ct_need_short : Value}
    (a_need_short : PySem.W.nsIn K mainGlobals "need_short" = some (some (.ref f_need_short))) (l_need_short : K.lookup f_need_short = some ⟨oc_need_short, od_need_short, .func (PySem.W.fnOf "need_short" "need_short" (defArgs s_need_short) (defBody s_need_short) (defScope s_need_short) .none kV_need_short dc_need_short pm_need_short an_need_short cd_need_short ct_need_short), sl_need_short⟩) (c_need_short : PySem.W.codeIn K cd_need_short "need_short" = true) (k_need_short : PySem.W.keepIn K (.ref f_need_short) = true)
    {f_by_drops : Addr} {od_by_drops an_by_drops : Option Addr} {sl_by_drops : Array (Option Value)} {oc_by_drops kV_by_drops dc_by_drops pm_by_drops cd_by_drops ct_by_drops : Value}
    (a_by_drops : PySem.W.nsIn K mainGlobals "by_drops" = some (some (.ref f_by_drops))) (l_by_drops : K.lookup f_by_drops = some ⟨oc_by_drops, od_by_drops, .func (PySem.W.fnOf "by_drops" "by_drops" (defArgs s_by_drops) (defBody s_by_drops) (defScope s_by_drops) .none kV_by_drops dc_by_drops pm_by_drops an_by_drops cd_by_drops ct_by_drops), sl_by_drops⟩) (c_by_drops : PySem.W.codeIn K cd_by_drops "by_drops" = true) (k_by_drops : PySem.W.keepIn K (.ref f_by_drops) = true)
    {f_pick : Addr} {od_pick an_pick : Option Addr} {sl_pick : Array (Option Value)} {oc_pick kV_pick dc_pick pm_pick cd_pick ct_pick : Value}
    (a_pick : PySem.W.nsIn K mainGlobals "pick" = some (some (.ref f_pick))) (l_pick : K.lookup f_pick = some ⟨oc_pick, od_pick, .func (PySem.W.fnOf "pick" "pick" (defArgs s_pick) (defBody s_pick) (defScope s_pick) .none kV_pick dc_pick pm_pick an_pick cd_pick ct_pick), sl_pick⟩) (c_pick : PySem.W.codeIn K cd_pick "pick" = true) (k_pick : PySem.W.keepIn K (.ref f_pick) = true)
    {f_goings_on : Addr} {od_goings_on an_goings_on : Option Addr} {sl_goings_on : Array (Option Value)} {oc_goings_on kV_goings_on dc_goings_on pm_goings_on cd_goings_on ct_goings_on : Value}
    (a_goings_on : PySem.W.nsIn K mainGlobals "goings_on" = some (some (.ref f_goings_on))) (l_goings_on : K.lookup f_goings_on = some ⟨oc_goings_on, od_goings_on, .func (PySem.W.fnOf "goings_on" "goings_on" (defArgs s_goings_on) (defBody s_goings_on) (defScope s_goings_on) .none kV_goings_on dc_goings_on pm_goings_on an_goings_on cd_goings_on ct_goings_on), sl_goings_on⟩) (c_goings_on : PySem.W.codeIn K cd_goings_on "goings_on" = true) (k_goings_on : PySem.W.keepIn K (.ref f_goings_on) = true)
    {f_drop_ways : Addr} {od_drop_ways an_drop_ways : Option Addr} {sl_drop_ways : Array (Option Value)} {oc_drop_ways kV_drop_ways dc_drop_ways pm_drop_ways cd_drop_ways ct_drop_ways : Value}
    (a_drop_ways : PySem.W.nsIn K mainGlobals "drop_ways" = some (some (.ref f_drop_ways))) (l_drop_ways : K.lookup f_drop_ways = some ⟨oc_drop_ways, od_drop_ways, .func (PySem.W.fnOf "drop_ways" "drop_ways" (defArgs s_drop_ways) (defBody s_drop_ways) (defScope s_drop_ways) .none kV_drop_ways dc_drop_ways pm_drop_ways an_drop_ways cd_drop_ways ct_drop_ways), sl_drop_ways⟩) (c_drop_ways : PySem.W.codeIn K cd_drop_ways "drop_ways" = true) (k_drop_ways : PySem.W.keepIn K (.ref f_drop_ways) = true)
    {f_tree_at : Addr} {od_tree_at an_tree_at : Option Addr} {sl_tree_at : Array (Option Value)} {oc_tree_at kV_tree_at dc_tree_at pm_tree_at cd_tree_at ct_tree_at : Value}
    (a_tree_at : PySem.W.nsIn K mainGlobals "tree_at" = some (some (.ref f_tree_at))) (l_tree_at : K.lookup f_tree_at = some ⟨oc_tree_at, od_tree_at, .func (PySem.W.fnOf "tree_at" "tree_at" (defArgs s_tree_at) (defBody s_tree_at) (defScope s_tree_at) .none kV_tree_at dc_tree_at pm_tree_at an_tree_at cd_tree_at ct_tree_at), sl_tree_at⟩) (c_tree_at : PySem.W.codeIn K cd_tree_at "tree_at" = true) (k_tree_at : PySem.W.keepIn K (.ref f_tree_at) = true)
    {f_number_of : Addr} {od_number_of an_number_of : Option Addr} {sl_number_of : Array (Option Value)} {oc_number_of kV_number_of dc_number_of pm_number_of cd_number_of ct_number_of : Value}
    (a_number_of : PySem.W.nsIn K mainGlobals "number_of" = some (some (.ref f_number_of))) (l_number_of : K.lookup f_number_of = some ⟨oc_number_of, od_number_of, .func (PySem.W.fnOf "number_of" "number_of" (defArgs s_number_of) (defBody s_number_of) (defScope s_number_of) .none kV_number_of dc_number_of pm_number_of an_number_of cd_number_of ct_number_of), sl_number_of⟩) (c_number_of : PySem.W.codeIn K cd_number_of "number_of" = true) (k_number_of : PySem.W.keepIn K (.ref f_number_of) = true)
    {f__law_pool : Addr} {od__law_pool an__law_pool : Option Addr} {sl__law_pool : Array (Option Value)} {oc__law_pool kV__law_pool dc__law_pool pm__law_pool cd__law_pool ct__law_pool : Value}
    (a__law_pool : PySem.W.nsIn K mainGlobals "_law_pool" = some (some (.ref f__law_pool))) (l__law_pool : K.lookup f__law_pool = some ⟨oc__law_pool, od__law_pool, .func (PySem.W.fnOf "_law_pool" "_law_pool" (defArgs s__law_pool) (defBody s__law_pool) (defScope s__law_pool) .none kV__law_pool dc__law_pool pm__law_pool an__law_pool cd__law_pool ct__law_pool), sl__law_pool⟩) (c__law_pool : PySem.W.codeIn K cd__law_pool "_law_pool" = true) (k__law_pool : PySem.W.keepIn K (.ref f__law_pool) = true)
    {f__law_pick : Addr} {od__law_pick an__law_pick : Option Addr} {sl__law_pick : Array (Option Value)} {oc__law_pick kV__law_pick dc__law_pick pm__law_pick cd__law_pick ct__law_pick : Value}
    (a__law_pick : PySem.W.nsIn K mainGlobals "_law_pick" = some (some (.ref f__law_pick))) (l__law_pick : K.lookup f__law_pick = some ⟨oc__law_pick, od__law_pick, .func (PySem.W.fnOf "_law_pick" "_law_pick" (defArgs s__law_pick) (defBody s__law_pick) (defScope s__law_pick) .none kV__law_pick dc__law_pick pm__law_pick an__law_pick cd__law_pick ct__law_pick), sl__law_pick⟩) (c__law_pick : PySem.W.codeIn K cd__law_pick "_law_pick" = true) (k__law_pick : PySem.W.keepIn K (.ref f__law_pick) = true)
    {f__law_over : Addr} {od__law_over an__law_over : Option Addr} {sl__law_over : Array (Option Value)} {oc__law_over kV__law_over dc__law_over pm__law_over cd__law_over ct__law_over : Value}
    (a__law_over : PySem.W.nsIn K mainGlobals "_law_over" = some (some (.ref f__law_over))) (l__law_over : K.lookup f__law_over = some ⟨oc__law_over, od__law_over, .func (PySem.W.fnOf "_law_over" "_law_over" (defArgs s__law_over) (defBody s__law_over) (defScope s__law_over) .none kV__law_over dc__law_over pm__law_over an__law_over cd__law_over ct__law_over), sl__law_over⟩) (c__law_over : PySem.W.codeIn K cd__law_over "_law_over" = true) (k__law_over : PySem.W.keepIn K (.ref f__law_over) = true)
    {f__law_flats : Addr} {od__law_flats an__law_flats : Option Addr} {sl__law_flats : Array (Option Value)} {oc__law_flats kV__law_flats dc__law_flats pm__law_flats cd__law_flats ct__law_flats : Value}
    (a__law_flats : PySem.W.nsIn K mainGlobals "_law_flats" = some (some (.ref f__law_flats))) (l__law_flats : K.lookup f__law_flats = some ⟨oc__law_flats, od__law_flats, .func (PySem.W.fnOf "_law_flats" "_law_flats" (defArgs s__law_flats) (defBody s__law_flats) (defScope s__law_flats) .none kV__law_flats dc__law_flats pm__law_flats an__law_flats cd__law_flats ct__law_flats), sl__law_flats⟩) (c__law_flats : PySem.W.codeIn K cd__law_flats "_law_flats" = true) (k__law_flats : PySem.W.keepIn K (.ref f__law_flats) = true)
    {f__law_tree_of : Addr} {od__law_tree_of an__law_tree_of : Option Addr} {sl__law_tree_of : Array (Option Value)} {oc__law_tree_of kV__law_tree_of dc__law_tree_of pm__law_tree_of cd__law_tree_of ct__law_tree_of : Value}
    (a__law_tree_of : PySem.W.nsIn K mainGlobals "_law_tree_of" = some (some (.ref f__law_tree_of))) (l__law_tree_of : K.lookup f__law_tree_of = some ⟨oc__law_tree_of, od__law_tree_of, .func (PySem.W.fnOf "_law_tree_of" "_law_tree_of" (defArgs s__law_tree_of) (defBody s__law_tree_of) (defScope s__law_tree_of) .none kV__law_tree_of dc__law_tree_of pm__law_tree_of an__law_tree_of cd__law_tree_of ct__law_tree_of), sl__law_tree_of⟩) (c__law_tree_of : PySem.W.codeIn K cd__law_tree_of "_law_tree_of" = true) (k__law_tree_of : PySem.W.keepIn K (.ref f__law_tree_of) = true)
    {f__law_is_tree : Addr} {od__law_is_tree an__law_is_tree : Option Addr} {sl__law_is_tree : Array (Option Value)} {oc__law_is_tree kV__law_is_tree dc__law_is_tree pm__law_is_tree cd__law_is_tree ct__law_is_tree : Value}
    (a__law_is_tree : PySem.W.nsIn K mainGlobals "_law_is_tree" = some (some (.ref f__law_is_tree))) (l__law_is_tree : K.lookup f__law_is_tree = some ⟨oc__law_is_tree, od__law_is_tree, .func (PySem.W.fnOf "_law_is_tree" "_law_is_tree" (defArgs s__law_is_tree) (defBody s__law_is_tree) (defScope s__law_is_tree) .none kV__law_is_tree dc__law_is_tree pm__law_is_tree an__law_is_tree cd__law_is_tree ct__law_is_tree), sl__law_is_tree⟩) (c__law_is_tree : PySem.W.codeIn K cd__law_is_tree "_law_is_tree" = true) (k__law_is_tree : PySem.W.keepIn K (.ref f__law_is_tree) = true)
    {f__law_kin_row : Addr} {od__law_kin_row an__law_kin_row : Option Addr} {sl__law_kin_row : Array (Option Value)} {oc__law_kin_row kV__law_kin_row dc__law_kin_row pm__law_kin_row cd__law_kin_row ct__law_kin_row : Value}
    (a__law_kin_row : PySem.W.nsIn K mainGlobals "_law_kin_row" = some (some (.ref f__law_kin_row))) (l__law_kin_row : K.lookup f__law_kin_row = some ⟨oc__law_kin_row, od__law_kin_row, .func (PySem.W.fnOf "_law_kin_row" "_law_kin_row" (defArgs s__law_kin_row) (defBody s__law_kin_row) (defScope s__law_kin_row) .none kV__law_kin_row dc__law_kin_row pm__law_kin_row an__law_kin_row cd__law_kin_row ct__law_kin_row), sl__law_kin_row⟩) (c__law_kin_row : PySem.W.codeIn K cd__law_kin_row "_law_kin_row" = true) (k__law_kin_row : PySem.W.keepIn K (.ref f__law_kin_row) = true)
    {f__law_alone : Addr} {od__law_alone an__law_alone : Option Addr} {sl__law_alone : Array (Option Value)} {oc__law_alone kV__law_alone dc__law_alone pm__law_alone cd__law_alone ct__law_alone : Value}
    (a__law_alone : PySem.W.nsIn K mainGlobals "_law_alone" = some (some (.ref f__law_alone))) (l__law_alone : K.lookup f__law_alone = some ⟨oc__law_alone, od__law_alone, .func (PySem.W.fnOf "_law_alone" "_law_alone" (defArgs s__law_alone) (defBody s__law_alone) (defScope s__law_alone) .none kV__law_alone dc__law_alone pm__law_alone an__law_alone cd__law_alone ct__law_alone), sl__law_alone⟩) (c__law_alone : PySem.W.codeIn K cd__law_alone "_law_alone" = true) (k__law_alone : PySem.W.keepIn K (.ref f__law_alone) = true)
    {f__law_drops_of : Addr} {od__law_drops_of an__law_drops_of : Option Addr} {sl__law_drops_of : Array (Option Value)} {oc__law_drops_of kV__law_drops_of dc__law_drops_of pm__law_drops_of cd__law_drops_of ct__law_drops_of : Value}
    (a__law_drops_of : PySem.W.nsIn K mainGlobals "_law_drops_of" = some (some (.ref f__law_drops_of))) (l__law_drops_of : K.lookup f__law_drops_of = some ⟨oc__law_drops_of, od__law_drops_of, .func (PySem.W.fnOf "_law_drops_of" "_law_drops_of" (defArgs s__law_drops_of) (defBody s__law_drops_of) (defScope s__law_drops_of) .none kV__law_drops_of dc__law_drops_of pm__law_drops_of an__law_drops_of cd__law_drops_of ct__law_drops_of), sl__law_drops_of⟩) (c__law_drops_of : PySem.W.codeIn K cd__law_drops_of "_law_drops_of" = true) (k__law_drops_of : PySem.W.keepIn K (.ref f__law_drops_of) = true)
    {f__law_none_behind : Addr} {od__law_none_behind an__law_none_behind : Option Addr} {sl__law_none_behind : Array (Option Value)} {oc__law_none_behind kV__law_none_behind dc__law_none_behind pm__law_none_behind cd__law_none_behind ct__law_none_behind : Value}
    (a__law_none_behind : PySem.W.nsIn K mainGlobals "_law_none_behind" = some (some (.ref f__law_none_behind))) (l__law_none_behind : K.lookup f__law_none_behind = some ⟨oc__law_none_behind, od__law_none_behind, .func (PySem.W.fnOf "_law_none_behind" "_law_none_behind" (defArgs s__law_none_behind) (defBody s__law_none_behind) (defScope s__law_none_behind) .none kV__law_none_behind dc__law_none_behind pm__law_none_behind an__law_none_behind cd__law_none_behind ct__law_none_behind), sl__law_none_behind⟩) (c__law_none_behind : PySem.W.codeIn K cd__law_none_behind "_law_none_behind" = true) (k__law_none_behind : PySem.W.keepIn K (.ref f__law_none_behind) = true)
    {f__law_falls : Addr} {od__law_falls an__law_falls : Option Addr} {sl__law_falls : Array (Option Value)} {oc__law_falls kV__law_falls dc__law_falls pm__law_falls cd__law_falls ct__law_falls : Value}
    (a__law_falls : PySem.W.nsIn K mainGlobals "_law_falls" = some (some (.ref f__law_falls))) (l__law_falls : K.lookup f__law_falls = some ⟨oc__law_falls, od__law_falls, .func (PySem.W.fnOf "_law_falls" "_law_falls" (defArgs s__law_falls) (defBody s__law_falls) (defScope s__law_falls) .none kV__law_falls dc__law_falls pm__law_falls an__law_falls cd__law_falls ct__law_falls), sl__law_falls⟩) (c__law_falls : PySem.W.codeIn K cd__law_falls "_law_falls" = true) (k__law_falls : PySem.W.keepIn K (.ref f__law_falls) = true)
    {f_law : Addr} {od_law an_law : Option Addr} {sl_law : Array (Option Value)} {oc_law kV_law dc_law pm_law cd_law ct_law : Value}
    (a_law : PySem.W.nsIn K mainGlobals "law" = some (some (.ref f_law))) (l_law : K.lookup f_law = some ⟨oc_law, od_law, .func (PySem.W.fnOf "law" "law" (defArgs s_law) (defBody s_law) (defScope s_law) .none kV_law dc_law pm_law an_law cd_law ct_law), sl_law⟩) (c_law : PySem.W.codeIn K cd_law "law" = true) (k_law : PySem.W.keepIn K (.ref f_law) = true)
    {C_DipError : Addr} (n_DipError : PySem.W.nsIn K mainGlobals "DipError" = some (some (.ref C_DipError))) (x_DipError : PySem.W.excIn K C_DipError bmV newV = true) (d_DipError : PySem.W.hasDictIn K C_DipError = true) (y_DipError : PySem.W.typeIn K (.ref C_DipError) = some (.type "type"))
    {C_Unlike : Addr} (n_Unlike : PySem.W.nsIn K mainGlobals "Unlike" = some (some (.ref C_Unlike))) (x_Unlike : PySem.W.excIn K C_Unlike bmV newV = true) (d_Unlike : PySem.W.hasDictIn K C_Unlike = true) (y_Unlike : PySem.W.typeIn K (.ref C_Unlike) = some (.type "type"))
    {C_Empty : Addr} (n_Empty : PySem.W.nsIn K mainGlobals "Empty" = some (some (.ref C_Empty))) (x_Empty : PySem.W.excIn K C_Empty bmV newV = true) (d_Empty : PySem.W.hasDictIn K C_Empty = true) (y_Empty : PySem.W.typeIn K (.ref C_Empty) = some (.type "type"))
    {C_TooMany : Addr} (n_TooMany : PySem.W.nsIn K mainGlobals "TooMany" = some (some (.ref C_TooMany))) (x_TooMany : PySem.W.excIn K C_TooMany bmV newV = true) (d_TooMany : PySem.W.hasDictIn K C_TooMany = true) (y_TooMany : PySem.W.typeIn K (.ref C_TooMany) = some (.type "type"))
    {C_NoTree : Addr} (n_NoTree : PySem.W.nsIn K mainGlobals "NoTree" = some (some (.ref C_NoTree))) (x_NoTree : PySem.W.excIn K C_NoTree bmV newV = true) (d_NoTree : PySem.W.hasDictIn K C_NoTree = true) (y_NoTree : PySem.W.typeIn K (.ref C_NoTree) = some (.type "type"))
    {C_NoTelling : Addr} (n_NoTelling : PySem.W.nsIn K mainGlobals "NoTelling" = some (some (.ref C_NoTelling))) (x_NoTelling : PySem.W.excIn K C_NoTelling bmV newV = true) (d_NoTelling : PySem.W.hasDictIn K C_NoTelling = true) (y_NoTelling : PySem.W.typeIn K (.ref C_NoTelling) = some (.type "type"))
    {C_NoPlace : Addr} (n_NoPlace : PySem.W.nsIn K mainGlobals "NoPlace" = some (some (.ref C_NoPlace))) (x_NoPlace : PySem.W.excIn K C_NoPlace bmV newV = true) (d_NoPlace : PySem.W.hasDictIn K C_NoPlace = true) (y_NoPlace : PySem.W.typeIn K (.ref C_NoPlace) = some (.type "type"))
    {C_NoNumber : Addr} (n_NoNumber : PySem.W.nsIn K mainGlobals "NoNumber" = some (some (.ref C_NoNumber))) (x_NoNumber : PySem.W.excIn K C_NoNumber bmV newV = true) (d_NoNumber : PySem.W.hasDictIn K C_NoNumber = true) (y_NoNumber : PySem.W.typeIn K (.ref C_NoNumber) = some (.type "type"))
    {C_NoPast : Addr} (n_NoPast : PySem.W.nsIn K mainGlobals "NoPast" = some (some (.ref C_NoPast))) (x_NoPast : PySem.W.excIn K C_NoPast bmV newV = true) (d_NoPast : PySem.W.hasDictIn K C_NoPast = true) (y_NoPast : PySem.W.typeIn K (.ref C_NoPast) = some (.type "type"))
    {C_NoText : Addr} (n_NoText : PySem.W.nsIn K mainGlobals "NoText" = some (some (.ref C_NoText))) (x_NoText : PySem.W.excIn K C_NoText bmV newV = true) (d_NoText : PySem.W.hasDictIn K C_NoText = true) (y_NoText : PySem.W.typeIn K (.ref C_NoText) = some (.type "type"))
    {C_NoLine : Addr} (n_NoLine : PySem.W.nsIn K mainGlobals "NoLine" = some (some (.ref C_NoLine))) (x_NoLine : PySem.W.excIn K C_NoLine bmV newV = true) (d_NoLine : PySem.W.hasDictIn K C_NoLine = true) (y_NoLine : PySem.W.typeIn K (.ref C_NoLine) = some (.type "type"))
    (z1_TooMany : PySem.W.hasDictIn K C_TooMany = true) (z2_TooMany : PySem.W.findIn K (.ref C_TooMany) "__getattribute__" = some (some (.builtin "BaseException.__getattribute__"))) (z3_TooMany : PySem.W.findIn K (.ref C_TooMany) "__getattr__" = some none) (z4_TooMany : PySem.W.findIn K (.ref C_TooMany) "__class__" = some (some (.builtin "object.__class__"))) (z5_TooMany : PySem.W.specialIn K (.builtin "object.__class__") "__get__" = some (some (.builtin "getset_descriptor.__get__"))) (z6_TooMany : PySem.W.takesIn K (.builtin "object.__class__") = some true) (z7_TooMany : PySem.W.mroIn K C_TooMany (.type "object") = some true) (z8_TooMany : PySem.W.mroIn K C_TooMany (.type "BaseException") = some true)
    (u_TooMany : PySem.W.mroIn K C_TooMany (.ref C_DipError) = some true)
    (i_TooMany_DipError : PySem.W.subIn K (.ref C_TooMany) (.ref C_DipError) = some true) (ne_TooMany_DipError : C_TooMany ≠ C_DipError)
    (i_TooMany_Unlike : PySem.W.subIn K (.ref C_TooMany) (.ref C_Unlike) = some false) (ne_TooMany_Unlike : C_TooMany ≠ C_Unlike)
    (i_TooMany_Empty : PySem.W.subIn K (.ref C_TooMany) (.ref C_Empty) = some false) (ne_TooMany_Empty : C_TooMany ≠ C_Empty)
    (i_TooMany_NoTree : PySem.W.subIn K (.ref C_TooMany) (.ref C_NoTree) = some false) (ne_TooMany_NoTree : C_TooMany ≠ C_NoTree)
    (i_TooMany_NoTelling : PySem.W.subIn K (.ref C_TooMany) (.ref C_NoTelling) = some false) (ne_TooMany_NoTelling : C_TooMany ≠ C_NoTelling)
    (i_TooMany_NoPlace : PySem.W.subIn K (.ref C_TooMany) (.ref C_NoPlace) = some false) (ne_TooMany_NoPlace : C_TooMany ≠ C_NoPlace)
    (i_TooMany_NoNumber : PySem.W.subIn K (.ref C_TooMany) (.ref C_NoNumber) = some false) (ne_TooMany_NoNumber : C_TooMany ≠ C_NoNumber)
    (i_TooMany_NoPast : PySem.W.subIn K (.ref C_TooMany) (.ref C_NoPast) = some false) (ne_TooMany_NoPast : C_TooMany ≠ C_NoPast)
    (i_TooMany_NoText : PySem.W.subIn K (.ref C_TooMany) (.ref C_NoText) = some false) (ne_TooMany_NoText : C_TooMany ≠ C_NoText)
    (i_TooMany_NoLine : PySem.W.subIn K (.ref C_TooMany) (.ref C_NoLine) = some false) (ne_TooMany_NoLine : C_TooMany ≠ C_NoLine)
    (i_TooMany_V : PySem.W.subIn K (.ref C_TooMany) (.type "ValueError") = some true)
    (z1_NoNumber : PySem.W.hasDictIn K C_NoNumber = true) (z2_NoNumber : PySem.W.findIn K (.ref C_NoNumber) "__getattribute__" = some (some (.builtin "BaseException.__getattribute__"))) (z3_NoNumber : PySem.W.findIn K (.ref C_NoNumber) "__getattr__" = some none) (z4_NoNumber : PySem.W.findIn K (.ref C_NoNumber) "__class__" = some (some (.builtin "object.__class__"))) (z5_NoNumber : PySem.W.specialIn K (.builtin "object.__class__") "__get__" = some (some (.builtin "getset_descriptor.__get__"))) (z6_NoNumber : PySem.W.takesIn K (.builtin "object.__class__") = some true) (z7_NoNumber : PySem.W.mroIn K C_NoNumber (.type "object") = some true) (z8_NoNumber : PySem.W.mroIn K C_NoNumber (.type "BaseException") = some true)
    (u_NoNumber : PySem.W.mroIn K C_NoNumber (.ref C_DipError) = some true)
    (i_NoNumber_DipError : PySem.W.subIn K (.ref C_NoNumber) (.ref C_DipError) = some true) (ne_NoNumber_DipError : C_NoNumber ≠ C_DipError)
    (i_NoNumber_Unlike : PySem.W.subIn K (.ref C_NoNumber) (.ref C_Unlike) = some false) (ne_NoNumber_Unlike : C_NoNumber ≠ C_Unlike)
    (i_NoNumber_Empty : PySem.W.subIn K (.ref C_NoNumber) (.ref C_Empty) = some false) (ne_NoNumber_Empty : C_NoNumber ≠ C_Empty)
    (i_NoNumber_TooMany : PySem.W.subIn K (.ref C_NoNumber) (.ref C_TooMany) = some false) (ne_NoNumber_TooMany : C_NoNumber ≠ C_TooMany)
    (i_NoNumber_NoTree : PySem.W.subIn K (.ref C_NoNumber) (.ref C_NoTree) = some false) (ne_NoNumber_NoTree : C_NoNumber ≠ C_NoTree)
    (i_NoNumber_NoTelling : PySem.W.subIn K (.ref C_NoNumber) (.ref C_NoTelling) = some false) (ne_NoNumber_NoTelling : C_NoNumber ≠ C_NoTelling)
    (i_NoNumber_NoPlace : PySem.W.subIn K (.ref C_NoNumber) (.ref C_NoPlace) = some false) (ne_NoNumber_NoPlace : C_NoNumber ≠ C_NoPlace)
    (i_NoNumber_NoPast : PySem.W.subIn K (.ref C_NoNumber) (.ref C_NoPast) = some false) (ne_NoNumber_NoPast : C_NoNumber ≠ C_NoPast)
    (i_NoNumber_NoText : PySem.W.subIn K (.ref C_NoNumber) (.ref C_NoText) = some false) (ne_NoNumber_NoText : C_NoNumber ≠ C_NoText)
    (i_NoNumber_NoLine : PySem.W.subIn K (.ref C_NoNumber) (.ref C_NoLine) = some false) (ne_NoNumber_NoLine : C_NoNumber ≠ C_NoLine)
    (i_NoNumber_V : PySem.W.subIn K (.ref C_NoNumber) (.type "ValueError") = some true)
    (z1_NoTree : PySem.W.hasDictIn K C_NoTree = true) (z2_NoTree : PySem.W.findIn K (.ref C_NoTree) "__getattribute__" = some (some (.builtin "BaseException.__getattribute__"))) (z3_NoTree : PySem.W.findIn K (.ref C_NoTree) "__getattr__" = some none) (z4_NoTree : PySem.W.findIn K (.ref C_NoTree) "__class__" = some (some (.builtin "object.__class__"))) (z5_NoTree : PySem.W.specialIn K (.builtin "object.__class__") "__get__" = some (some (.builtin "getset_descriptor.__get__"))) (z6_NoTree : PySem.W.takesIn K (.builtin "object.__class__") = some true) (z7_NoTree : PySem.W.mroIn K C_NoTree (.type "object") = some true) (z8_NoTree : PySem.W.mroIn K C_NoTree (.type "BaseException") = some true)
    (u_NoTree : PySem.W.mroIn K C_NoTree (.ref C_DipError) = some true)
    (i_NoTree_DipError : PySem.W.subIn K (.ref C_NoTree) (.ref C_DipError) = some true) (ne_NoTree_DipError : C_NoTree ≠ C_DipError)
    (i_NoTree_Unlike : PySem.W.subIn K (.ref C_NoTree) (.ref C_Unlike) = some false) (ne_NoTree_Unlike : C_NoTree ≠ C_Unlike)
    (i_NoTree_Empty : PySem.W.subIn K (.ref C_NoTree) (.ref C_Empty) = some false) (ne_NoTree_Empty : C_NoTree ≠ C_Empty)
    (i_NoTree_TooMany : PySem.W.subIn K (.ref C_NoTree) (.ref C_TooMany) = some false) (ne_NoTree_TooMany : C_NoTree ≠ C_TooMany)
    (i_NoTree_NoTelling : PySem.W.subIn K (.ref C_NoTree) (.ref C_NoTelling) = some false) (ne_NoTree_NoTelling : C_NoTree ≠ C_NoTelling)
    (i_NoTree_NoPlace : PySem.W.subIn K (.ref C_NoTree) (.ref C_NoPlace) = some false) (ne_NoTree_NoPlace : C_NoTree ≠ C_NoPlace)
    (i_NoTree_NoNumber : PySem.W.subIn K (.ref C_NoTree) (.ref C_NoNumber) = some false) (ne_NoTree_NoNumber : C_NoTree ≠ C_NoNumber)
    (i_NoTree_NoPast : PySem.W.subIn K (.ref C_NoTree) (.ref C_NoPast) = some false) (ne_NoTree_NoPast : C_NoTree ≠ C_NoPast)
    (i_NoTree_NoText : PySem.W.subIn K (.ref C_NoTree) (.ref C_NoText) = some false) (ne_NoTree_NoText : C_NoTree ≠ C_NoText)
    (i_NoTree_NoLine : PySem.W.subIn K (.ref C_NoTree) (.ref C_NoLine) = some false) (ne_NoTree_NoLine : C_NoTree ≠ C_NoLine)
    (i_NoTree_V : PySem.W.subIn K (.ref C_NoTree) (.type "ValueError") = some true)
    (b_ValueError : PySem.W.nsIn K mainGlobals "ValueError" = some none)
    (b_enumerate : PySem.W.nsIn K mainGlobals "enumerate" = some none)
    (b_int : PySem.W.nsIn K mainGlobals "int" = some none)
    (b_isinstance : PySem.W.nsIn K mainGlobals "isinstance" = some none)
    (b_len : PySem.W.nsIn K mainGlobals "len" = some none)
    (b_max : PySem.W.nsIn K mainGlobals "max" = some none)
    (b_min : PySem.W.nsIn K mainGlobals "min" = some none)
    (b_range : PySem.W.nsIn K mainGlobals "range" = some none)
    (b_reversed : PySem.W.nsIn K mainGlobals "reversed" = some none)
    (b_sorted : PySem.W.nsIn K mainGlobals "sorted" = some none)
    (b_sum : PySem.W.nsIn K mainGlobals "sum" = some none)
    (b_tuple : PySem.W.nsIn K mainGlobals "tuple" = some none)
    {t_MOST_PLACES : Tok} (m_MOST_PLACES : PySem.W.nsIn K mainGlobals "MOST_PLACES" = some (some (.int 40 t_MOST_PLACES)))
    : ∃ fd : FuncData, (∀ (s : Shared) (v : Value), BindsTo s fd ⟨[v], []⟩ [("script", v)]) ∧ ∀ base : Heap, K.In base → base.Ns mainGlobals mg → FnOk l.prog w K mg base (CXE l.prog w) 7 fa fd ["script"] (spLaw K) := by
  have e := hfa.symm.trans (PySem.W.mg_of X G a_law)
  cases e
  have q_DipError : clsAt mg "DipError" = C_DipError := by unfold clsAt; rw [PySem.W.mg_of X G n_DipError]
  have q_Unlike : clsAt mg "Unlike" = C_Unlike := by unfold clsAt; rw [PySem.W.mg_of X G n_Unlike]
  have q_Empty : clsAt mg "Empty" = C_Empty := by unfold clsAt; rw [PySem.W.mg_of X G n_Empty]
  have q_TooMany : clsAt mg "TooMany" = C_TooMany := by unfold clsAt; rw [PySem.W.mg_of X G n_TooMany]
  have q_NoTree : clsAt mg "NoTree" = C_NoTree := by unfold clsAt; rw [PySem.W.mg_of X G n_NoTree]
  have q_NoTelling : clsAt mg "NoTelling" = C_NoTelling := by unfold clsAt; rw [PySem.W.mg_of X G n_NoTelling]
  have q_NoPlace : clsAt mg "NoPlace" = C_NoPlace := by unfold clsAt; rw [PySem.W.mg_of X G n_NoPlace]
  have q_NoNumber : clsAt mg "NoNumber" = C_NoNumber := by unfold clsAt; rw [PySem.W.mg_of X G n_NoNumber]
  have q_NoPast : clsAt mg "NoPast" = C_NoPast := by unfold clsAt; rw [PySem.W.mg_of X G n_NoPast]
  have q_NoText : clsAt mg "NoText" = C_NoText := by unfold clsAt; rw [PySem.W.mg_of X G n_NoText]
  have q_NoLine : clsAt mg "NoLine" = C_NoLine := by unfold clsAt; rw [PySem.W.mg_of X G n_NoLine]
  have q_MOST_PLACES : tokAt mg "MOST_PLACES" = t_MOST_PLACES := by unfold tokAt; rw [PySem.W.mg_of X G m_MOST_PLACES]
  have T : Txt K mg := {
    b_ValueError := PySem.W.mg_none_of X G b_ValueError
    b_enumerate := PySem.W.mg_none_of X G b_enumerate
    b_int := PySem.W.mg_none_of X G b_int
    b_isinstance := PySem.W.mg_none_of X G b_isinstance
    b_len := PySem.W.mg_none_of X G b_len
    b_max := PySem.W.mg_none_of X G b_max
    b_min := PySem.W.mg_none_of X G b_min
    b_range := PySem.W.mg_none_of X G b_range
    b_reversed := PySem.W.mg_none_of X G b_reversed
    b_sorted := PySem.W.mg_none_of X G b_sorted
    b_sum := PySem.W.mg_none_of X G b_sum
    b_tuple := PySem.W.mg_none_of X G b_tuple
    c_DipError := by rw [q_DipError]; exact PySem.W.mg_of X G n_DipError
    x_DipError := by rw [q_DipError]; exact x_DipError
    c_Unlike := by rw [q_Unlike]; exact PySem.W.mg_of X G n_Unlike
    x_Unlike := by rw [q_Unlike]; exact x_Unlike
    c_Empty := by rw [q_Empty]; exact PySem.W.mg_of X G n_Empty
    x_Empty := by rw [q_Empty]; exact x_Empty
    c_TooMany := by rw [q_TooMany]; exact PySem.W.mg_of X G n_TooMany
    x_TooMany := by rw [q_TooMany]; exact x_TooMany
    c_NoTree := by rw [q_NoTree]; exact PySem.W.mg_of X G n_NoTree
    x_NoTree := by rw [q_NoTree]; exact x_NoTree
    c_NoTelling := by rw [q_NoTelling]; exact PySem.W.mg_of X G n_NoTelling
    x_NoTelling := by rw [q_NoTelling]; exact x_NoTelling
    c_NoPlace := by rw [q_NoPlace]; exact PySem.W.mg_of X G n_NoPlace
    x_NoPlace := by rw [q_NoPlace]; exact x_NoPlace
    c_NoNumber := by rw [q_NoNumber]; exact PySem.W.mg_of X G n_NoNumber
    x_NoNumber := by rw [q_NoNumber]; exact x_NoNumber
    c_NoPast := by rw [q_NoPast]; exact PySem.W.mg_of X G n_NoPast
    x_NoPast := by rw [q_NoPast]; exact x_NoPast
    c_NoText := by rw [q_NoText]; exact PySem.W.mg_of X G n_NoText
    x_NoText := by rw [q_NoText]; exact x_NoText
    c_NoLine := by rw [q_NoLine]; exact PySem.W.mg_of X G n_NoLine
    x_NoLine := by rw [q_NoLine]; exact x_NoLine
    ex_TooMany := by rw [q_TooMany]; exact ⟨z1_TooMany, z2_TooMany, z3_TooMany, z4_TooMany, z5_TooMany, z6_TooMany, z7_TooMany, z8_TooMany⟩
    up_TooMany := by rw [q_TooMany, q_DipError]; exact u_TooMany
    is_TooMany_DipError := by rw [q_TooMany, q_DipError]; exact kit_ref ne_TooMany_DipError d_DipError y_DipError i_TooMany_DipError
    is_TooMany_Unlike := by rw [q_TooMany, q_Unlike]; exact kit_ref ne_TooMany_Unlike d_Unlike y_Unlike i_TooMany_Unlike
    is_TooMany_Empty := by rw [q_TooMany, q_Empty]; exact kit_ref ne_TooMany_Empty d_Empty y_Empty i_TooMany_Empty
    is_TooMany_TooMany := by rw [q_TooMany]; exact kit_self
    is_TooMany_NoTree := by rw [q_TooMany, q_NoTree]; exact kit_ref ne_TooMany_NoTree d_NoTree y_NoTree i_TooMany_NoTree
    is_TooMany_NoTelling := by rw [q_TooMany, q_NoTelling]; exact kit_ref ne_TooMany_NoTelling d_NoTelling y_NoTelling i_TooMany_NoTelling
    is_TooMany_NoPlace := by rw [q_TooMany, q_NoPlace]; exact kit_ref ne_TooMany_NoPlace d_NoPlace y_NoPlace i_TooMany_NoPlace
    is_TooMany_NoNumber := by rw [q_TooMany, q_NoNumber]; exact kit_ref ne_TooMany_NoNumber d_NoNumber y_NoNumber i_TooMany_NoNumber
    is_TooMany_NoPast := by rw [q_TooMany, q_NoPast]; exact kit_ref ne_TooMany_NoPast d_NoPast y_NoPast i_TooMany_NoPast
    is_TooMany_NoText := by rw [q_TooMany, q_NoText]; exact kit_ref ne_TooMany_NoText d_NoText y_NoText i_TooMany_NoText
    is_TooMany_NoLine := by rw [q_TooMany, q_NoLine]; exact kit_ref ne_TooMany_NoLine d_NoLine y_NoLine i_TooMany_NoLine
    is_TooMany_V := by rw [q_TooMany]; exact kit_V i_TooMany_V
    ex_NoNumber := by rw [q_NoNumber]; exact ⟨z1_NoNumber, z2_NoNumber, z3_NoNumber, z4_NoNumber, z5_NoNumber, z6_NoNumber, z7_NoNumber, z8_NoNumber⟩
    up_NoNumber := by rw [q_NoNumber, q_DipError]; exact u_NoNumber
    is_NoNumber_DipError := by rw [q_NoNumber, q_DipError]; exact kit_ref ne_NoNumber_DipError d_DipError y_DipError i_NoNumber_DipError
    is_NoNumber_Unlike := by rw [q_NoNumber, q_Unlike]; exact kit_ref ne_NoNumber_Unlike d_Unlike y_Unlike i_NoNumber_Unlike
    is_NoNumber_Empty := by rw [q_NoNumber, q_Empty]; exact kit_ref ne_NoNumber_Empty d_Empty y_Empty i_NoNumber_Empty
    is_NoNumber_TooMany := by rw [q_NoNumber, q_TooMany]; exact kit_ref ne_NoNumber_TooMany d_TooMany y_TooMany i_NoNumber_TooMany
    is_NoNumber_NoTree := by rw [q_NoNumber, q_NoTree]; exact kit_ref ne_NoNumber_NoTree d_NoTree y_NoTree i_NoNumber_NoTree
    is_NoNumber_NoTelling := by rw [q_NoNumber, q_NoTelling]; exact kit_ref ne_NoNumber_NoTelling d_NoTelling y_NoTelling i_NoNumber_NoTelling
    is_NoNumber_NoPlace := by rw [q_NoNumber, q_NoPlace]; exact kit_ref ne_NoNumber_NoPlace d_NoPlace y_NoPlace i_NoNumber_NoPlace
    is_NoNumber_NoNumber := by rw [q_NoNumber]; exact kit_self
    is_NoNumber_NoPast := by rw [q_NoNumber, q_NoPast]; exact kit_ref ne_NoNumber_NoPast d_NoPast y_NoPast i_NoNumber_NoPast
    is_NoNumber_NoText := by rw [q_NoNumber, q_NoText]; exact kit_ref ne_NoNumber_NoText d_NoText y_NoText i_NoNumber_NoText
    is_NoNumber_NoLine := by rw [q_NoNumber, q_NoLine]; exact kit_ref ne_NoNumber_NoLine d_NoLine y_NoLine i_NoNumber_NoLine
    is_NoNumber_V := by rw [q_NoNumber]; exact kit_V i_NoNumber_V
    ex_NoTree := by rw [q_NoTree]; exact ⟨z1_NoTree, z2_NoTree, z3_NoTree, z4_NoTree, z5_NoTree, z6_NoTree, z7_NoTree, z8_NoTree⟩
    up_NoTree := by rw [q_NoTree, q_DipError]; exact u_NoTree
    is_NoTree_DipError := by rw [q_NoTree, q_DipError]; exact kit_ref ne_NoTree_DipError d_DipError y_DipError i_NoTree_DipError
    is_NoTree_Unlike := by rw [q_NoTree, q_Unlike]; exact kit_ref ne_NoTree_Unlike d_Unlike y_Unlike i_NoTree_Unlike
    is_NoTree_Empty := by rw [q_NoTree, q_Empty]; exact kit_ref ne_NoTree_Empty d_Empty y_Empty i_NoTree_Empty
    is_NoTree_TooMany := by rw [q_NoTree, q_TooMany]; exact kit_ref ne_NoTree_TooMany d_TooMany y_TooMany i_NoTree_TooMany
    is_NoTree_NoTree := by rw [q_NoTree]; exact kit_self
    is_NoTree_NoTelling := by rw [q_NoTree, q_NoTelling]; exact kit_ref ne_NoTree_NoTelling d_NoTelling y_NoTelling i_NoTree_NoTelling
    is_NoTree_NoPlace := by rw [q_NoTree, q_NoPlace]; exact kit_ref ne_NoTree_NoPlace d_NoPlace y_NoPlace i_NoTree_NoPlace
    is_NoTree_NoNumber := by rw [q_NoTree, q_NoNumber]; exact kit_ref ne_NoTree_NoNumber d_NoNumber y_NoNumber i_NoTree_NoNumber
    is_NoTree_NoPast := by rw [q_NoTree, q_NoPast]; exact kit_ref ne_NoTree_NoPast d_NoPast y_NoPast i_NoTree_NoPast
    is_NoTree_NoText := by rw [q_NoTree, q_NoText]; exact kit_ref ne_NoTree_NoText d_NoText y_NoText i_NoTree_NoText
    is_NoTree_NoLine := by rw [q_NoTree, q_NoLine]; exact kit_ref ne_NoTree_NoLine d_NoLine y_NoLine i_NoTree_NoLine
    is_NoTree_V := by rw [q_NoTree]; exact kit_V i_NoTree_V
    m_MOST_PLACES := by rw [q_MOST_PLACES]; exact PySem.W.mg_of X G m_MOST_PLACES
  }
  have F_settle := fun_mk (st := s_settle) l_settle c_settle k_settle
  have B_settle := F_settle.binds (ps := ["elders", "spine", "place", "keep"]) fun _ _ _ _ _ _ us hl => match us, hl with | [_, _, _, _], _ => rfl
  have F_tree_of := fun_mk (st := s_tree_of) l_tree_of c_tree_of k_tree_of
  have B_tree_of := F_tree_of.binds (ps := ["row"]) fun _ _ _ _ _ _ us hl => match us, hl with | [_], _ => rfl
  have F_way_up := fun_mk (st := s_way_up) l_way_up c_way_up k_way_up
  have B_way_up := F_way_up.binds (ps := ["tree", "place"]) fun _ _ _ _ _ _ us hl => match us, hl with | [_, _], _ => rfl
  have F_is_tree := fun_mk (st := s_is_tree) l_is_tree c_is_tree k_is_tree
  have B_is_tree := F_is_tree.binds (ps := ["tree"]) fun _ _ _ _ _ _ us hl => match us, hl with | [_], _ => rfl
  have F_need_tree := fun_mk (st := s_need_tree) l_need_tree c_need_tree k_need_tree
  have B_need_tree := F_need_tree.binds (ps := ["tree"]) fun _ _ _ _ _ _ us hl => match us, hl with | [_], _ => rfl
  have F_fences_of := fun_mk (st := s_fences_of) l_fences_of c_fences_of k_fences_of
  have B_fences_of := F_fences_of.binds (ps := ["tree"]) fun _ _ _ _ _ _ us hl => match us, hl with | [_], _ => rfl
  have F_need_count := fun_mk (st := s_need_count) l_need_count c_need_count k_need_count
  have B_need_count := F_need_count.binds (ps := ["n"]) fun _ _ _ _ _ _ us hl => match us, hl with | [_], _ => rfl
  have F_running_sums := fun_mk (st := s_running_sums) l_running_sums c_running_sums k_running_sums
  have B_running_sums := F_running_sums.binds (ps := ["numbers"]) fun _ _ _ _ _ _ us hl => match us, hl with | [_], _ => rfl
  have F_one_more := fun_mk (st := s_one_more) l_one_more c_one_more k_one_more
  have B_one_more := F_one_more.binds (ps := ["ends"]) fun _ _ _ _ _ _ us hl => match us, hl with | [_], _ => rfl
  have F_climbs := fun_mk (st := s_climbs) l_climbs c_climbs k_climbs
  have B_climbs := F_climbs.binds (ps := ["n", "most"]) fun _ _ _ _ _ _ us hl => match us, hl with | [_, _], _ => rfl
  have F_many_trees := fun_mk (st := s_many_trees) l_many_trees c_many_trees k_many_trees
  have B_many_trees := F_many_trees.binds (ps := ["n"]) fun _ _ _ _ _ _ us hl => match us, hl with | [_], _ => rfl
  have F_many_open := fun_mk (st := s_many_open) l_many_open c_many_open k_many_open
  have B_many_open := F_many_open.binds (ps := ["n", "k"]) fun _ _ _ _ _ _ us hl => match us, hl with | [_, _], _ => rfl
  have F_choices := fun_mk (st := s_choices) l_choices c_choices k_choices
  have B_choices := F_choices.binds (ps := ["n", "k"]) fun _ _ _ _ _ _ us hl => match us, hl with | [_, _], _ => rfl
  have F_many_falls := fun_mk (st := s_many_falls) l_many_falls c_many_falls k_many_falls
  have B_many_falls := F_many_falls.binds (ps := ["n", "k"]) fun _ _ _ _ _ _ us hl => match us, hl with | [_, _], _ => rfl
  have F_many_flat := fun_mk (st := s_many_flat) l_many_flat c_many_flat k_many_flat
  have B_many_flat := F_many_flat.binds (ps := ["n", "most"]) fun _ _ _ _ _ _ us hl => match us, hl with | [_, _], _ => rfl
  have F_drops_of := fun_mk (st := s_drops_of) l_drops_of c_drops_of k_drops_of
  have B_drops_of := F_drops_of.binds (ps := ["tree"]) fun _ _ _ _ _ _ us hl => match us, hl with | [_], _ => rfl
  have F_need_short := fun_mk (st := s_need_short) l_need_short c_need_short k_need_short
  have B_need_short := F_need_short.binds (ps := ["told"]) fun _ _ _ _ _ _ us hl => match us, hl with | [_], _ => rfl
  have F_by_drops := fun_mk (st := s_by_drops) l_by_drops c_by_drops k_by_drops
  have B_by_drops := F_by_drops.binds (ps := ["told"]) fun _ _ _ _ _ _ us hl => match us, hl with | [_], _ => rfl
  have F_pick := fun_mk (st := s_pick) l_pick c_pick k_pick
  have B_pick := F_pick.binds (ps := ["ways", "number"]) fun _ _ _ _ _ _ us hl => match us, hl with | [_, _], _ => rfl
  have F_goings_on := fun_mk (st := s_goings_on) l_goings_on c_goings_on k_goings_on
  have B_goings_on := F_goings_on.binds (ps := ["n"]) fun _ _ _ _ _ _ us hl => match us, hl with | [_], _ => rfl
  have F_drop_ways := fun_mk (st := s_drop_ways) l_drop_ways c_drop_ways k_drop_ways
  have B_drop_ways := F_drop_ways.binds (ps := ["goings", "still"]) fun _ _ _ _ _ _ us hl => match us, hl with | [_, _], _ => rfl
  have F_tree_at := fun_mk (st := s_tree_at) l_tree_at c_tree_at k_tree_at
  have B_tree_at := F_tree_at.binds (ps := ["n", "number"]) fun _ _ _ _ _ _ us hl => match us, hl with | [_, _], _ => rfl
  have F_number_of := fun_mk (st := s_number_of) l_number_of c_number_of k_number_of
  have B_number_of := F_number_of.binds (ps := ["tree"]) fun _ _ _ _ _ _ us hl => match us, hl with | [_], _ => rfl
  have F__law_pool := fun_mk (st := s__law_pool) l__law_pool c__law_pool k__law_pool
  have B__law_pool := F__law_pool.binds (ps := ["script", "k"]) fun _ _ _ _ _ _ us hl => match us, hl with | [_, _], _ => rfl
  have F__law_pick := fun_mk (st := s__law_pick) l__law_pick c__law_pick k__law_pick
  have B__law_pick := F__law_pick.binds (ps := ["pool", "many"]) fun _ _ _ _ _ _ us hl => match us, hl with | [_, _], _ => rfl
  have F__law_over := fun_mk (st := s__law_over) l__law_over c__law_over k__law_over
  have B__law_over := F__law_over.binds (ps := ["tree", "place"]) fun _ _ _ _ _ _ us hl => match us, hl with | [_, _], _ => rfl
  have F__law_flats := fun_mk (st := s__law_flats) l__law_flats c__law_flats k__law_flats
  have B__law_flats := F__law_flats.binds (ps := ["tree"]) fun _ _ _ _ _ _ us hl => match us, hl with | [_], _ => rfl
  have F__law_tree_of := fun_mk (st := s__law_tree_of) l__law_tree_of c__law_tree_of k__law_tree_of
  have B__law_tree_of := F__law_tree_of.binds (ps := ["row"]) fun _ _ _ _ _ _ us hl => match us, hl with | [_], _ => rfl
  have F__law_is_tree := fun_mk (st := s__law_is_tree) l__law_is_tree c__law_is_tree k__law_is_tree
  have B__law_is_tree := F__law_is_tree.binds (ps := ["tree"]) fun _ _ _ _ _ _ us hl => match us, hl with | [_], _ => rfl
  have F__law_kin_row := fun_mk (st := s__law_kin_row) l__law_kin_row c__law_kin_row k__law_kin_row
  have B__law_kin_row := F__law_kin_row.binds (ps := ["pool", "tree"]) fun _ _ _ _ _ _ us hl => match us, hl with | [_, _], _ => rfl
  have F__law_alone := fun_mk (st := s__law_alone) l__law_alone c__law_alone k__law_alone
  have B__law_alone := F__law_alone.binds (ps := ["e", "place"]) fun _ _ _ _ _ _ us hl => match us, hl with | [_, _], _ => rfl
  have F__law_drops_of := fun_mk (st := s__law_drops_of) l__law_drops_of c__law_drops_of k__law_drops_of
  have B__law_drops_of := F__law_drops_of.binds (ps := ["row"]) fun _ _ _ _ _ _ us hl => match us, hl with | [_], _ => rfl
  have F__law_none_behind := fun_mk (st := s__law_none_behind) l__law_none_behind c__law_none_behind k__law_none_behind
  have B__law_none_behind := F__law_none_behind.binds (ps := ["n", "number"]) fun _ _ _ _ _ _ us hl => match us, hl with | [_, _], _ => rfl
  have F__law_falls := fun_mk (st := s__law_falls) l__law_falls c__law_falls k__law_falls
  have B__law_falls := F__law_falls.binds (ps := ["row"]) fun _ _ _ _ _ _ us hl => match us, hl with | [_], _ => rfl
  have F_law := fun_mk (st := s_law) l_law c_law k_law
  refine ⟨PySem.W.fnOf "law" "law" (defArgs s_law) (defBody s_law) (defScope s_law) .none kV_law dc_law pm_law an_law cd_law ct_law, fun s v => .of_eq rfl, fun base _ _ => ?_⟩
  have G_need_count : Callee l.prog w K mg base "need_count" 1 ["n"] (sp_need_count K mg) := ⟨_, _, PySem.W.mg_of X G a_need_count, k_need_count, B_need_count, ok_need_count F_need_count  T⟩
  have G_running_sums : Callee l.prog w K mg base "running_sums" 1 ["numbers"] (sp_running_sums K mg) := ⟨_, _, PySem.W.mg_of X G a_running_sums, k_running_sums, B_running_sums, ok_running_sums F_running_sums  T⟩
  have G_one_more : Callee l.prog w K mg base "one_more" 2 ["ends"] (sp_one_more K mg) := ⟨_, _, PySem.W.mg_of X G a_one_more, k_one_more, B_one_more, ok_one_more F_one_more G_running_sums T⟩
  have G_climbs : Callee l.prog w K mg base "climbs" 3 ["n", "most"] (sp_climbs K mg) := ⟨_, _, PySem.W.mg_of X G a_climbs, k_climbs, B_climbs, ok_climbs F_climbs G_one_more T⟩
  have G_many_flat : Callee l.prog w K mg base "many_flat" 4 ["n", "most"] (sp_many_flat K mg) := ⟨_, _, PySem.W.mg_of X G a_many_flat, k_many_flat, B_many_flat, ok_many_flat F_many_flat G_need_count G_climbs T⟩
  have G_many_trees : Callee l.prog w K mg base "many_trees" 5 ["n"] (sp_many_trees K mg) := ⟨_, _, PySem.W.mg_of X G a_many_trees, k_many_trees, B_many_trees, ok_many_trees F_many_trees G_many_flat T⟩
  have G_many_open : Callee l.prog w K mg base "many_open" 4 ["n", "k"] (sp_many_open K mg) := ⟨_, _, PySem.W.mg_of X G a_many_open, k_many_open, B_many_open, ok_many_open F_many_open G_need_count G_climbs T⟩
  have G_choices : Callee l.prog w K mg base "choices" 1 ["n", "k"] (sp_choices K mg) := ⟨_, _, PySem.W.mg_of X G a_choices, k_choices, B_choices, ok_choices F_choices  T⟩
  have G_many_falls : Callee l.prog w K mg base "many_falls" 2 ["n", "k"] (sp_many_falls K mg) := ⟨_, _, PySem.W.mg_of X G a_many_falls, k_many_falls, B_many_falls, ok_many_falls F_many_falls G_need_count G_choices T⟩
  have G_settle : Callee l.prog w K mg base "settle" 1 ["elders", "spine", "place", "keep"] (sp_settle K mg) := ⟨_, _, PySem.W.mg_of X G a_settle, k_settle, B_settle, ok_settle F_settle  T⟩
  have G_need_short : Callee l.prog w K mg base "need_short" 1 ["told"] (sp_need_short K mg) := ⟨_, _, PySem.W.mg_of X G a_need_short, k_need_short, B_need_short, ok_need_short F_need_short  T⟩
  have G_by_drops : Callee l.prog w K mg base "by_drops" 2 ["told"] (sp_by_drops K mg) := ⟨_, _, PySem.W.mg_of X G a_by_drops, k_by_drops, B_by_drops, ok_by_drops F_by_drops G_settle G_need_short T⟩
  have G_pick : Callee l.prog w K mg base "pick" 1 ["ways", "number"] (sp_pick K mg) := ⟨_, _, PySem.W.mg_of X G a_pick, k_pick, B_pick, ok_pick F_pick  T⟩
  have G_goings_on : Callee l.prog w K mg base "goings_on" 2 ["n"] (sp_goings_on K mg) := ⟨_, _, PySem.W.mg_of X G a_goings_on, k_goings_on, B_goings_on, ok_goings_on F_goings_on G_running_sums T⟩
  have G_drop_ways : Callee l.prog w K mg base "drop_ways" 1 ["goings", "still"] (sp_drop_ways K mg) := ⟨_, _, PySem.W.mg_of X G a_drop_ways, k_drop_ways, B_drop_ways, ok_drop_ways F_drop_ways  T⟩
  have G_tree_at : Callee l.prog w K mg base "tree_at" 3 ["n", "number"] (sp_tree_at K mg) := ⟨_, _, PySem.W.mg_of X G a_tree_at, k_tree_at, B_tree_at, ok_tree_at F_tree_at G_need_count G_by_drops G_pick G_goings_on G_drop_ways T⟩
  have G_tree_of : Callee l.prog w K mg base "tree_of" 2 ["row"] (sp_tree_of K mg) := ⟨_, _, PySem.W.mg_of X G a_tree_of, k_tree_of, B_tree_of, ok_tree_of F_tree_of G_settle T⟩
  have G_way_up : Callee l.prog w K mg base "way_up" 1 ["tree", "place"] (sp_way_up K mg) := ⟨_, _, PySem.W.mg_of X G a_way_up, k_way_up, B_way_up, ok_way_up F_way_up  T⟩
  have G_is_tree : Callee l.prog w K mg base "is_tree" 3 ["tree"] (sp_is_tree K mg) := ⟨_, _, PySem.W.mg_of X G a_is_tree, k_is_tree, B_is_tree, ok_is_tree F_is_tree G_tree_of G_way_up T⟩
  have G_need_tree : Callee l.prog w K mg base "need_tree" 4 ["tree"] (sp_need_tree K mg) := ⟨_, _, PySem.W.mg_of X G a_need_tree, k_need_tree, B_need_tree, ok_need_tree F_need_tree G_is_tree T⟩
  have G_fences_of : Callee l.prog w K mg base "fences_of" 2 ["tree"] (sp_fences_of K mg) := ⟨_, _, PySem.W.mg_of X G a_fences_of, k_fences_of, B_fences_of, ok_fences_of F_fences_of G_way_up T⟩
  have G_drops_of : Callee l.prog w K mg base "drops_of" 5 ["tree"] (sp_drops_of K mg) := ⟨_, _, PySem.W.mg_of X G a_drops_of, k_drops_of, B_drops_of, ok_drops_of F_drops_of G_need_tree G_fences_of T⟩
  have G_number_of : Callee l.prog w K mg base "number_of" 6 ["tree"] (sp_number_of K mg) := ⟨_, _, PySem.W.mg_of X G a_number_of, k_number_of, B_number_of, ok_number_of F_number_of G_drops_of G_goings_on G_drop_ways T⟩
  have G__law_pool : Callee l.prog w K mg base "_law_pool" 1 ["script", "k"] (sp__law_pool K mg) := ⟨_, _, PySem.W.mg_of X G a__law_pool, k__law_pool, B__law_pool, ok__law_pool F__law_pool  T⟩
  have G__law_pick : Callee l.prog w K mg base "_law_pick" 1 ["pool", "many"] (sp__law_pick K mg) := ⟨_, _, PySem.W.mg_of X G a__law_pick, k__law_pick, B__law_pick, ok__law_pick F__law_pick  T⟩
  have G__law_over : Callee l.prog w K mg base "_law_over" 1 ["tree", "place"] (sp__law_over K mg) := ⟨_, _, PySem.W.mg_of X G a__law_over, k__law_over, B__law_over, ok__law_over F__law_over  T⟩
  have G__law_flats : Callee l.prog w K mg base "_law_flats" 2 ["tree"] (sp__law_flats K mg) := ⟨_, _, PySem.W.mg_of X G a__law_flats, k__law_flats, B__law_flats, ok__law_flats F__law_flats G__law_over T⟩
  have G__law_tree_of : Callee l.prog w K mg base "_law_tree_of" 1 ["row"] (sp__law_tree_of K mg) := ⟨_, _, PySem.W.mg_of X G a__law_tree_of, k__law_tree_of, B__law_tree_of, ok__law_tree_of F__law_tree_of  T⟩
  have G__law_is_tree : Callee l.prog w K mg base "_law_is_tree" 3 ["tree"] (sp__law_is_tree K mg) := ⟨_, _, PySem.W.mg_of X G a__law_is_tree, k__law_is_tree, B__law_is_tree, ok__law_is_tree F__law_is_tree G__law_flats G__law_tree_of T⟩
  have G__law_kin_row : Callee l.prog w K mg base "_law_kin_row" 2 ["pool", "tree"] (sp__law_kin_row K mg) := ⟨_, _, PySem.W.mg_of X G a__law_kin_row, k__law_kin_row, B__law_kin_row, ok__law_kin_row F__law_kin_row G__law_pick G__law_over T⟩
  have G__law_drops_of : Callee l.prog w K mg base "_law_drops_of" 1 ["row"] (sp__law_drops_of K mg) := ⟨_, _, PySem.W.mg_of X G a__law_drops_of, k__law_drops_of, B__law_drops_of, ok__law_drops_of F__law_drops_of  T⟩
  have G__law_alone : Callee l.prog w K mg base "_law_alone" 1 ["e", "place"] (sp__law_alone K mg) := ⟨_, _, PySem.W.mg_of X G a__law_alone, k__law_alone, B__law_alone, ok__law_alone F__law_alone  T⟩
  have G__law_none_behind : Callee l.prog w K mg base "_law_none_behind" 4 ["n", "number"] (sp__law_none_behind K mg) := ⟨_, _, PySem.W.mg_of X G a__law_none_behind, k__law_none_behind, B__law_none_behind, ok__law_none_behind F__law_none_behind G_tree_at G__law_alone T⟩
  have G__law_falls : Callee l.prog w K mg base "_law_falls" 1 ["row"] (sp__law_falls K mg) := ⟨_, _, PySem.W.mg_of X G a__law_falls, k__law_falls, B__law_falls, ok__law_falls F__law_falls  T⟩
  exact ok_law F_law G_many_trees G_many_open G_many_falls G_many_flat G_tree_at G_number_of G__law_pool G__law_pick G__law_flats G__law_is_tree G__law_kin_row G__law_drops_of G__law_none_behind G__law_falls T
theorem walk {l : PySem.W.OpenLaw} {q : Program} {loose : List Str} {XP : (Str → Option Value) → Heap → Prop} {YP : World → Heap → Prop} {d : DefRec} {K : Params → PySem.W.Frag} (hn : l.most = some 63) (hdf : d.params.defaults = [])
    (hY : ∀ (w : World) (h : Heap), YP w h → (K w.params).In h)
    (F : ∀ (w : World) (mg : Str → Option Value) (fa : Addr) (h : Heap), (K w.params).In h → h.Ns mainGlobals mg → mg d.name = some (.ref fa) →
      ∃ fd : FuncData, (∀ (s : Shared) (u : Value), BindsTo s fd ⟨[u], []⟩ [("script", u)]) ∧ ∀ base : Heap, (K w.params).In base → base.Ns mainGlobals mg → FnOk l.prog w (K w.params) mg base (CXE l.prog w) 7 fa fd ["script"] (spLaw (K w.params))) :
    PySem.W.WalkO q loose XP YP l.row.toRowW d [] (fun f vs => PySem.call f vs) :=
  L2.walk_of (n := 63) (k := 7) (x := "script") (CX := fun w => CXE l.prog w) (sp := fun w => spLaw (K w.params)) hn (by decide) hdf ⟨rfl, by decide, by decide⟩ hY F (fun _ _ a ns hl _ hS => ⟨a, ns, rfl, hS, hl, fun _ => rfl⟩) fun _ _ _ _ _ ⟨_, _, _, _, _, _, _, z⟩ => z
end K27
def PySem.W.Fast.tw14240944017640077779 : Unit := ()
def PySem.W.Fast.tw14739328032904182049 : Unit := ()
def PySem.W.Fast.tw2362404462303515352 : Unit := ()
def PySem.W.Fast.tw8075484152577151372 : Unit := ()
def PySem.W.Fast.tw16092075266101549741 : Unit := ()
def PySem.W.Fast.tw1318421429909419604 : Unit := ()
def PySem.W.Fast.tw9592383493572723224 : Unit := ()
def PySem.W.Fast.tw15278291606658799928 : Unit := ()
def PySem.W.Fast.tw18397071248261182997 : Unit := ()
def PySem.W.Fast.tw11999861084780702129 : Unit := ()
def PySem.W.Fast.tw1116821512512804776 : Unit := ()
def PySem.W.Fast.tw4374900957791958713 : Unit := ()
def PySem.W.Fast.tw4099062790816754085 : Unit := ()
def PySem.W.Fast.tw7159219228696516488 : Unit := ()
def PySem.W.Fast.tw8878640631708763988 : Unit := ()
def PySem.W.Fast.tw8962382417202576770 : Unit := ()
def PySem.W.Fast.tw3446276840966623222 : Unit := ()
def PySem.W.Fast.tw15387022987541286322 : Unit := ()
def PySem.W.Fast.tw18160593893346792825 : Unit := ()
def PySem.W.Fast.tw11917942411462276082 : Unit := ()
def PySem.W.Fast.tw17908583616459172352 : Unit := ()
def PySem.W.Fast.tw10779011186392015917 : Unit := ()
def PySem.W.Fast.tw12280407774962579758 : Unit := ()
def PySem.W.Fast.tw8795613740667967275 : Unit := ()
def PySem.W.Fast.tw11217870050669337790 : Unit := ()
def PySem.W.Fast.tw4975756509616179371 : Unit := ()
def PySem.W.Fast.tw11401016825637019665 : Unit := ()
def PySem.W.Fast.tw15322021940424219 : Unit := ()
def PySem.W.Fast.tw789547925139315410 : Unit := ()
def PySem.W.Fast.tw16044964774435525566 : Unit := ()
def PySem.W.Fast.tw3682500633679906256 : Unit := ()
def PySem.W.Fast.tw5049216261507691901 : Unit := ()
def PySem.W.Fast.tw9218130733240196674 : Unit := ()
def PySem.W.Fast.tw1654358594032951531 : Unit := ()
def PySem.W.Fast.tw7122467206850586113 : Unit := ()
def PySem.W.Fast.tw2313465686514114013 : Unit := ()
def PySem.W.Fast.tw612705511726939239 : Unit := ()
def PySem.W.Fast.tw3164521352956379088 : Unit := ()
def PySem.W.Fast.tw14916803945006954152 : Unit := ()
def PySem.W.Fast.tw11863633170492064919 : Unit := ()
def PySem.W.Fast.tw1376507821198878983 : Unit := ()
def PySem.W.Fast.tw9542375493032195895 : Unit := ()
def PySem.W.Fast.tw14747028249994197543 : Unit := ()
def PySem.W.Fast.tw16619785739126886768 : Unit := ()
def PySem.W.Fast.tw9337864737205101575 : Unit := ()
def PySem.W.Fast.tw4930184662833851088 : Unit := ()
def PySem.W.Fast.tw5966127387996975057 : Unit := ()
def PySem.W.Fast.tw18140589761930577776 : Unit := ()
def PySem.W.Fast.tw8532828060170206910 : Unit := ()
def PySem.W.Fast.tw5903422545573361635 : Unit := ()
def PySem.W.Fast.tw9691431698688562208 : Unit := ()
def PySem.W.Fast.tw14496697437920397160 : Unit := ()
def PySem.W.Fast.tw12957889672974952575 : Unit := ()
def PySem.W.Fast.tw15845024470584382403 : Unit := ()
def PySem.W.Fast.tw3459932059574410598 : Unit := ()
def PySem.W.Fast.tw7037856488780536363 : Unit := ()
def PySem.W.Fast.tw18178932687109487409 : Unit := ()
def PySem.W.Fast.tw13566274570800426357 : Unit := ()
def PySem.W.Fast.tw3311622713515693889 : Unit := ()
def PySem.W.Fast.tw12044253811147886065 : Unit := ()
def PySem.W.Fast.tw545262854880891244 : Unit := ()
def PySem.W.Fast.tw778240735337700988 : Unit := ()
def PySem.W.Fast.tw14011044692411504546 : Unit := ()
def PySem.W.Fast.tw5990062754266736151 : Unit := ()
def PySem.W.Fast.tw6784049211234431302 : Unit := ()
def PySem.W.Fast.tw15459189061382429420 : Unit := ()
def PySem.W.Fast.tw16887238318663471098 : Unit := ()
def PySem.W.Fast.tw10463633752568350654 : Unit := ()
def PySem.W.Fast.tw17948437513116077326 : Unit := ()
def PySem.W.Fast.tw16487599440087074562 : Unit := ()
def PySem.W.Fast.tw16616607979394749883 : Unit := ()
def PySem.W.Fast.tw3623725218864031400 : Unit := ()
def PySem.W.Fast.tw14573459849358636885 : Unit := ()
def PySem.W.Fast.tw13878003891786352152 : Unit := ()
def PySem.W.Fast.tw396837832770231990 : Unit := ()
def PySem.W.Fast.tw2901388701369228638 : Unit := ()
def PySem.W.Fast.tw14214682550460268116 : Unit := ()
def PySem.W.Fast.tw3310179891122390659 : Unit := ()
def PySem.W.Fast.tw8031696329656831633 : Unit := ()
def PySem.W.Fast.tw17084074286340186886 : Unit := ()
def PySem.W.Fast.tw14765223137647139078 : Unit := ()
def PySem.W.Fast.tw11240824087080652021 : Unit := ()
def PySem.W.Fast.tw4915130222341132527 : Unit := ()
def PySem.W.Fast.tw10555421677511796174 : Unit := ()
def PySem.W.Fast.tw3489444007442171389 : Unit := ()
def PySem.W.Fast.tw6172048202149761802 : Unit := ()
def PySem.W.Fast.tw15233495572244010069 : Unit := ()
def PySem.W.Fast.tw17525561512206031564 : Unit := ()
def PySem.W.Fast.tw7687781321076344722 : Unit := ()
def PySem.W.Fast.tw14678471370218784799 : Unit := ()
def PySem.W.Fast.tw4508650345622141591 : Unit := ()
def PySem.W.Fast.tw6137829608285128301 : Unit := ()
def PySem.W.Fast.tw13352690098335767060 : Unit := ()
def PySem.W.Fast.tw17219272681531943610 : Unit := ()
def PySem.W.Fast.tw7719612056132996657 : Unit := ()
def PySem.W.Fast.tw5397912341330017622 : Unit := ()
def PySem.W.Fast.tw6266159318068886474 : Unit := ()
def PySem.W.Fast.tw4183012014138149668 : Unit := ()
def PySem.W.Fast.tw2140775943161009431 : Unit := ()
def PySem.W.Fast.tw4361465789310806431 : Unit := ()
def PySem.W.Fast.tw18356573794109764021 : Unit := ()
def PySem.W.Fast.tw2206911441766874423 : Unit := ()
def PySem.W.Fast.tw9494259027876258134 : Unit := ()
def PySem.W.Fast.tw12470126335177429000 : Unit := ()
def PySem.W.Fast.tw9614503209636930869 : Unit := ()

open PySem PySem.W PyProof.Rows
set_option maxRecDepth 100000 in
set_option maxHeartbeats 0 in
theorem PySem.Challenge.cw_dipkin_k27_whole_all_trees_of_few_places_holds : PySem.Challenge.rw_dipkin_k27_whole_all_trees_of_few_places.Holds := by
  w_on; o_law; k_head; (case hw => w_witness2)
  k_fill
  refine K27.walk (l := PySem.Challenge.rw_dipkin_k27_whole_all_trees_of_few_places) rfl rfl (fun w h Y => PySem.W.kIn_of Y) ?F
  case F =>
    intro w mg fa h KX G hmg
    refine' K27.all_mk KX G hmg ?a_settle ?l_settle ?c_settle ?k_settle ?a_tree_of ?l_tree_of ?c_tree_of ?k_tree_of ?a_way_up ?l_way_up ?c_way_up ?k_way_up ?a_is_tree ?l_is_tree ?c_is_tree ?k_is_tree ?a_need_tree ?l_need_tree ?c_need_tree ?k_need_tree ?a_fences_of ?l_fences_of ?c_fences_of ?k_fences_of ?a_need_count ?l_need_count ?c_need_count ?k_need_count ?a_running_sums ?l_running_sums ?c_running_sums ?k_running_sums ?a_one_more ?l_one_more ?c_one_more ?k_one_more ?a_climbs ?l_climbs ?c_climbs ?k_climbs ?a_many_trees ?l_many_trees ?c_many_trees ?k_many_trees ?a_many_open ?l_many_open ?c_many_open ?k_many_open ?a_choices ?l_choices ?c_choices ?k_choices ?a_many_falls ?l_many_falls ?c_many_falls ?k_many_falls ?a_many_flat ?l_many_flat ?c_many_flat ?k_many_flat ?a_drops_of ?l_drops_of ?c_drops_of ?k_drops_of ?a_need_short ?l_need_short ?c_need_short ?k_need_short ?a_by_drops ?l_by_drops ?c_by_drops ?k_by_drops ?a_pick ?l_pick ?c_pick ?k_pick ?a_goings_on ?l_goings_on ?c_goings_on ?k_goings_on ?a_drop_ways ?l_drop_ways ?c_drop_ways ?k_drop_ways ?a_tree_at ?l_tree_at ?c_tree_at ?k_tree_at ?a_number_of ?l_number_of ?c_number_of ?k_number_of ?a__law_pool ?l__law_pool ?c__law_pool ?k__law_pool ?a__law_pick ?l__law_pick ?c__law_pick ?k__law_pick ?a__law_over ?l__law_over ?c__law_over ?k__law_over ?a__law_flats ?l__law_flats ?c__law_flats ?k__law_flats ?a__law_tree_of ?l__law_tree_of ?c__law_tree_of ?k__law_tree_of ?a__law_is_tree ?l__law_is_tree ?c__law_is_tree ?k__law_is_tree ?a__law_kin_row ?l__law_kin_row ?c__law_kin_row ?k__law_kin_row ?a__law_alone ?l__law_alone ?c__law_alone ?k__law_alone ?a__law_drops_of ?l__law_drops_of ?c__law_drops_of ?k__law_drops_of ?a__law_none_behind ?l__law_none_behind ?c__law_none_behind ?k__law_none_behind ?a__law_falls ?l__law_falls ?c__law_falls ?k__law_falls ?a_law ?l_law ?c_law ?k_law ?n_DipError ?x_DipError ?d_DipError ?y_DipError ?n_Unlike ?x_Unlike ?d_Unlike ?y_Unlike ?n_Empty ?x_Empty ?d_Empty ?y_Empty ?n_TooMany ?x_TooMany ?d_TooMany ?y_TooMany ?n_NoTree ?x_NoTree ?d_NoTree ?y_NoTree ?n_NoTelling ?x_NoTelling ?d_NoTelling ?y_NoTelling ?n_NoPlace ?x_NoPlace ?d_NoPlace ?y_NoPlace ?n_NoNumber ?x_NoNumber ?d_NoNumber ?y_NoNumber ?n_NoPast ?x_NoPast ?d_NoPast ?y_NoPast ?n_NoText ?x_NoText ?d_NoText ?y_NoText ?n_NoLine ?x_NoLine ?d_NoLine ?y_NoLine ?z1_TooMany ?z2_TooMany ?z3_TooMany ?z4_TooMany ?z5_TooMany ?z6_TooMany ?z7_TooMany ?z8_TooMany ?u_TooMany ?i_TooMany_DipError ?ne_TooMany_DipError ?i_TooMany_Unlike ?ne_TooMany_Unlike ?i_TooMany_Empty ?ne_TooMany_Empty ?i_TooMany_NoTree ?ne_TooMany_NoTree ?i_TooMany_NoTelling ?ne_TooMany_NoTelling ?i_TooMany_NoPlace ?ne_TooMany_NoPlace ?i_TooMany_NoNumber ?ne_TooMany_NoNumber ?i_TooMany_NoPast ?ne_TooMany_NoPast ?i_TooMany_NoText ?ne_TooMany_NoText ?i_TooMany_NoLine ?ne_TooMany_NoLine ?i_TooMany_V ?z1_NoNumber ?z2_NoNumber ?z3_NoNumber ?z4_NoNumber ?z5_NoNumber ?z6_NoNumber ?z7_NoNumber ?z8_NoNumber ?u_NoNumber ?i_NoNumber_DipError ?ne_NoNumber_DipError ?i_NoNumber_Unlike ?ne_NoNumber_Unlike ?i_NoNumber_Empty ?ne_NoNumber_Empty ?i_NoNumber_TooMany ?ne_NoNumber_TooMany ?i_NoNumber_NoTree ?ne_NoNumber_NoTree ?i_NoNumber_NoTelling ?ne_NoNumber_NoTelling ?i_NoNumber_NoPlace ?ne_NoNumber_NoPlace ?i_NoNumber_NoPast ?ne_NoNumber_NoPast ?i_NoNumber_NoText ?ne_NoNumber_NoText ?i_NoNumber_NoLine ?ne_NoNumber_NoLine ?i_NoNumber_V ?z1_NoTree ?z2_NoTree ?z3_NoTree ?z4_NoTree ?z5_NoTree ?z6_NoTree ?z7_NoTree ?z8_NoTree ?u_NoTree ?i_NoTree_DipError ?ne_NoTree_DipError ?i_NoTree_Unlike ?ne_NoTree_Unlike ?i_NoTree_Empty ?ne_NoTree_Empty ?i_NoTree_TooMany ?ne_NoTree_TooMany ?i_NoTree_NoTelling ?ne_NoTree_NoTelling ?i_NoTree_NoPlace ?ne_NoTree_NoPlace ?i_NoTree_NoNumber ?ne_NoTree_NoNumber ?i_NoTree_NoPast ?ne_NoTree_NoPast ?i_NoTree_NoText ?ne_NoTree_NoText ?i_NoTree_NoLine ?ne_NoTree_NoLine ?i_NoTree_V ?b_ValueError ?b_enumerate ?b_int ?b_isinstance ?b_len ?b_max ?b_min ?b_range ?b_reversed ?b_sorted ?b_sum ?b_tuple ?m_MOST_PLACES
    (case a_settle => k_is)
    (case l_settle => k_is)
    (case c_settle => k_is)
    (case k_settle => k_is)
    (case a_tree_of => k_is)
    (case l_tree_of => k_is)
    (case c_tree_of => k_is)
    (case k_tree_of => k_is)
    (case a_way_up => k_is)
    (case l_way_up => k_is)
    (case c_way_up => k_is)
    (case k_way_up => k_is)
    (case a_is_tree => k_is)
    (case l_is_tree => k_is)
    (case c_is_tree => k_is)
    (case k_is_tree => k_is)
    (case a_need_tree => k_is)
    (case l_need_tree => k_is)
    (case c_need_tree => k_is)
    (case k_need_tree => k_is)
    (case a_fences_of => k_is)
    (case l_fences_of => k_is)
    (case c_fences_of => k_is)
    (case k_fences_of => k_is)
    (case a_need_count => k_is)
    (case l_need_count => k_is)
    (case c_need_count => k_is)
    (case k_need_count => k_is)
    (case a_running_sums => k_is)
    (case l_running_sums => k_is)
    (case c_running_sums => k_is)
    (case k_running_sums => k_is)
    (case a_one_more => k_is)
    (case l_one_more => k_is)
    (case c_one_more => k_is)
    (case k_one_more => k_is)
    (case a_climbs => k_is)
    (case l_climbs => k_is)
    (case c_climbs => k_is)
    (case k_climbs => k_is)
    (case a_many_trees => k_is)
    (case l_many_trees => k_is)
    (case c_many_trees => k_is)
    (case k_many_trees => k_is)
    (case a_many_open => k_is)
    (case l_many_open => k_is)
    (case c_many_open => k_is)
    (case k_many_open => k_is)
    (case a_choices => k_is)
    (case l_choices => k_is)
    (case c_choices => k_is)
    (case k_choices => k_is)
    (case a_many_falls => k_is)
    (case l_many_falls => k_is)
    (case c_many_falls => k_is)
    (case k_many_falls => k_is)
    (case a_many_flat => k_is)
    (case l_many_flat => k_is)
    (case c_many_flat => k_is)
    (case k_many_flat => k_is)
    (case a_drops_of => k_is)
    (case l_drops_of => k_is)
    (case c_drops_of => k_is)
    (case k_drops_of => k_is)
    (case a_need_short => k_is)
    (case l_need_short => k_is)
    (case c_need_short => k_is)
    (case k_need_short => k_is)
    (case a_by_drops => k_is)
    (case l_by_drops => k_is)
    (case c_by_drops => k_is)
    (case k_by_drops => k_is)
    (case a_pick => k_is)
    (case l_pick => k_is)
    (case c_pick => k_is)
    (case k_pick => k_is)
    (case a_goings_on => k_is)
    (case l_goings_on => k_is)
    (case c_goings_on => k_is)
    (case k_goings_on => k_is)
    (case a_drop_ways => k_is)
    (case l_drop_ways => k_is)
    (case c_drop_ways => k_is)
    (case k_drop_ways => k_is)
    (case a_tree_at => k_is)
    (case l_tree_at => k_is)
    (case c_tree_at => k_is)
    (case k_tree_at => k_is)
    (case a_number_of => k_is)
    (case l_number_of => k_is)
    (case c_number_of => k_is)
    (case k_number_of => k_is)
    (case a__law_pool => k_is)
    (case l__law_pool => k_is)
    (case c__law_pool => k_is)
    (case k__law_pool => k_is)
    (case a__law_pick => k_is)
    (case l__law_pick => k_is)
    (case c__law_pick => k_is)
    (case k__law_pick => k_is)
    (case a__law_over => k_is)
    (case l__law_over => k_is)
    (case c__law_over => k_is)
    (case k__law_over => k_is)
    (case a__law_flats => k_is)
    (case l__law_flats => k_is)
    (case c__law_flats => k_is)
    (case k__law_flats => k_is)
    (case a__law_tree_of => k_is)
    (case l__law_tree_of => k_is)
    (case c__law_tree_of => k_is)
    (case k__law_tree_of => k_is)
    (case a__law_is_tree => k_is)
    (case l__law_is_tree => k_is)
    (case c__law_is_tree => k_is)
    (case k__law_is_tree => k_is)
    (case a__law_kin_row => k_is)
    (case l__law_kin_row => k_is)
    (case c__law_kin_row => k_is)
    (case k__law_kin_row => k_is)
    (case a__law_alone => k_is)
    (case l__law_alone => k_is)
    (case c__law_alone => k_is)
    (case k__law_alone => k_is)
    (case a__law_drops_of => k_is)
    (case l__law_drops_of => k_is)
    (case c__law_drops_of => k_is)
    (case k__law_drops_of => k_is)
    (case a__law_none_behind => k_is)
    (case l__law_none_behind => k_is)
    (case c__law_none_behind => k_is)
    (case k__law_none_behind => k_is)
    (case a__law_falls => k_is)
    (case l__law_falls => k_is)
    (case c__law_falls => k_is)
    (case k__law_falls => k_is)
    (case a_law => k_is)
    (case l_law => k_is)
    (case c_law => k_is)
    (case k_law => k_is)
    (case n_DipError => k_is)
    (case x_DipError => k_exc)
    (case d_DipError => k_is)
    (case y_DipError => k_is)
    (case n_Unlike => k_is)
    (case x_Unlike => k_exc)
    (case d_Unlike => k_is)
    (case y_Unlike => k_is)
    (case n_Empty => k_is)
    (case x_Empty => k_exc)
    (case d_Empty => k_is)
    (case y_Empty => k_is)
    (case n_TooMany => k_is)
    (case x_TooMany => k_exc)
    (case d_TooMany => k_is)
    (case y_TooMany => k_is)
    (case n_NoTree => k_is)
    (case x_NoTree => k_exc)
    (case d_NoTree => k_is)
    (case y_NoTree => k_is)
    (case n_NoTelling => k_is)
    (case x_NoTelling => k_exc)
    (case d_NoTelling => k_is)
    (case y_NoTelling => k_is)
    (case n_NoPlace => k_is)
    (case x_NoPlace => k_exc)
    (case d_NoPlace => k_is)
    (case y_NoPlace => k_is)
    (case n_NoNumber => k_is)
    (case x_NoNumber => k_exc)
    (case d_NoNumber => k_is)
    (case y_NoNumber => k_is)
    (case n_NoPast => k_is)
    (case x_NoPast => k_exc)
    (case d_NoPast => k_is)
    (case y_NoPast => k_is)
    (case n_NoText => k_is)
    (case x_NoText => k_exc)
    (case d_NoText => k_is)
    (case y_NoText => k_is)
    (case n_NoLine => k_is)
    (case x_NoLine => k_exc)
    (case d_NoLine => k_is)
    (case y_NoLine => k_is)
    (case z1_TooMany => k_is)
    (case z2_TooMany => k_is)
    (case z3_TooMany => k_is)
    (case z4_TooMany => k_is)
    (case z5_TooMany => k_is)
    (case z6_TooMany => k_is)
    (case z7_TooMany => k_is)
    (case z8_TooMany => k_is)
    (case u_TooMany => k_is)
    (case i_TooMany_DipError => k_is)
    (case ne_TooMany_DipError => decide)
    (case i_TooMany_Unlike => k_is)
    (case ne_TooMany_Unlike => decide)
    (case i_TooMany_Empty => k_is)
    (case ne_TooMany_Empty => decide)
    (case i_TooMany_NoTree => k_is)
    (case ne_TooMany_NoTree => decide)
    (case i_TooMany_NoTelling => k_is)
    (case ne_TooMany_NoTelling => decide)
    (case i_TooMany_NoPlace => k_is)
    (case ne_TooMany_NoPlace => decide)
    (case i_TooMany_NoNumber => k_is)
    (case ne_TooMany_NoNumber => decide)
    (case i_TooMany_NoPast => k_is)
    (case ne_TooMany_NoPast => decide)
    (case i_TooMany_NoText => k_is)
    (case ne_TooMany_NoText => decide)
    (case i_TooMany_NoLine => k_is)
    (case ne_TooMany_NoLine => decide)
    (case i_TooMany_V => k_is)
    (case z1_NoNumber => k_is)
    (case z2_NoNumber => k_is)
    (case z3_NoNumber => k_is)
    (case z4_NoNumber => k_is)
    (case z5_NoNumber => k_is)
    (case z6_NoNumber => k_is)
    (case z7_NoNumber => k_is)
    (case z8_NoNumber => k_is)
    (case u_NoNumber => k_is)
    (case i_NoNumber_DipError => k_is)
    (case ne_NoNumber_DipError => decide)
    (case i_NoNumber_Unlike => k_is)
    (case ne_NoNumber_Unlike => decide)
    (case i_NoNumber_Empty => k_is)
    (case ne_NoNumber_Empty => decide)
    (case i_NoNumber_TooMany => k_is)
    (case ne_NoNumber_TooMany => decide)
    (case i_NoNumber_NoTree => k_is)
    (case ne_NoNumber_NoTree => decide)
    (case i_NoNumber_NoTelling => k_is)
    (case ne_NoNumber_NoTelling => decide)
    (case i_NoNumber_NoPlace => k_is)
    (case ne_NoNumber_NoPlace => decide)
    (case i_NoNumber_NoPast => k_is)
    (case ne_NoNumber_NoPast => decide)
    (case i_NoNumber_NoText => k_is)
    (case ne_NoNumber_NoText => decide)
    (case i_NoNumber_NoLine => k_is)
    (case ne_NoNumber_NoLine => decide)
    (case i_NoNumber_V => k_is)
    (case z1_NoTree => k_is)
    (case z2_NoTree => k_is)
    (case z3_NoTree => k_is)
    (case z4_NoTree => k_is)
    (case z5_NoTree => k_is)
    (case z6_NoTree => k_is)
    (case z7_NoTree => k_is)
    (case z8_NoTree => k_is)
    (case u_NoTree => k_is)
    (case i_NoTree_DipError => k_is)
    (case ne_NoTree_DipError => decide)
    (case i_NoTree_Unlike => k_is)
    (case ne_NoTree_Unlike => decide)
    (case i_NoTree_Empty => k_is)
    (case ne_NoTree_Empty => decide)
    (case i_NoTree_TooMany => k_is)
    (case ne_NoTree_TooMany => decide)
    (case i_NoTree_NoTelling => k_is)
    (case ne_NoTree_NoTelling => decide)
    (case i_NoTree_NoPlace => k_is)
    (case ne_NoTree_NoPlace => decide)
    (case i_NoTree_NoNumber => k_is)
    (case ne_NoTree_NoNumber => decide)
    (case i_NoTree_NoPast => k_is)
    (case ne_NoTree_NoPast => decide)
    (case i_NoTree_NoText => k_is)
    (case ne_NoTree_NoText => decide)
    (case i_NoTree_NoLine => k_is)
    (case ne_NoTree_NoLine => decide)
    (case i_NoTree_V => k_is)
    (case b_ValueError => k_is)
    (case b_enumerate => k_is)
    (case b_int => k_is)
    (case b_isinstance => k_is)
    (case b_len => k_is)
    (case b_max => k_is)
    (case b_min => k_is)
    (case b_range => k_is)
    (case b_reversed => k_is)
    (case b_sorted => k_is)
    (case b_sum => k_is)
    (case b_tuple => k_is)
    (case m_MOST_PLACES => k_is)

