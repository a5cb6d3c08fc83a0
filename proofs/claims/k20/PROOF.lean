import PyProof.Rows.All
import Wide.All
import OpenK.AllK
import Wide.FinOn
import Lean
import PyProof.EqAt
import PyProof.EqKinds
import PyProof.TupleCall
import PyProof.MeetsSeq
import PyProof.NeKinds
import PyProof.TupleOfSeq
import PyProof.ListRange
import PyProof.TupleOfGen
import PyProof.ZipIter
import PySem.Challenge.RW_dipkin_k20_ladders_judged
set_option Elab.async false
set_option linter.all false
set_option maxRecDepth 100000

namespace L2
open PySem PySem.Spec PyProof.Rows


abbrev Key := Sum Int Str
def keyIs : Key → Value → Bool
  | .inl k, v => Value.isInt k v
  | .inr x, v => Value.isStrOf x v
def keyH (w : World) : Key → Int
  | .inl k => hashInt k
  | .inr x => hashStr w x
theorem keyIs_shape : ∀ {k : Key} {v : Value}, keyIs k v = true → (∃ i t, k = Sum.inl i ∧ v = Value.int i t) ∨ (∃ x t, k = Sum.inr x ∧ v = Value.str x t)
  | .inl i, v, h => by
    obtain ⟨t, e⟩ := Value.isInt_shape (k := i) (v := v) h
    exact .inl ⟨i, t, rfl, e⟩
  | .inr x, v, h => by
    obtain ⟨t, e⟩ := Value.isStrOf_shape (x := x) (v := v) h
    exact .inr ⟨x, t, rfl, e⟩
theorem key_ll (a b : Int) : decide ((Sum.inl a : Key) = Sum.inl b) = (a == b) := by
  by_cases e : a = b
  · subst e; simp
  · have h : ¬ (Sum.inl a : Key) = Sum.inl b := fun q => e (Sum.inl.inj q)
    rw [decide_eq_false h]
    exact (beq_eq_false_iff_ne.mpr e).symm
theorem key_rr (a b : Str) : decide ((Sum.inr a : Key) = Sum.inr b) = decide (a = b) := by
  by_cases e : a = b
  · subst e; simp
  · have h : ¬ (Sum.inr a : Key) = Sum.inr b := fun q => e (Sum.inr.inj q)
    rw [decide_eq_false h, decide_eq_false e]
theorem key_lr (a : Int) (b : Str) : decide ((Sum.inl a : Key) = Sum.inr b) = false := decide_eq_false (fun q => nomatch q)
theorem key_rl (a : Str) (b : Int) : decide ((Sum.inr a : Key) = Sum.inl b) = false := decide_eq_false (fun q => nomatch q)

def mixKind (prog : Program) (w : World) : PySem.KeyKind prog w Key where
  is := keyIs
  hash := keyH w
  inj := fun v a b ha hb => by
    rcases keyIs_shape ha with ⟨i, t, rfl, rfl⟩ | ⟨x, t, rfl, rfl⟩
    · rcases keyIs_shape hb with ⟨j, u, rfl, e⟩ | ⟨y, u, rfl, e⟩
      · injection e with e1 _; rw [e1]
      · exact nomatch e
    · rcases keyIs_shape hb with ⟨j, u, rfl, e⟩ | ⟨y, u, rfl, e⟩
      · exact nomatch e
      · injection e with e1 _; rw [e1]
  byValue := fun k v h => by
    rcases keyIs_shape h with ⟨i, t, rfl, rfl⟩ | ⟨x, t, rfl, rfl⟩ <;> rfl
  pyHash := fun hv h => by
    rcases keyIs_shape hv with ⟨i, t, rfl, rfl⟩ | ⟨x, t, rfl, rfl⟩
    · exact wpAny_pyHash_int h
    · exact wpAny_pyHash_str h
  eqBool := fun hu hv h => by
    rcases keyIs_shape hu with ⟨i, t, rfl, rfl⟩ | ⟨x, t, rfl, rfl⟩
    · rcases keyIs_shape hv with ⟨j, u, rfl, rfl⟩ | ⟨y, u, rfl, rfl⟩
      · rw [key_ll] at h; exact wpAny_eqBool_int h
      · rw [key_lr] at h; exact SeqAt.EqAt.int_str i t y u _ _ _ _ h
    · rcases keyIs_shape hv with ⟨j, u, rfl, rfl⟩ | ⟨y, u, rfl, rfl⟩
      · rw [key_rl] at h; exact SeqAt.EqAt.str_int x t j u _ _ _ _ h
      · rw [key_rr] at h; exact wpAny_eqBool_str h
  «strs» := fun k x t v h => by
    rcases keyIs_shape h with ⟨i, u, rfl, e⟩ | ⟨y, u, rfl, e⟩
    · exact nomatch e
    · injection e with e1 _
      subst e1
      cases v <;> rfl

end L2

namespace L2
open PySem PySem.Spec PyProof.Rows


inductive V where
  | non | bl (b : Bool) | int (i : Int) | str (x : Str) | byt (b : Array UInt8) | flt (b : UInt64) | ref (a : Addr) | ty (n : String)
  deriving DecidableEq

def RelV : V → Value → Prop
  | .non, u => u = Value.none
  | .bl b, u => u = Value.bool b
  | .int i, u => ∃ t, u = Value.int i t
  | .str x, u => ∃ t, u = Value.str x t
  | .byt b, u => ∃ t, u = Value.bytes b t
  | .flt b, u => ∃ t, u = Value.float b t
  | .ref a, u => u = Value.ref a
  | .ty n, u => u = Value.type n

abbrev Vals : List V → List Value → Prop := Paired RelV
theorem Vals.length {xs : List V} {us : List Value} (r : Vals xs us) : xs.length = us.length := Paired.length r
theorem Vals.get : ∀ {xs : List V} {us : List Value} {i : Nat} {x : V}, Vals xs us → xs[i]? = some x → ∃ u, us[i]? = some u ∧ RelV x u
  | _, _, _, _, .nil, e => by simp at e
  | _, _, 0, _, .cons r _, e => by simp at e; subst e; exact ⟨_, rfl, r⟩
  | _, _, i + 1, x, .cons _ t, e => by
    obtain ⟨u, h1, h2⟩ := Vals.get (i := i) (x := x) t (by simpa using e)
    exact ⟨u, by simpa using h1, h2⟩
theorem Vals.set {x : V} {u : Value} (r : RelV x u) : ∀ {xs : List V} {us : List Value} (i : Nat), Vals xs us → Vals (xs.set i x) (us.set i u)
  | _, _, _, .nil => .nil
  | _, _, 0, .cons _ t => .cons r t
  | _, _, i + 1, .cons q t => .cons q (Vals.set r i t)
theorem Vals.append : ∀ {xs ys : List V} {us ws : List Value}, Vals xs us → Vals ys ws → Vals (xs ++ ys) (us ++ ws)
  | _, _, _, _, .nil, s => s
  | _, _, _, _, .cons r t, s => .cons r (Vals.append t s)
theorem Vals.take : ∀ {xs : List V} {us : List Value} (n : Nat), Vals xs us → Vals (xs.take n) (us.take n)
  | _, _, 0, _ => .nil
  | _, _, _ + 1, .nil => .nil
  | _, _, n + 1, .cons r t => .cons r (Vals.take n t)
theorem Vals.drop : ∀ {xs : List V} {us : List Value} (n : Nat), Vals xs us → Vals (xs.drop n) (us.drop n)
  | _, _, 0, r => r
  | _, _, _ + 1, .nil => .nil
  | _, _, n + 1, .cons _ t => Vals.drop n t
def RelO : Option V → Option Value → Prop
  | some v, some u => RelV v u
  | none, none => True
  | _, _ => False
def KV {κ : Type} : List (κ × V) → List (κ × Value) → Prop := Paired fun (p : κ × V) (q : κ × Value) => p.1 = q.1 ∧ RelV p.2 q.2


def kV : Key → V
  | .inl i => .int i
  | .inr x => .str x


inductive HO where
  
  | lst (xs : List V)
  
  | tup (xs : List V)
  
  | dK (kvs : List (Key × V)) | dT (kvs : List (List Key × V))
  
  | set (S : Int → Bool) (n : Nat)
  
  | ins (C dx : Addr) (fs : List (Str × V))
  
  | own (x : Addr)
  
  | xd (fs : List (Str × V))
  
  | met (f x : Addr)
  
  | rng (lo hi : Int)
  
  | frz (o : Obj) (u : HO)
  
  | tbl (ps : Array Value)
  
  | ext (φ : Heap → Prop)

abbrev Hp := Addr → Option HO
def upd (H : Hp) (a : Addr) (o : HO) : Hp := fun b => if b = a then some o else H b
theorem upd_same {H : Hp} {a : Addr} {o : HO} : upd H a o a = some o := by unfold upd; rw [if_pos rfl]
theorem upd_ne {H : Hp} {a b : Addr} {o : HO} (h : b ≠ a) : upd H a o b = H b := by unfold upd; rw [if_neg h]
theorem ne_of_none {H : Hp} {a b : Addr} {o : HO} (h : H a = some o) (h' : H b = none) : a ≠ b := by
  intro e; subst e; rw [h] at h'; cases h'

section
variable (P : Program) (w : World)
def ObjOk (H : Hp) (h : Heap) (a : Addr) : HO → Prop
  | .lst xs => xs.length ≤ sizeLine ∧ ∃ (its : List Value) (n : Nat), Vals xs its ∧ h.get? a = some { cls := .type "list", data := .seq its.toArray n }
  | .tup xs => xs.length ≤ sizeLine ∧ ∃ its : List Value, Vals xs its ∧ IsTup h a its.toArray
  | .dK kvs => kvs.length ≤ sizeLine ∧ (a == sysModules) = false ∧ ∃ vs, KV kvs vs ∧ h.DictOf (mixKind P w) a vs
  | .dT kvs => kvs.length ≤ sizeLine ∧ (a == sysModules) = false ∧ ∃ xs : List (List Key × Addr × Value),
      Paired (fun (p : List Key × V) (q : List Key × Addr × Value) => p.1 = q.1 ∧ H q.2.1 = some (.tup (p.1.map kV)) ∧ RelV p.2 q.2.2) kvs xs ∧
      ∃ o es ep, h.get? a = some o ∧ o.ExactDict ∧ o.data = .dict es ep ∧ es.toList = xs.map (entryOfKey (tupleKind (mixKind P w))) ∧ (xs.map (·.1)).Nodup
  | .set S n => h.SetOf (intKind P w) a S n
  | .ins C dx fs => H dx = some (.own a) ∧ fs.length ≤ 1000 ∧ dx ≠ a ∧ h.get? a = some (PySem.W.instObj C dx) ∧
      ∃ mA, h.Ns1 dx mA ∧ (∀ f, RelO (fs.lookup f) (mA f)) ∧ PySem.Within mA (fs.map (·.1))
  | .own _ => ∃ o, h.get? a = some o
  | .xd fs => ∃ mA, h.Ns1 a mA ∧ ∀ f, RelO (fs.lookup f) (mA f)
  | .rng lo hi => ∃ t u v, h.get? a = some { cls := .type "range", data := .fields #[.int lo t, .int hi u, .int 1 v] }
  | .frz o u => h.get? a = some o ∧ ObjOk H h a u
  | .tbl ps => h.get? a = some { cls := .none, data := .fields ps }
  | .met f x => h.get? a = some (PySem.W.methodObj (.ref f) (.ref x))
  | .ext φ => φ h ∧ (∃ o, h.get? a = some o) ∧ ∀ h1 h2 : Heap, φ h1 → (∀ o, h1.get? a = some o → h2.get? a = some o) → φ h2

def HOk (H : Hp) (h : Heap) : Prop := ∀ a o, H a = some o → ObjOk P w H h a o
end

section
variable {P : Program} {w : World} {H H' : Hp} {h h' : Heap} {a : Addr} {o : HO}
theorem ObjOk.lt (x : ObjOk P w H h a o) : a < h.objs.size := by
  cases o with
  | lst xs => obtain ⟨_, _, _, _, e⟩ := x; exact Heap.lt_size e
  | tup xs => obtain ⟨_, _, _, p⟩ := x; exact p.lt
  | dK kvs => obtain ⟨_, _, _, _, o, _, _, e, _⟩ := x; exact Heap.lt_size e
  | dT kvs => obtain ⟨_, _, _, _, o, _, _, e, _⟩ := x; exact Heap.lt_size e
  | set S n => obtain ⟨o, _, _, _, e, _⟩ := x; exact Heap.lt_size e
  | ins C dx fs => obtain ⟨_, _, _, e, _⟩ := x; exact Heap.lt_size e
  | own y => obtain ⟨_, e⟩ := x; exact Heap.lt_size e
  | xd fs => obtain ⟨_, ⟨_, _, _, e, _⟩, _⟩ := x; exact Heap.lt_size e
  | rng lo hi => obtain ⟨_, _, _, e⟩ := x; exact Heap.lt_size e
  | frz ob u => obtain ⟨e, _⟩ := x; exact Heap.lt_size e
  | tbl ps => exact Heap.lt_size (show h.get? a = some _ from x)
  | met f y => exact Heap.lt_size (show h.get? a = some _ from x)
  | ext φ => obtain ⟨_, ⟨_, e⟩, _⟩ := x; exact Heap.lt_size e
theorem Paired.mapP {α β : Type} {F G : α → β → Prop} : ∀ {l₁ : List α} {l₂ : List β}, Paired F l₁ l₂ → (∀ a b, F a b → G a b) → Paired G l₁ l₂
  | _, _, .nil, _ => .nil
  | _, _, .cons r t, f => .cons (f _ _ r) (Paired.mapP t f)
theorem ObjOk.stay (x : ObjOk P w H h a o) (k : ∀ b u, (b = a ∨ H b = some (.own a)) → h.get? b = some u → h'.get? b = some u)
    (ho : ∀ b, H b = some (.own a) → H' b = some (.own a)) (ht : ∀ b xs, H b = some (.tup xs) → H' b = some (.tup xs)) : ObjOk P w H' h' a o := by
  induction o with
  | lst xs => obtain ⟨z, its, n, r, e⟩ := x; exact ⟨z, its, n, r, k _ _ (.inl rfl) e⟩
  | tup xs => obtain ⟨z, its, r, ob, e, c⟩ := x; exact ⟨z, its, r, ob, k _ _ (.inl rfl) e, c⟩
  | dK kvs => obtain ⟨z, y, vs, r, ob, es, ep, e, c⟩ := x; exact ⟨z, y, vs, r, ob, es, ep, k _ _ (.inl rfl) e, c⟩
  | dT kvs =>
    obtain ⟨z, y, xs, r, ob, es, ep, e, c⟩ := x
    exact ⟨z, y, xs, Paired.mapP r fun p q z => ⟨z.1, ht _ _ z.2.1, z.2.2⟩, ob, es, ep, k _ _ (.inl rfl) e, c⟩
  | set S n => obtain ⟨ob, es, ep, t, e, c⟩ := x; exact ⟨ob, es, ep, t, k _ _ (.inl rfl) e, c⟩
  | ins C dx fs =>
    obtain ⟨d, z, ne, e, mA, ⟨od, es, ep, e2, c⟩, r⟩ := x
    exact ⟨ho _ d, z, ne, k _ _ (.inl rfl) e, mA, ⟨od, es, ep, k _ _ (.inr d) e2, c⟩, r⟩
  | own y => obtain ⟨ob, e⟩ := x; exact ⟨ob, k _ _ (.inl rfl) e⟩
  | xd fs => obtain ⟨mA, ⟨od, es, ep, e, c⟩, r⟩ := x; exact ⟨mA, ⟨od, es, ep, k _ _ (.inl rfl) e, c⟩, r⟩
  | rng lo hi => obtain ⟨t, u, v, e⟩ := x; exact ⟨t, u, v, k _ _ (.inl rfl) e⟩
  | frz ob u ih => obtain ⟨e, q⟩ := x; exact ⟨k _ _ (.inl rfl) e, ih q⟩
  | tbl ps =>
    have e : h.get? a = some { cls := .none, data := .fields ps } := x
    show h'.get? a = some { cls := .none, data := .fields ps }
    exact k a _ (.inl rfl) e
  | met f y =>
    have e : h.get? a = some (PySem.W.methodObj (.ref f) (.ref y)) := x
    show h'.get? a = some (PySem.W.methodObj (.ref f) (.ref y))
    exact k a _ (.inl rfl) e
  | ext φ => obtain ⟨p, ⟨o, e⟩, st⟩ := x; exact ⟨st _ _ p fun o q => k _ _ (.inl rfl) q, ⟨o, k _ _ (.inl rfl) e⟩, st⟩
theorem HOk.lt (x : HOk P w H h) (e : H a = some o) : a < h.objs.size := (x a o e).lt
theorem HOk.fresh (x : HOk P w H h) (e : h.objs.size ≤ a) : H a = none := by
  cases q : H a with
  | none => rfl
  | some u => exact absurd (Nat.lt_of_lt_of_le (x.lt q) e) (Nat.lt_irrefl _)

theorem HOk.kept (x : HOk P w H h) (k : ∀ b u, h.get? b = some u → h'.get? b = some u) : HOk P w H h' := fun a o e =>
  (x a o e).stay (fun b u _ q => k b u q) (fun _ q => q) fun _ _ q => q

theorem HOk.laid (x : HOk P w H h) (k : ∀ b u, h.get? b = some u → h'.get? b = some u) (hp : h.objs.size ≤ a) (new : ObjOk P w (upd H a o) h' a o) : HOk P w (upd H a o) h' := fun b u e => by
  have hn := x.fresh hp
  by_cases hb : b = a
  · subst hb; rw [upd_same] at e; cases e; exact new
  · rw [upd_ne hb] at e
    exact (x b u e).stay (fun c v _ q => k c v q) (fun c q => by rw [upd_ne (ne_of_none q hn)]; exact q) fun c xs q => by rw [upd_ne (ne_of_none q hn)]; exact q
end


def Rd (H : Hp) (a : Addr) (u : HO) : Prop := H a = some u ∨ ∃ o, H a = some (.frz o u)
theorem Rd.of {H : Hp} {a : Addr} {u : HO} (h : H a = some u) : Rd H a u := .inl h
theorem Rd.ok {P : Program} {w : World} {H : Hp} {h : Heap} {a : Addr} {u : HO} (r : Rd H a u) (x : HOk P w H h) : ObjOk P w H h a u := by
  rcases r with r | ⟨o, r⟩
  · exact x a u r
  · obtain ⟨_, q⟩ := x a _ r
    exact q

def Mut : Option HO → Prop
  | some (.lst _) => True
  | some (.dK _) => True
  | some (.dT _) => True
  | some (.set _ _) => True
  | some (.ins _ _ _) => True
  | some (.ext _) => True
  | _ => False
section
variable {P : Program} {w : World} {H : Hp} {h h' : Heap} {x e : Addr} {o' : HO}

theorem HOk.write (ok : HOk P w H h) (mu : Mut (H x)) (he : e = x ∨ H e = some (.own x)) (k : ∀ b u, b ≠ e → h.get? b = some u → h'.get? b = some u) (heo : ∃ u, h'.get? e = some u)
    (new : ObjOk P w (upd H x o') h' x o') : HOk P w (upd H x o') h' := fun b u q => by
  have nown : ∀ c y, H c = some (.own y) → c ≠ x := fun c y r z => by subst z; rw [r] at mu; exact mu
  have ntup : ∀ c xs, H c = some (.tup xs) → c ≠ x := fun c xs r z => by subst z; rw [r] at mu; exact mu
  by_cases hb : b = x
  · subst hb; rw [upd_same] at q; cases q; exact new
  · rw [upd_ne hb] at q
    by_cases hbe : b = e
    · have q' : H b = some (.own x) := by
        rcases he with z | z
        · exact absurd (hbe.trans z) hb
        · rw [hbe]; exact z
      rw [q] at q'; cases q'
      obtain ⟨v, hv⟩ := heo
      exact ⟨v, by rw [hbe]; exact hv⟩
    · refine (ok b u q).stay (fun c v hc r => k c v ?_ r) (fun c r => by rw [upd_ne (nown c b r)]; exact r) fun c xs r => by rw [upd_ne (ntup c xs r)]; exact r
      rcases hc with rfl | hc
      · exact hbe
      · rintro rfl
        rcases he with z | z
        · exact nown c b hc z
        · rw [hc] at z; cases z; exact hb rfl
end


structure Un (fs ex : List Addr) (H H' : Hp) (h h' : Heap) : Prop where
  keep : ∀ b o, h.get? b = some o → H b = none → b ∉ fs → b ∉ ex → h'.get? b = some o
  slot : ∀ b o, h.get? b = some o → H b = none → b ∈ fs → b ∉ ex → ∃ sl, h'.get? b = some { o with slots := sl }
  free : ∀ b o, h.get? b = some o → H b = none → b ∉ ex → H' b = none
  there : ∀ b o, h.get? b = some o → b ∉ ex → ∃ o', h'.get? b = some o'
  tups : ∀ b xs, H b = some (.tup xs) → H' b = some (.tup xs)
  frzs : ∀ b o u, H b = some (.frz o u) → H' b = some (.frz o u)
  tbls : ∀ b ps, H b = some (.tbl ps) → ∃ more, H' b = some (.tbl (ps ++ more))
section
variable {fs fs' ex ex' : List Addr} {H H1 H2 : Hp} {h h1 h2 h' : Heap} {a x e : Addr} {o : HO}
theorem Un.any (u : Un fs ex H H1 h h1) {b : Addr} {ob : Obj} (q : h.get? b = some ob) (n : H b = none) (hx : b ∉ ex) : ∃ sl, h1.get? b = some { ob with slots := sl } := by
  by_cases hb : b ∈ fs
  · exact u.slot b ob q n hb hx
  · exact ⟨ob.slots, u.keep b ob q n hb hx⟩
theorem Un.trans (a : Un fs ex H H1 h h1) (b : Un fs ex H1 H2 h1 h2) : Un fs ex H H2 h h2 where
  keep := fun c ob q n hc hx => b.keep c ob (a.keep c ob q n hc hx) (a.free c ob q n hx) hc hx
  slot := fun c ob q n hc hx => by
    obtain ⟨sl, e1⟩ := a.slot c ob q n hc hx
    obtain ⟨sl', e2⟩ := b.slot c _ e1 (a.free c ob q n hx) hc hx
    exact ⟨sl', e2⟩
  free := fun c ob q n hx => by
    obtain ⟨o', e1⟩ := a.there c ob q hx
    exact b.free c o' e1 (a.free c ob q n hx) hx
  there := fun c ob q hx => by
    obtain ⟨o', e1⟩ := a.there c ob q hx
    exact b.there c o' e1 hx
  tups := fun c xs q => b.tups c xs (a.tups c xs q)
  frzs := fun c ob xs q => b.frzs c ob xs (a.frzs c ob xs q)
  tbls := fun c ps q => by
    obtain ⟨m1, e1⟩ := a.tbls c ps q
    obtain ⟨m2, e2⟩ := b.tbls c _ e1
    exact ⟨m1 ++ m2, by rw [e2, Array.append_assoc]⟩
theorem Un.kept (k : ∀ b u, h.get? b = some u → h'.get? b = some u) : Un fs ex H H h h' :=
  ⟨fun b ob q _ _ _ => k b ob q, fun b ob q _ _ _ => ⟨ob.slots, k b ob q⟩, fun _ _ _ n _ => n, fun b ob q _ => ⟨ob, k b ob q⟩, fun _ _ q => q, fun _ _ _ q => q, fun _ ps q => ⟨#[], by rw [q]; simp⟩⟩
theorem Un.refl : Un fs ex H H h h := Un.kept fun _ _ q => q
theorem Un.laid (k : ∀ b u, h.get? b = some u → h'.get? b = some u) (hp : h.objs.size ≤ a) (hn : H a = none) : Un fs ex H (upd H a o) h h' where
  keep := fun b u q _ _ _ => k b u q
  slot := fun b u q _ _ _ => ⟨u.slots, k b u q⟩
  free := fun b u q n _ => by rw [upd_ne (Nat.ne_of_lt (Nat.lt_of_lt_of_le (Heap.lt_size q) hp))]; exact n
  there := fun b u q _ => ⟨u, k b u q⟩
  tups := fun b xs q => by rw [upd_ne (ne_of_none q hn)]; exact q
  frzs := fun b u xs q => by rw [upd_ne (ne_of_none q hn)]; exact q
  tbls := fun b ps q => ⟨#[], by rw [upd_ne (ne_of_none q hn), q]; simp⟩
theorem Un.write (mu : Mut (H x)) (he : e = x ∨ H e = some (.own x)) (k : ∀ b u, b ≠ e → h.get? b = some u → h'.get? b = some u) (heo : ∃ u, h'.get? e = some u) : Un fs ex H (upd H x o) h h' := by
  have hx : ∀ b, H b = none → b ≠ x := fun b n z => by subst z; rw [n] at mu; exact mu
  have hb : ∀ b, H b = none → b ≠ e := fun b n z => by
    subst z
    rcases he with r | r
    · exact hx b n r
    · rw [n] at r; cases r
  have hm : ∀ b u, H b = some u → ¬ Mut (some u) → b ≠ x := fun b u q nm z => by subst z; rw [q] at mu; exact nm mu
  refine ⟨fun b u q n _ _ => k b u (hb b n) q, fun b u q n _ _ => ⟨u.slots, k b u (hb b n) q⟩, fun b u q n _ => by rw [upd_ne (hx b n)]; exact n, fun b u q _ => ?_,
    fun b xs q => by rw [upd_ne (hm b _ q fun z => z)]; exact q, fun b u xs q => by rw [upd_ne (hm b _ q fun z => z)]; exact q, fun b ps q => ⟨#[], by rw [upd_ne (hm b _ q fun z => z), q]; simp⟩⟩
  by_cases hbe : b = e
  · subst hbe; exact heo
  · exact ⟨u, k b u hbe q⟩
theorem Un.mono (u : Un fs ex H H1 h h1) (hs : ∀ b ∈ fs, b ∈ fs') (hx : ∀ b ∈ ex, b ∈ ex') : Un fs' ex' H H1 h h1 :=
  ⟨fun b ob q n hb he => u.keep b ob q n (fun z => hb (hs b z)) fun z => he (hx b z), fun _ _ q n _ he => u.any q n fun z => he (hx _ z), fun b ob q n he => u.free b ob q n fun z => he (hx b z), fun b ob q he => u.there b ob q fun z => he (hx b z), u.tups, u.frzs, u.tbls⟩
end


def trk (h : Heap) (H : Hp) : List Addr := (List.range h.objs.size).filter fun a => (H a).isSome
def hidT (h : Heap) (H : Hp) : Heap := PySem.W.hideAll h (trk h H)
theorem hidT_size (h : Heap) (H : Hp) : (hidT h H).objs.size = h.objs.size := PySem.W.hideAll_size _ _
theorem hidT_get {h : Heap} {H : Hp} {b : Addr} {o : Obj} (e : h.get? b = some o) (n : H b = none) : (hidT h H).get? b = some o :=
  PySem.W.hideAll_get _ e fun hm => by
    have q : (H b).isSome = true := (List.mem_filter.mp hm).2
    rw [n] at q; simp at q
theorem of_hidT {h : Heap} {H : Hp} {b : Addr} {o : Obj} (e : (hidT h H).get? b = some o) : h.get? b = some o ∧ H b = none := by
  have e' : h.get? b = some o := PySem.W.of_hideAll (trk h H) e
  refine ⟨e', ?_⟩
  cases q : H b with
  | none => rfl
  | some x =>
    have hm : b ∈ trk h H := List.mem_filter.mpr ⟨List.mem_range.mpr (Heap.lt_size e'), by simp [q]⟩
    have z : (hidT h H).get? b = none := PySem.W.hideAll_none (trk h H) hm
    rw [z] at e; cases e


def allNews (g h : Heap) (L : Addr) : List (Addr × Obj) := (List.range h.objs.size).filterMap fun a => if a = L ∨ (g.get? a).isSome = true then none else (h.get? a).map fun o => (a, o)
def rest (g h : Heap) (L d : Addr) : List (Addr × Obj) := (allNews g h L).filter fun p => decide (p.1 ≠ d)
end L2

namespace L2
open PySem PySem.Spec PyProof.Rows


structure Mod (K : PySem.W.Frag) (mg : Str → Option Value) (base : Heap) : Prop where
  kin : K.In base
  glob : base.Ns mainGlobals mg
  blt : ∃ mb, base.Ns builtinsNs mb ∧ ∀ x : Str, x ≠ "__name__" → mb x = bootBuiltins x
  nolimit : base.NoLimit


structure Cx where
  prog : Program
  w : World
  K : PySem.W.Frag
  mg : Str → Option Value
  base : Heap
  A : Around
  N : List Str
  s₀ : Shared
  H₀ : Hp
  env : Env
  outer : List Env
  stack : List Env
  ex : List Addr
  fn : Str → Bool
  calm : Bool
  pn : List (Addr × Obj)
  xe : Value → Shared → Prop

def frs (l : List Env) : List Addr := l.filterMap (·.frame)
abbrev Cx.fs (X : Cx) : List Addr := frs X.outer

def Vis (sc : Scope) (x : Str) : Prop := sc.names.lookup x = some .local ∨ sc.names.lookup x = some .cell ∨ sc.names.lookup x = some .free
def Loc (sc : Scope) (x : Str) : Prop := sc.names.lookup x = some .local ∨ sc.names.lookup x = some .cell
def Look (env : Env) (h : Heap) (m : Str → Option Value) (x : Str) (u : Value) : Prop :=
  (env.kindOf x = some .local ∧ m x = some u) ∨ ((env.kindOf x = some .cell ∨ env.kindOf x = some .free) ∧ ∃ c, env.cells.lookup x = some c ∧ h.IsCell c (some u))

structure Cx.Ok (X : Cx) : Prop where
  mod : Mod X.K X.mg X.base
  kind : X.env.scope.kind = .function
  glob : X.env.globals = mainGlobals
  blt : X.env.builtins = builtinsNs
  above : X.s₀.heap.objs.size ≤ X.env.locals
  inj : ∀ x y c, X.env.cells.lookup x = some c → X.env.cells.lookup y = some c → x = y
  has : ∀ x, (X.env.kindOf x = some .cell ∨ X.env.kindOf x = some .free) → ∃ c, X.env.cells.lookup x = some c
  cab : ∀ x c, X.fn x = true → X.env.cells.lookup x = some c → X.s₀.heap.objs.size ≤ c
  hd : X.calm = true → X.A.handled = none
  frames : X.A.frames = some X.stack
  stk : X.stack = X.outer ∨ (X.stack = X.env :: X.outer ∧ X.env.frame = some X.env.locals)
  exf : ∀ b ∈ X.ex, b ≠ X.env.locals ∧ ∀ x c, X.env.cells.lookup x = some c → c ≠ b
  bs : ∀ b o, X.base.get? b = some o → X.s₀.heap.get? b = some o ∧ X.H₀ b = none
  bsz : X.base.objs.size ≤ X.s₀.heap.objs.size
  noex : ∀ b o, X.base.get? b = some o → b ∉ X.ex
  exfs : ∀ b ∈ X.ex, b ∉ X.fs
  funs : X.s₀.heap.FunFrames X.base X.outer
  frf : ∀ b ∈ X.fs, X.H₀ b = none

structure Inv (X : Cx) (pins : List (Addr × Obj)) (σ : List (Option V)) (H : Hp) (s : Shared) : Prop where
  ok : X.Ok
  os : s.os = X.s₀.os
  bare : AllBare s.gens
  base : Un X.fs X.ex X.H₀ H X.s₀.heap s.heap
  loc : ∃ m, s.heap.Ns X.env.locals m ∧ ∀ (i : Nat) (x : Str) (v : V), X.N[i]? = some x → σ[i]? = some (some v) → Vis X.env.scope x → ∃ u, RelV v u ∧ Look X.env s.heap m x u
  cell : ∀ x c, X.env.cells.lookup x = some c → ∃ v, s.heap.IsCell c v
  free : H X.env.locals = none
  freeC : ∀ x c, X.env.cells.lookup x = some c → H c = none
  pin : ∀ p ∈ X.pn ++ pins, s.heap.get? p.1 = some p.2 ∧ H p.1 = none ∧ p.1 ≠ X.env.locals ∧ p.1 ∉ X.fs ∧ ∀ v, p.2.data ≠ .cell v
  hok : HOk X.prog X.w H s.heap
  len : σ.length = X.N.length

section
variable {X : Cx} {pins : List (Addr × Obj)} {σ : List (Option V)} {H H' : Hp} {s : Shared} {h' : Heap}

theorem Cx.Ok.nofr (ok : X.Ok) {b : Addr} {o : Obj} (e : X.base.get? b = some o) : b ∉ X.fs := fun hb => by
  have := (ok.funs.mem hb).1
  rw [e] at this; cases this
theorem Inv.bs (I : Inv X pins σ H s) : ∀ b o, X.base.get? b = some o → s.heap.get? b = some o ∧ H b = none := fun b o e =>
  ⟨I.base.keep b o (I.ok.bs b o e).1 (I.ok.bs b o e).2 (I.ok.nofr e) (I.ok.noex b o e), I.base.free b o (I.ok.bs b o e).1 (I.ok.bs b o e).2 (I.ok.noex b o e)⟩
theorem Inv.bk (I : Inv X pins σ H s) : ∀ b o, X.base.get? b = some o → s.heap.get? b = some o := fun b o e => (I.bs b o e).1
theorem Inv.mod (I : Inv X pins σ H s) : Mod X.K X.mg X.base := I.ok.mod
theorem Inv.kIn (I : Inv X pins σ H s) : X.K.In s.heap := I.ok.mod.kin.keeps I.bk
theorem Inv.nolimit (I : Inv X pins σ H s) : s.heap.NoLimit := I.ok.mod.nolimit.keeps I.bk

theorem Inv.lt (I : Inv X pins σ H s) : X.env.locals < s.heap.objs.size := let ⟨_, hn, _⟩ := I.loc; hn.lt
theorem Inv.sz (I : Inv X pins σ H s) : X.s₀.heap.objs.size ≤ s.heap.objs.size := Nat.le_trans I.ok.above (Nat.le_of_lt I.lt)
theorem Inv.nofs (I : Inv X pins σ H s) {a : Addr} (h : s.heap.objs.size ≤ a) : a ∉ X.fs := fun hb => by
  obtain ⟨_, o, ho, _⟩ := I.ok.funs.mem hb
  exact absurd (Nat.lt_of_lt_of_le (Heap.lt_size ho) (Nat.le_trans I.sz h)) (Nat.lt_irrefl _)
theorem Inv.cne (I : Inv X pins σ H s) : ∀ x c, X.env.cells.lookup x = some c → c ≠ X.env.locals := fun x c e z => by
  obtain ⟨v, o, ho, hd⟩ := I.cell x c e
  obtain ⟨m, ⟨o', es, ep, ho', hd', _⟩, _⟩ := I.loc
  rw [z, ho'] at ho; cases ho; rw [hd'] at hd; cases hd
theorem Inv.funs (I : Inv X pins σ H s) : s.heap.FunFrames X.base X.outer := by
  have all : ∀ (l : List Env), (∀ b ∈ frs l, b ∈ X.fs) → X.s₀.heap.FunFrames X.base l → s.heap.FunFrames X.base l := by
    intro l
    induction l with
    | nil => intro _ _; trivial
    | cons env r ih =>
      intro hs hl
      obtain ⟨hk, ⟨L, o, hf, hn, ho, hd⟩, hr⟩ := hl
      have hL : L ∈ X.fs := hs L (by unfold frs; rw [List.filterMap_cons, hf]; exact List.mem_cons_self)
      obtain ⟨sl, e⟩ := I.base.slot L o ho (I.ok.frf L hL) hL fun z => I.ok.exfs L z hL
      exact ⟨hk, ⟨L, _, hf, hn, e, hd⟩, ih (fun b hb => hs b (by unfold frs; rw [List.filterMap_cons, hf]; exact List.mem_cons_of_mem _ hb)) hr⟩
  exact all X.outer (fun _ hb => hb) I.ok.funs


theorem Inv.stack (I : Inv X pins σ H s) : s.heap.FunFrames X.base X.stack := by
  rcases I.ok.stk with e | ⟨e, hf⟩
  · rw [e]; exact I.funs
  · rw [e]
    obtain ⟨m, hn, _⟩ := I.loc
    refine .cons (by rw [I.ok.kind]; decide) hf hn ?_ I.funs
    exact Heap.get?_none_of_le (Nat.le_trans I.ok.bsz I.ok.above)
theorem Inv.stkSub (I : Inv X pins σ H s) : ∀ b ∈ frs X.stack, b ∈ X.env.locals :: X.fs := fun b hb => by
  rcases I.ok.stk with e | ⟨e, hf⟩
  · rw [e] at hb; exact List.mem_cons_of_mem _ hb
  · rw [e] at hb
    unfold frs at hb
    rw [List.filterMap_cons, hf] at hb
    exact hb
theorem Inv.stkFree (I : Inv X pins σ H s) : ∀ b ∈ frs X.stack, H b = none := fun b hb => by
  rcases List.mem_cons.mp (I.stkSub b hb) with e | hb
  · rw [e]; exact I.free
  · obtain ⟨_, o, ho, _⟩ := I.ok.funs.mem hb
    exact I.base.free b o ho (I.ok.frf b hb) fun z => I.ok.exfs b z hb


theorem Inv.step {g' : Array GenState} {t' : Nat} {d' : Drawn} {ch : List Addr} (I : Inv X pins σ H s)
    (hch : ∀ b ∈ ch, (b ∈ X.ex ∨ X.s₀.heap.objs.size ≤ b) ∧ b ≠ X.env.locals ∧ (∀ x c, X.env.cells.lookup x = some c → c ≠ b) ∧ ∀ p ∈ X.pn ++ pins, p.1 ≠ b)
    (keep : ∀ b o, b ≠ X.env.locals → b ∉ X.fs → b ∉ ch → s.heap.get? b = some o → H b = none → h'.get? b = some o)
    (slot : ∀ b o, b ≠ X.env.locals → b ∈ X.fs → b ∉ ch → s.heap.get? b = some o → H b = none → ∃ sl, h'.get? b = some { o with slots := sl }) (free : ∀ b o, b ∉ ch → s.heap.get? b = some o → H b = none → H' b = none)
    (there : ∀ b o, b ∉ ch → s.heap.get? b = some o → ∃ o', h'.get? b = some o')
    (tups : ∀ b xs, H b = some (.tup xs) → H' b = some (.tup xs)) (frzs : ∀ b o u, H b = some (.frz o u) → H' b = some (.frz o u)) (tbls : ∀ b ps, H b = some (.tbl ps) → ∃ more, H' b = some (.tbl (ps ++ more)))
    (ns : ∀ m, s.heap.Ns X.env.locals m → h'.Ns X.env.locals m) (hok : HOk X.prog X.w H' h') (hg : AllBare g') :
    Inv X pins σ H' { s with heap := h', gens := g', drawn := d', toks := t' } := by
  have neL : ∀ b o, X.s₀.heap.get? b = some o → b ≠ X.env.locals := fun b o e => Nat.ne_of_lt (Nat.lt_of_lt_of_le (Heap.lt_size e) I.ok.above)
  have neC : ∀ b o, X.s₀.heap.get? b = some o → b ∉ X.ex → b ∉ ch := fun b o e hx hb => by
    rcases (hch b hb).1 with z | z
    · exact hx z
    · exact absurd (Nat.lt_of_lt_of_le (Heap.lt_size e) z) (Nat.lt_irrefl _)
  have cellK : ∀ x c, X.env.cells.lookup x = some c → ∀ v, s.heap.IsCell c v → h'.IsCell c v := fun x c e v ⟨o, ho, hd⟩ => by
    have nch : c ∉ ch := fun z => (hch c z).2.2.1 x c e rfl
    by_cases hc : c ∈ X.fs
    · obtain ⟨sl, q⟩ := slot c o (I.cne x c e) hc nch ho (I.freeC x c e)
      exact ⟨_, q, hd⟩
    · exact ⟨o, keep c o (I.cne x c e) hc nch ho (I.freeC x c e), hd⟩
  refine ⟨I.ok, I.os, hg, ⟨fun b o e n hb hx => ?_, fun b o e n hb hx => ?_, fun b o e n hx => ?_, fun b o e hx => ?_, fun b xs e => tups b xs (I.base.tups b xs e), fun b o xs e => frzs b o xs (I.base.frzs b o xs e), fun b ps e => ?_⟩, ?_, fun x c e => ?_, ?_, fun x c e => ?_, fun p hp => ?_, hok, I.len⟩
  · exact keep b o (neL b o e) hb (neC b o e hx) (I.base.keep b o e n hb hx) (I.base.free b o e n hx)
  · obtain ⟨sl, e1⟩ := I.base.slot b o e n hb hx
    obtain ⟨sl', e2⟩ := slot b _ (neL b o e) hb (neC b o e hx) e1 (I.base.free b o e n hx)
    exact ⟨sl', e2⟩
  · obtain ⟨o', e1⟩ := I.base.there b o e hx
    exact free b o' (neC b o e hx) e1 (I.base.free b o e n hx)
  · obtain ⟨o', e1⟩ := I.base.there b o e hx
    exact there b o' (neC b o e hx) e1
  · obtain ⟨m1, e1⟩ := I.base.tbls b ps e
    obtain ⟨m2, e2⟩ := tbls b _ e1
    exact ⟨m1 ++ m2, by rw [e2, Array.append_assoc]⟩
  · obtain ⟨m, hn, hl⟩ := I.loc
    refine ⟨m, ns m hn, fun i x v e1 e2 e3 => ?_⟩
    obtain ⟨u, r, l⟩ := hl i x v e1 e2 e3
    refine ⟨u, r, ?_⟩
    rcases l with l | ⟨k, c, e, z⟩
    · exact .inl l
    · exact .inr ⟨k, c, e, cellK x c e _ z⟩
  · obtain ⟨v, z⟩ := I.cell x c e
    exact ⟨v, cellK x c e v z⟩
  · obtain ⟨m, ⟨o, _, _, ho, _⟩, _⟩ := I.loc
    exact free _ o (fun z => (hch _ z).2.1 rfl) ho I.free
  · obtain ⟨v, o, ho, hd⟩ := I.cell x c e
    exact free c o (fun z => (hch c z).2.2.1 x c e rfl) ho (I.freeC x c e)
  · obtain ⟨e, n, ne, nf, d⟩ := I.pin p hp
    have nch : p.1 ∉ ch := fun z => (hch p.1 z).2.2.2 p hp rfl
    exact ⟨keep p.1 p.2 ne nf nch e n, free p.1 p.2 nch e n, ne, nf, d⟩

theorem Inv.un {t' : Nat} (I : Inv X pins σ H s) (u : Un X.fs [] H H' s.heap h') (hok : HOk X.prog X.w H' h') : Inv X pins σ H' { s with heap := h', toks := t' } := by
  obtain ⟨m, ⟨o, es, ep, ho, r⟩, _⟩ := id I.loc
  obtain ⟨sl, hL⟩ := u.any ho I.free (by simp)
  exact I.step (g' := s.gens) (d' := s.drawn) (ch := []) (fun _ z => nomatch z) (fun b o _ hb _ e n => u.keep b o e n hb (by simp)) (fun b o _ hb _ e n => u.slot b o e n hb (by simp)) (fun b o _ e n => u.free b o e n (by simp)) (fun b o _ e => u.there b o e (by simp)) u.tups u.frzs u.tbls (fun m' hm => by
    obtain ⟨o', es', ep', ho', r'⟩ := hm
    rw [ho] at ho'; cases ho'
    exact ⟨_, es', ep', hL, r'⟩) hok I.bare

theorem Inv.call {g' : Array GenState} {t' : Nat} {d' : Drawn} {ch : List Addr} (I : Inv X pins σ H s) (u : Un (frs X.stack) ch H H' s.heap h') (hok : HOk X.prog X.w H' h') (hg : AllBare g')
    (hch : ∀ b ∈ ch, (b ∈ X.ex ∨ X.s₀.heap.objs.size ≤ b) ∧ b ≠ X.env.locals ∧ (∀ x c, X.env.cells.lookup x = some c → c ≠ b) ∧ ∀ p ∈ X.pn ++ pins, p.1 ≠ b) :
    Inv X pins σ H' { s with heap := h', gens := g', drawn := d', toks := t' } := by
  obtain ⟨m, ⟨o, es, ep, ho, r⟩, _⟩ := id I.loc
  obtain ⟨sl, hL⟩ := u.any ho I.free fun z => (hch _ z).2.1 rfl
  exact I.step (ch := ch) hch (fun b o hL hb hc e n => u.keep b o e n (fun z => (List.mem_cons.mp (I.stkSub b z)).elim hL hb) hc) (fun b o _ _ hc e n => u.any e n hc) (fun b o hc e n => u.free b o e n hc) (fun b o hc e => u.there b o e hc) u.tups u.frzs u.tbls (fun m' hm => by
    obtain ⟨o', es', ep', ho', r'⟩ := hm
    rw [ho] at ho'; cases ho'
    exact ⟨_, es', ep', hL, r'⟩) hok hg

theorem Inv.turned {t' : Nat} {it : Addr} (I : Inv X pins σ H s) (k : ∀ b o, b ≠ it → s.heap.get? b = some o → h'.get? b = some o) (hn : H it = none) (hL : it ≠ X.env.locals)
    (h1 : it ∈ X.ex ∨ X.s₀.heap.objs.size ≤ it) (h2 : ∀ x c, X.env.cells.lookup x = some c → c ≠ it) (h3 : ∀ p ∈ X.pn ++ pins, p.1 ≠ it) : Inv X pins σ H { s with heap := h', toks := t' } := by
  have nit : ∀ b u, H b = some u → b ≠ it := fun b u e z => by rw [z, hn] at e; cases e
  refine I.step (g' := s.gens) (d' := s.drawn) (ch := [it]) (fun b hb => ?_) (fun b o _ _ hc e _ => k b o (fun z => hc (by simp [z])) e) (fun b o _ _ hc e _ => ⟨o.slots, k b o (fun z => hc (by simp [z])) e⟩) (fun _ _ _ _ n => n)
    (fun b o hc e => ⟨o, k b o (fun z => hc (by simp [z])) e⟩) (fun _ _ e => e) (fun _ _ _ e => e) (fun b ps e => ⟨#[], by rw [e]; simp⟩) (fun m hm => ?_) (fun b u e => ?_) I.bare
  · have e : b = it := by simpa using hb
    subst e
    exact ⟨h1, hL, h2, h3⟩
  · obtain ⟨o, es, ep, ho, r⟩ := hm
    exact ⟨o, es, ep, k _ o (Ne.symm hL) ho, r⟩
  · refine (I.hok b u e).stay (fun c v hc q => k c v ?_ q) (fun _ q => q) fun _ _ q => q
    rcases hc with z | z
    · rw [z]; exact nit b u e
    · exact nit c _ z
theorem Inv.tok (I : Inv X pins σ H s) (t : Nat) : Inv X pins σ H { s with toks := t } := I.un (h' := s.heap) (t' := t) Un.refl I.hok

theorem Inv.kept {t' : Nat} (I : Inv X pins σ H s) (k : ∀ b u, s.heap.get? b = some u → h'.get? b = some u) : Inv X pins σ H { s with heap := h', toks := t' } := I.un (Un.kept k) (I.hok.kept k)

theorem Inv.laid {a : Addr} {o : HO} {t' : Nat} (I : Inv X pins σ H s) (k : ∀ b u, s.heap.get? b = some u → h'.get? b = some u) (hp : s.heap.objs.size ≤ a) (new : ObjOk X.prog X.w (upd H a o) h' a o) :
    Inv X pins σ (upd H a o) { s with heap := h', toks := t' } := I.un (Un.laid k hp (I.hok.fresh hp)) (I.hok.laid k hp new)

theorem Inv.write {x e : Addr} {o : HO} {t' : Nat} (I : Inv X pins σ H s) (mu : Mut (H x)) (he : e = x ∨ H e = some (.own x)) (k : ∀ b u, b ≠ e → s.heap.get? b = some u → h'.get? b = some u) (heo : ∃ u, h'.get? e = some u)
    (new : ObjOk X.prog X.w (upd H x o) h' x o) : Inv X pins σ (upd H x o) { s with heap := h', toks := t' } := I.un (Un.write mu he k heo) (I.hok.write mu he k heo new)

theorem Inv.weak {σ' : List (Option V)} (I : Inv X pins σ H s) (hl : σ'.length = σ.length) (w : ∀ (i : Nat) v, σ'[i]? = some (some v) → σ[i]? = some (some v)) : Inv X pins σ' H s :=
  ⟨I.ok, I.os, I.bare, I.base, let ⟨m, hn, hl'⟩ := I.loc; ⟨m, hn, fun i x v e1 e2 e3 => hl' i x v e1 (w i v e2) e3⟩, I.cell, I.free, I.freeC, I.pin, I.hok, hl.trans I.len⟩
theorem Inv.pins_of {pins' : List (Addr × Obj)} (I : Inv X pins σ H s) (h : ∀ p ∈ pins', s.heap.get? p.1 = some p.2 ∧ H p.1 = none ∧ p.1 ≠ X.env.locals ∧ p.1 ∉ X.fs ∧ ∀ v, p.2.data ≠ .cell v) : Inv X pins' σ H s :=
  ⟨I.ok, I.os, I.bare, I.base, I.loc, I.cell, I.free, I.freeC, fun p hp => (List.mem_append.mp hp).elim (fun z => I.pin p (List.mem_append_left _ z)) (h p), I.hok, I.len⟩

theorem nodup_ix {N : List Str} (hN : N.Nodup) {i j : Nat} {x : Str} (a : N[i]? = some x) (b : N[j]? = some x) : i = j := by
  obtain ⟨h1, e1⟩ := List.getElem?_eq_some_iff.mp a
  obtain ⟨h2, e2⟩ := List.getElem?_eq_some_iff.mp b
  exact (List.getElem_inj hN).mp (e1.trans e2.symm)


theorem store_ok2 {M : Model} {A : Around} {E : Value → Shared → Prop} {i : Nat} {x : Str} {v : V} {u : Value} {Q : Unit → Shared → Prop} (I : Inv X pins σ H s) (hN : X.N.Nodup) (hi : X.N[i]? = some x) (hx : Loc X.env.scope x) (r : RelV v u)
    (h : ∀ s', Inv X pins (σ.set i (some v)) H s' → (∃ a, Heap.SameBut a s.heap s'.heap ∧ (a = X.env.locals ∨ X.env.cells.lookup x = some a)) → Q () s') (hf : X.fn x = true ∨ X.env.scope.names.lookup x = some .local := by first | exact .inl rfl | exact .inr rfl | assumption) : wpAny M A (storeName X.env x u) Q E s := by
  obtain ⟨m, hn, hl⟩ := id I.loc
  have hcls : (X.env.scope.kind == .class || (X.env.scope.kind == .module && X.env.locals != X.env.globals)) = false := by rw [I.ok.kind]; rfl
  have hiσ : i < σ.length := by rw [I.len]; exact (List.getElem?_eq_some_iff.mp hi).1
  have cne := I.cne
  have tracked : ∀ {a : Addr} {h' : Heap}, (∃ o, s.heap.get? a = some o ∧ H a = none) → Heap.SameBut a s.heap h' → HOk X.prog X.w H h' := fun {a h'} ha hs b ob e => by
    obtain ⟨_, _, hfree⟩ := ha
    refine (I.hok b ob e).stay (fun c w' hc q => (hs.2 c ?_).trans q) (fun _ q => q) fun _ _ q => q
    rintro rfl
    rcases hc with rfl | hc
    · rw [hfree] at e; cases e
    · rw [hfree] at hc; cases hc
  rcases hx with hk | hk
  · refine wpAny_storeName_local hk hn (fun h' hn' hs => ?_) hcls
    obtain ⟨oL, _, _, hoL, _⟩ := id hn
    refine h _ ⟨I.ok, I.os, I.bare, ⟨fun b o e n hb hx => ?_, fun b o e n hb hx => ?_, I.base.free, fun b o e hx => ?_, I.base.tups, I.base.frzs, I.base.tbls⟩, ⟨_, hn', fun j y v' e1 e2 e3 => ?_⟩, fun y c e => ?_, I.free, I.freeC, fun p hp => ?_, tracked ⟨oL, hoL, I.free⟩ hs, by simpa using I.len⟩ ⟨_, hs, .inl rfl⟩
    · exact (hs.2 b (Nat.ne_of_lt (Nat.lt_of_lt_of_le (Heap.lt_size e) I.ok.above))).trans (I.base.keep b o e n hb hx)
    · obtain ⟨sl, e1⟩ := I.base.slot b o e n hb hx
      exact ⟨sl, (hs.2 b (Nat.ne_of_lt (Nat.lt_of_lt_of_le (Heap.lt_size e) I.ok.above))).trans e1⟩
    · obtain ⟨o', e1⟩ := I.base.there b o e hx
      exact ⟨o', (hs.2 b (Nat.ne_of_lt (Nat.lt_of_lt_of_le (Heap.lt_size e) I.ok.above))).trans e1⟩
    · by_cases hj : j = i
      · subst hj
        rw [hi] at e1; cases e1
        rw [List.getElem?_set_self hiσ] at e2
        cases e2
        exact ⟨u, r, .inl ⟨hk, by simp⟩⟩
      · rw [List.getElem?_set_ne (Ne.symm hj)] at e2
        obtain ⟨u', r', q⟩ := hl j y v' e1 e2 e3
        refine ⟨u', r', ?_⟩
        rcases q with ⟨k, e⟩ | ⟨k, c, e, z⟩
        · refine .inl ⟨k, ?_⟩
          have : y ≠ x := fun e => hj (nodup_ix hN e1 (e ▸ hi))
          simp [this, e]
        · exact .inr ⟨k, c, e, z.sameBut hs (cne y c e)⟩
    · obtain ⟨w', z⟩ := I.cell y c e
      exact ⟨w', z.sameBut hs (cne y c e)⟩
    · obtain ⟨e, n, ne, nf, d⟩ := I.pin p hp
      exact ⟨(hs.2 p.1 ne).trans e, n, ne, nf, d⟩
  · have hfn : X.fn x = true := by
      rcases hf with z | z
      · exact z
      · rw [z] at hk; cases hk
    obtain ⟨c, hc⟩ := I.ok.has x (.inl hk)
    obtain ⟨w', z⟩ := I.cell x c hc
    refine wpAny_storeName_cell I.ok.kind hk hc z (fun h' hc' hs => ?_)
    obtain ⟨oc, hoc, hocd⟩ := id z
    refine h { s with heap := h' } ⟨I.ok, I.os, I.bare, ⟨fun b o e n hb hx => ?_, fun b o e n hb hx => ?_, I.base.free, fun b o e hx => ?_, I.base.tups, I.base.frzs, I.base.tbls⟩, ⟨m, hn.sameBut hs (Ne.symm (cne x c hc)), fun j y v' e1 e2 e3 => ?_⟩, fun y c' e => ?_, I.free, I.freeC, fun p hp => ?_, tracked ⟨oc, hoc, I.freeC x c hc⟩ hs, by simpa using I.len⟩ ⟨c, hs, .inr hc⟩
    · exact (hs.2 b (Nat.ne_of_lt (Nat.lt_of_lt_of_le (Heap.lt_size e) (I.ok.cab x c hfn hc)))).trans (I.base.keep b o e n hb hx)
    · obtain ⟨sl, e1⟩ := I.base.slot b o e n hb hx
      exact ⟨sl, (hs.2 b (Nat.ne_of_lt (Nat.lt_of_lt_of_le (Heap.lt_size e) (I.ok.cab x c hfn hc)))).trans e1⟩
    · obtain ⟨o', e1⟩ := I.base.there b o e hx
      exact ⟨o', (hs.2 b (Nat.ne_of_lt (Nat.lt_of_lt_of_le (Heap.lt_size e) (I.ok.cab x c hfn hc)))).trans e1⟩
    · by_cases hj : j = i
      · subst hj
        rw [hi] at e1; cases e1
        rw [List.getElem?_set_self hiσ] at e2
        cases e2
        exact ⟨u, r, .inr ⟨.inl hk, c, hc, hc'⟩⟩
      · rw [List.getElem?_set_ne (Ne.symm hj)] at e2
        obtain ⟨u', r', q⟩ := hl j y v' e1 e2 e3
        refine ⟨u', r', ?_⟩
        rcases q with q | ⟨k, c', e, z'⟩
        · exact .inl q
        · refine .inr ⟨k, c', e, z'.sameBut hs ?_⟩
          rintro rfl
          exact hj (nodup_ix hN e1 (I.ok.inj _ _ _ e hc ▸ hi))
    · by_cases hcc : c' = c
      · subst hcc; exact ⟨_, hc'⟩
      · obtain ⟨w2, z2⟩ := I.cell y c' e
        exact ⟨w2, z2.sameBut hs hcc⟩
    · obtain ⟨e, n, ne, nf, d⟩ := I.pin p hp
      refine ⟨(hs.2 p.1 ?_).trans e, n, ne, nf, d⟩
      intro q
      rw [q, hoc] at e
      have q' : oc = p.2 := Option.some.inj e
      exact d w' (by rw [← q']; exact hocd)
theorem store_ok {M : Model} {A : Around} {E : Value → Shared → Prop} {i : Nat} {x : Str} {v : V} {u : Value} {Q : Unit → Shared → Prop} (I : Inv X pins σ H s) (hN : X.N.Nodup) (hi : X.N[i]? = some x) (hx : Loc X.env.scope x) (r : RelV v u)
    (h : ∀ s', Inv X pins (σ.set i (some v)) H s' → Q () s') (hf : X.fn x = true ∨ X.env.scope.names.lookup x = some .local := by first | exact .inl rfl | exact .inr rfl | assumption) : wpAny M A (storeName X.env x u) Q E s :=
  store_ok2 I hN hi hx r (fun s' I' _ => h s' I') hf

theorem Inv.call' {s' : Shared} {ch : List Addr} (I : Inv X pins σ H s) (ho : s'.os = s.os) (u : Un (frs X.stack) ch H H' s.heap s'.heap) (hok : HOk X.prog X.w H' s'.heap) (hg : AllBare s'.gens)
    (hch : ∀ b ∈ ch, (b ∈ X.ex ∨ X.s₀.heap.objs.size ≤ b) ∧ b ≠ X.env.locals ∧ (∀ x c, X.env.cells.lookup x = some c → c ≠ b) ∧ ∀ p ∈ X.pn ++ pins, p.1 ≠ b) : Inv X pins σ H' s' := by
  obtain ⟨h', g', d', t', o'⟩ := s'
  have e : o' = s.os := ho
  subst e
  exact I.call (g' := g') (t' := t') (d' := d') u hok hg hch
end



abbrev XK := Value → Option Addr → Hp → Prop
abbrev St := List (Option V)
abbrev VK := V → Hp → Prop

abbrev TE := St → Hp → VK → Prop
abbrev TT := St → Hp → (Bool → Hp → Prop) → Prop
abbrev TA := St → Hp → (List V → Hp → Prop) → Prop

structure Ends where
  nx : St → Hp → Prop
  rt : VK
  bk : St → Hp → Prop := fun _ _ => False
  ct : St → Hp → Prop := fun _ _ => False
abbrev TS := Ends → St → Hp → Prop

def EP (X : Cx) (pins : List (Addr × Obj)) (σ : St) (Q : VK) (u : Value) (s' : Shared) : Prop := ∃ v H', Inv X pins σ H' s' ∧ RelV v u ∧ Q v H'
def TP (X : Cx) (pins : List (Addr × Obj)) (σ : St) (Q : Bool → Hp → Prop) (b : Bool) (s' : Shared) : Prop := ∃ H', Inv X pins σ H' s' ∧ Q b H'
def AP (X : Cx) (pins : List (Addr × Obj)) (σ : St) (Q : List V → Hp → Prop) (us : List Value) (s' : Shared) : Prop := ∃ vs H', Inv X pins σ H' s' ∧ Vals vs us ∧ Q vs H'
def SP (X : Cx) (pins : List (Addr × Obj)) (D : Ends) (f : Flow) (s' : Shared) : Prop :=
  match f with
  | .next => ∃ σ' H', Inv X pins σ' H' s' ∧ D.nx σ' H'
  | .brk => ∃ σ' H', Inv X pins σ' H' s' ∧ D.bk σ' H'
  | .cont => ∃ σ' H', Inv X pins σ' H' s' ∧ D.ct σ' H'
  | .ret u => ∃ v σ' H', Inv X pins σ' H' s' ∧ RelV v u ∧ D.rt v H'

def PE (X : Cx) (e : Expr) (t : TE) : Prop :=
  ∀ (pins : List (Addr × Obj)) (s : Shared) (σ : St) (H : Hp) (Q : VK), Inv X pins σ H s → t σ H Q → wpAny (model X.prog X.w) X.A (eval e X.env) (EP X pins σ Q) X.xe s
def PT (X : Cx) (e : Expr) (t : TT) : Prop :=
  ∀ (pins : List (Addr × Obj)) (s : Shared) (σ : St) (H : Hp) (Q : Bool → Hp → Prop), Inv X pins σ H s → t σ H Q → wpAny (model X.prog X.w) X.A (isTrue e X.env (eval e X.env)) (TP X pins σ Q) X.xe s

def PW (X : Cx) (e : Expr) (t : TT) : Prop :=
  ∀ (whole : Sem Value) (pins : List (Addr × Obj)) (s : Shared) (σ : St) (H : Hp) (Q : Bool → Hp → Prop), Inv X pins σ H s → t σ H Q → wpAny (model X.prog X.w) X.A (isTrue e X.env whole) (TP X pins σ Q) X.xe s
theorem PW.pt {X : Cx} {e : Expr} {t : TT} (h : PW X e t) : PT X e t := h _

def PA (X : Cx) (es : List Expr) (t : TA) : Prop :=
  ∀ (pos : Pos) (pins : List (Addr × Obj)) (s : Shared) (σ : St) (H : Hp) (Q : List V → Hp → Prop), Inv X pins σ H s → t σ H Q → wpAny (model X.prog X.w) X.A (spliced (backTo pos (starEach es X.env))) (AP X pins σ Q) X.xe s
def PS (X : Cx) (st : Stmt) (t : TS) : Prop :=
  ∀ (pins : List (Addr × Obj)) (s : Shared) (σ : St) (H : Hp) (D : Ends), Inv X pins σ H s → t D σ H → wpAny (model X.prog X.w) X.A (exec st X.env) (SP X pins D) X.xe s
def PSs (X : Cx) (st : List Stmt) (t : TS) : Prop :=
  ∀ (pins : List (Addr × Obj)) (s : Shared) (σ : St) (H : Hp) (D : Ends), Inv X pins σ H s → t D σ H → wpAny (model X.prog X.w) X.A (execs st X.env) (SP X pins D) X.xe s

theorem thn {α : Type} {t : Sem α} {Q Q' : α → Shared → Prop} {M : Model} {A : Around} {E : Value → Shared → Prop} {s : Shared} (h : wpAny M A t Q E s) (hQ : ∀ a s, Q a s → Q' a s) : wpAny M A t Q' E s := wpAny_mono h hQ fun _ _ x => x
end L2

namespace L2
open PySem PySem.Spec PyProof.Rows
section
variable {X : Cx}


def tVar (i : Nat) : TE := fun σ H Q => ∃ v, σ[i]? = some (some v) ∧ Q v H
def tC (v : V) : TE := fun _ H Q => Q v H
theorem pe_var {i : Nat} {x : Str} {pos : Pos} (hN : X.N[i]? = some x) (hv : Vis X.env.scope x) (hd : (x == ("__debug__" : Str)) = false := by decide) (hcd : (x == ("__classdict__" : Str)) = false := by decide) : PE X (.Name x pos) (tVar i) := by
  intro pins s σ H Q I h
  obtain ⟨v, e, h⟩ := h
  obtain ⟨m, hn, hl⟩ := I.loc
  obtain ⟨u, r, l⟩ := hl i x v hN e hv
  have fin : EP X pins σ Q u s := ⟨v, H, I, r, h⟩
  rcases l with ⟨hk, hm⟩ | ⟨hk, c, hc, hcell⟩
  · exact wpAny_Name (wpAny_loadName_local I.ok.kind hk hn hm fin) hd
  · rcases hk with hk | hk
    · exact wpAny_Name (wpAny_loadName_cell I.ok.kind hk hc hcell fin) hd
    · exact wpAny_Name (wpAny_loadName_free I.ok.kind hk hc hcell fin hcd) hd
theorem pe_int {i j pos} : PE X (.Constant (.int i) j pos) (tC (.int i)) := fun _ _ _ H _ I h => wpAny_Constant_int ⟨.int i, H, I.tok _, ⟨_, rfl⟩, h⟩
theorem pe_bl {b j pos} : PE X (.Constant (.bool b) j pos) (tC (.bl b)) := fun _ _ _ H _ I h => Constant_bool ⟨.bl b, H, I, rfl, h⟩
def Gl (X : Cx) (x : Str) : Prop := X.env.kindOf x = some .globalImplicit
theorem ld_glob {E : Value → Shared → Prop} {pins : List (Addr × Obj)} {s : Shared} {σ : St} {H : Hp} {x : Str} {u : Value} {pos : Pos} {Q : Value → Shared → Prop} (I : Inv X pins σ H s) (hg : Gl X x) (hm : X.mg x = some u) (h : Q u s)
    (hd : (x == ("__debug__" : Str)) = false := by decide) : wpAny (model X.prog X.w) X.A (eval (.Name x pos) X.env) Q E s :=
  Calls.Name_function_global I.ok.kind hg (Calls.loadGlobal_global (by rw [I.ok.glob]; exact I.mod.glob.keeps I.bk) hm h) hd
theorem ld_blt {E : Value → Shared → Prop} {pins : List (Addr × Obj)} {s : Shared} {σ : St} {H : Hp} {x : Str} {u : Value} {pos : Pos} {Q : Value → Shared → Prop} (I : Inv X pins σ H s) (hg : Gl X x) (hm : X.mg x = none) (hv : bootBuiltins x = some u) (h : Q u s)
    (hn : x ≠ "__name__" := by decide) (hd : (x == ("__debug__" : Str)) = false := by decide) : wpAny (model X.prog X.w) X.A (eval (.Name x pos) X.env) Q E s := by
  obtain ⟨mb, h1, h2⟩ := I.mod.blt
  exact Calls.Name_function_global I.ok.kind hg (Calls.loadGlobal_builtin (by rw [I.ok.glob]; exact I.mod.glob.keeps I.bk) hm (by rw [I.ok.blt]; exact h1.keeps I.bk) ((h2 x hn).trans hv) h) hd

theorem pe_bltn {x : Str} {v : V} {u : Value} {pos : Pos} (hg : Gl X x) (hm : X.mg x = none) (hv : bootBuiltins x = some u) (r : RelV v u) (hn : x ≠ "__name__" := by decide) (hd : (x == ("__debug__" : Str)) = false := by decide) : PE X (.Name x pos) (tC v) :=
  fun _ _ _ H _ I h => ld_blt I hg hm hv ⟨v, H, I, r, h⟩ hn hd



variable {a b : Expr} {ta tb : TE} {pos : Pos}
def tB (t : TE) : TT := fun σ H Q => t σ H fun x H1 => ∃ c, x = .bl c ∧ Q c H1
theorem pt_val {e : Expr} {t : TE} (h : PE X e t) (he : ∀ whole, isTrue e X.env whole = (do let v ← whole; standAt e.pos; holding [v] (truthy v)) := by intro _; rfl) : PT X e (tB t) := by
  intro pins s σ H Q I hw
  refine isTrue_plain (thn (h pins s σ H _ I hw) fun v s1 ⟨x, H1, I1, r1, q1⟩ => ?_) (he _)
  obtain ⟨d, rfl, q⟩ := q1
  cases r1
  exact wpAny_truthy_bool ⟨H1, I1, q⟩


variable {tA tB' : TT} {rest : List Expr}
def tAnd (t u : TT) : TT := fun σ H Q => t σ H fun c H1 => if c = true then u σ H1 Q else Q false H1
def tOr (t u : TT) : TT := fun σ H Q => t σ H fun c H1 => if c = true then Q true H1 else u σ H1 Q
def tNot (t : TT) : TT := fun σ H Q => t σ H fun c H1 => Q (!c) H1
theorem pw_and1 (ha : PT X a tA) : PW X (.BoolOp .And [a] pos) tA := by
  intro wh pins s σ H Q I h
  refine isTrue_and (thn (ha pins s σ H Q I h) fun c s1 e => ?_)
  cases c with
  | true => exact isTrue_and_nil e
  | false => exact e
theorem pw_or1 (ha : PT X a tA) : PW X (.BoolOp .Or [a] pos) tA := by
  intro wh pins s σ H Q I h
  refine isTrue_or (thn (ha pins s σ H Q I h) fun c s1 e => ?_)
  cases c with
  | false => exact isTrue_or_nil e
  | true => exact e
theorem pw_and (ha : PT X a tA) (hb : PW X (.BoolOp .And (b :: rest) pos) tB') : PW X (.BoolOp .And (a :: b :: rest) pos) (tAnd tA tB') := by
  intro wh pins s σ H Q I h
  refine isTrue_and (thn (ha pins s σ H _ I h) fun c s1 ⟨H1, I1, q1⟩ => ?_)
  cases c with
  | true => exact hb wh pins s1 σ H1 Q I1 q1
  | false => exact ⟨H1, I1, q1⟩
theorem pw_or (ha : PT X a tA) (hb : PW X (.BoolOp .Or (b :: rest) pos) tB') : PW X (.BoolOp .Or (a :: b :: rest) pos) (tOr tA tB') := by
  intro wh pins s σ H Q I h
  refine isTrue_or (thn (ha pins s σ H _ I h) fun c s1 ⟨H1, I1, q1⟩ => ?_)
  cases c with
  | true => exact ⟨H1, I1, q1⟩
  | false => exact hb wh pins s1 σ H1 Q I1 q1
theorem pt_not (ha : PT X a tA) : PT X (.UnaryOp .Not a pos) (tNot tA) := by
  intro pins s σ H Q I h
  exact isTrue_not (ha pins s σ H (fun c H1 => Q (!c) H1) I h)

def tAndV (ta tb : TE) : TE := fun σ H Q => ta σ H fun x H1 => ∃ c, x = .bl c ∧ if c = true then tb σ H1 Q else Q (.bl false) H1
def tOrV (ta tb : TE) : TE := fun σ H Q => ta σ H fun x H1 => ∃ c, x = .bl c ∧ if c = true then Q (.bl true) H1 else tb σ H1 Q
def tNotV (ta : TE) : TE := fun σ H Q => ta σ H fun x H1 => ∃ c, x = .bl c ∧ Q (.bl (!c)) H1
def tIf (t : TT) (ta tb : TE) : TE := fun σ H Q => t σ H fun c H1 => if c = true then ta σ H1 Q else tb σ H1 Q
theorem pe_ifExp {c : Expr} (hc : PT X c tA) (ha : PE X a ta) (hb : PE X b tb) : PE X (.IfExp c a b pos) (tIf tA ta tb) := by
  intro pins s σ H Q I h
  refine wpAny_IfExp (thn (hc pins s σ H _ I h) fun d s1 ⟨H1, I1, q1⟩ => ?_)
  cases d with
  | true => exact ha pins s1 σ H1 Q I1 q1
  | false => exact hb pins s1 σ H1 Q I1 q1
end
end L2

namespace L2
open PySem PySem.Spec PyProof.Rows


def SqL (K : PySem.W.Frag) (H : Hp) (a : Addr) (xs : List V) : Prop :=
  Rd H a (.lst xs) ∨
    ∃ (o : Obj) (its : Array Value) (n : Nat), K.lookup a = some o ∧ o.cls = .type "list" ∧ o.dict = none ∧ o.data = .seq its n ∧ its.size ≤ sizeLine ∧ Vals xs its.toList
def SqT (K : PySem.W.Frag) (H : Hp) (a : Addr) (xs : List V) : Prop :=
  Rd H a (.tup xs) ∨
    ∃ (o : Obj) (its : Array Value) (n : Nat), K.lookup a = some o ∧ o.cls = .type "tuple" ∧ o.data = .seq its n ∧ its.size ≤ sizeLine ∧ Vals xs its.toList
def absV : Value → Option V
  | .none => some .non
  | .bool b => some (.bl b)
  | .int i _ => some (.int i)
  | .str x _ => some (.str x)
  | .bytes b _ => some (.byt b)
  | .float b _ => some (.flt b)
  | .ref a => some (.ref a)
  | .type n => some (.ty n)
  | _ => none
theorem RelV.abs {x : V} {u : Value} (r : RelV x u) : absV u = some x := by
  cases x with
  | non => cases r; rfl
  | bl _ => cases r; rfl
  | int _ => obtain ⟨t, rfl⟩ := r; rfl
  | str _ => obtain ⟨t, rfl⟩ := r; rfl
  | byt _ => obtain ⟨t, rfl⟩ := r; rfl
  | flt _ => obtain ⟨t, rfl⟩ := r; rfl
  | ref _ => cases r; rfl
  | ty _ => cases r; rfl
theorem RelV.inj {x y : V} {u : Value} (r : RelV x u) (q : RelV y u) : x = y := Option.some.inj (r.abs.symm.trans q.abs)
theorem Vals.inj : ∀ {xs ys : List V} {us : List Value}, Vals xs us → Vals ys us → xs = ys
  | _, _, _, .nil, .nil => rfl
  | _, _, _, .cons r t, .cons r' t' => by rw [r.inj r', Vals.inj t t']
section
variable {X : Cx} {pins : List (Addr × Obj)} {σ : St} {H : Hp} {s : Shared} {a : Addr} {xs ys : List V}
theorem SqL.of {K : PySem.W.Frag} (h : H a = some (.lst xs)) : SqL K H a xs := .inl (.inl h)
theorem SqT.of {K : PySem.W.Frag} (h : H a = some (.tup xs)) : SqT K H a xs := .inl (.inl h)
theorem Inv.list (I : Inv X pins σ H s) (h : SqL X.K H a xs) : ∃ its : List Value, Vals xs its ∧ PlainL s.heap a its.toArray ∧ xs.length ≤ sizeLine := by
  rcases h with h | ⟨o, its, n, hk, hc, hd, hs, hz, r⟩
  · obtain ⟨z, its, n, r, e⟩ := h.ok I.hok
    exact ⟨its, r, ⟨_, n, e, rfl, rfl, rfl⟩, z⟩
  · refine ⟨its.toList, r, ⟨o, n, I.kIn a o hk, hc, hd, by simpa using hs⟩, ?_⟩
    have e := r.length
    simp only [Array.length_toList] at e
    omega
theorem Inv.tuple (I : Inv X pins σ H s) (h : SqT X.K H a xs) : ∃ its : List Value, Vals xs its ∧ IsTup s.heap a its.toArray ∧ xs.length ≤ sizeLine := by
  rcases h with h | ⟨o, its, n, hk, hc, hs, hz, r⟩
  · obtain ⟨z, its, r, p⟩ := h.ok I.hok
    exact ⟨its, r, p, z⟩
  · refine ⟨its.toList, r, ⟨o, I.kIn a o hk, hc, n, by simpa using hs⟩, ?_⟩
    have e := r.length
    simp only [Array.length_toList] at e
    omega
theorem Inv.list_inj (I : Inv X pins σ H s) (h : SqL X.K H a xs) (h' : SqL X.K H a ys) : xs = ys := by
  obtain ⟨its, r, ⟨o, n, e, _, _, d⟩, _⟩ := I.list h
  obtain ⟨its', r', ⟨o', n', e', _, _, d'⟩, _⟩ := I.list h'
  rw [e] at e'; cases e'
  rw [d] at d'
  injection d' with d1 _
  have : its = its' := by simpa using congrArg Array.toList d1
  subst this
  exact r.inj r'
theorem Inv.tuple_inj (I : Inv X pins σ H s) (h : SqT X.K H a xs) (h' : SqT X.K H a ys) : xs = ys := by
  obtain ⟨its, r, ⟨o, e, _, n, d⟩, _⟩ := I.tuple h
  obtain ⟨its', r', ⟨o', e', _, n', d'⟩, _⟩ := I.tuple h'
  rw [e] at e'; cases e'
  rw [d] at d'
  injection d' with d1 _
  have : its = its' := by simpa using congrArg Array.toList d1
  subst this
  exact r.inj r'
end


abbrev Cx.wish (X : Cx) (E : Value → Shared → Prop) : Cx := { X with xe := E }

abbrev Cx.nox (X : Cx) : Cx := X.wish fun _ _ => False
theorem Cx.Ok.wish {X : Cx} (ok : X.Ok) (E : Value → Shared → Prop) : (X.wish E).Ok :=
  ⟨ok.mod, ok.kind, ok.glob, ok.blt, ok.above, ok.inj, ok.has, ok.cab, ok.hd, ok.frames, ok.stk, ok.exf, ok.bs, ok.bsz, ok.noex, ok.exfs, ok.funs, ok.frf⟩
theorem Cx.Ok.unwish {X : Cx} {E : Value → Shared → Prop} (ok : (X.wish E).Ok) : X.Ok :=
  ⟨ok.mod, ok.kind, ok.glob, ok.blt, ok.above, ok.inj, ok.has, ok.cab, ok.hd, ok.frames, ok.stk, ok.exf, ok.bs, ok.bsz, ok.noex, ok.exfs, ok.funs, ok.frf⟩
section
variable {X : Cx} {pins : List (Addr × Obj)} {σ : St} {H : Hp} {s : Shared} {E : Value → Shared → Prop}
theorem Inv.wish (I : Inv X pins σ H s) (E : Value → Shared → Prop) : Inv (X.wish E) pins σ H s := ⟨I.ok.wish E, I.os, I.bare, I.base, I.loc, I.cell, I.free, I.freeC, I.pin, I.hok, I.len⟩
theorem Inv.unwish (I : Inv (X.wish E) pins σ H s) : Inv X pins σ H s := ⟨I.ok.unwish, I.os, I.bare, I.base, I.loc, I.cell, I.free, I.freeC, I.pin, I.hok, I.len⟩
theorem SP.unwish {D : Ends} {f : Flow} {s' : Shared} (h : SP (X.wish E) pins D f s') : SP X pins D f s' := by
  cases f with
  | next => obtain ⟨σ', H', I, q⟩ := h; exact ⟨σ', H', I.unwish, q⟩
  | brk => obtain ⟨σ', H', I, q⟩ := h; exact ⟨σ', H', I.unwish, q⟩
  | cont => obtain ⟨σ', H', I, q⟩ := h; exact ⟨σ', H', I.unwish, q⟩
  | ret u => obtain ⟨v, σ', H', I, r, q⟩ := h; exact ⟨v, σ', H', I.unwish, r, q⟩
theorem PE.nox {e : Expr} {t : TE} (h : PE X.nox e t) : PE X e t := fun pins s σ H Q I hw =>
  wpAny_mono (h pins s σ H Q (I.wish _) hw) (fun _ _ ⟨v, H', I', r, q⟩ => ⟨v, H', I'.unwish, r, q⟩) fun _ _ z => False.elim z
theorem PT.nox {e : Expr} {t : TT} (h : PT X.nox e t) : PT X e t := fun pins s σ H Q I hw =>
  wpAny_mono (h pins s σ H Q (I.wish _) hw) (fun _ _ ⟨H', I', q⟩ => ⟨H', I'.unwish, q⟩) fun _ _ z => False.elim z
theorem PSs.nox {st : List Stmt} {t : TS} (h : PSs X.nox st t) : PSs X st t := fun pins s σ H D I hw =>
  wpAny_mono (h pins s σ H D (I.wish _) hw) (fun _ _ q => q.unwish) fun _ _ z => False.elim z
end


section
variable {X : Cx} {st : Stmt} {rest : List Stmt} {t u : TS} {e : Expr} {te : TE} {pos : Pos}
def tNext : TS := fun D σ H => D.nx σ H
def tSeq (t u : TS) : TS := fun D σ H => t { D with nx := u D } σ H
theorem pss_nil : PSs X [] tNext := fun _ _ σ H _ I h => wpAny_execs_nil ⟨σ, H, I, h⟩
theorem pss_cons (h1 : PS X st t) (h2 : PSs X rest u) : PSs X (st :: rest) (tSeq t u) := by
  intro pins s σ H D I h
  refine wpAny_execs_cons (thn (h1 pins s σ H { D with nx := u D } I h) fun f s1 q => ?_)
  cases f with
  | next =>
    obtain ⟨σ', H', I', q⟩ := q
    exact h2 pins s1 σ' H' D I' q
  | ret v => exact q
  | brk => exact q
  | cont => exact q
theorem pss_one (h1 : PS X st t) : PSs X [st] t := by
  intro pins s σ H D I h
  refine wpAny_execs_cons (thn (h1 pins s σ H D I h) fun f s1 q => ?_)
  cases f with
  | next => exact wpAny_execs_nil q
  | ret v => exact q
  | brk => exact q
  | cont => exact q
theorem Inv.quiet {pins : List (Addr × Obj)} {σ : St} {H : Hp} {s : Shared} (I : Inv X pins σ H s) : interactive X.env = false := by simp [interactive, I.ok.kind]

def tDrop (te : TE) : TS := fun D σ H => te σ H fun _ H1 => D.nx σ H1
theorem ps_expr (he : PE X e te) (hs : swapsWith e none pos.line X.env = pure false := by rfl) : PS X (.Expr e pos) (tDrop te) := by
  intro pins s σ H D I h
  exact wpAny_Expr_any (thn (he pins s σ H _ I h) fun v s1 ⟨x, H1, I1, r1, q1⟩ => ⟨σ, H1, I1, q1⟩) I.quiet hs
def tRet (te : TE) : TS := fun D σ H => te σ H D.rt
theorem ps_ret (he : PE X e te) : PS X (.Return (some e) pos) (tRet te) := by
  intro pins s σ H D I h
  exact wpAny_Return_some (thn (he pins s σ H _ I h) fun v s1 ⟨x, H1, I1, r1, q1⟩ => ⟨x, σ, H1, I1, r1, q1⟩)
def tIfS (c : TT) (t u : TS) : TS := fun D σ H => c σ H fun b H1 => if b = true then t D σ H1 else u D σ H1
theorem ps_if {c : Expr} {a b : List Stmt} {tc : TT} (hc : PT X c tc) (ha : PSs X a t) (hb : PSs X b u) : PS X (.If c a b pos) (tIfS tc t u) := by
  intro pins s σ H D I h
  refine wpAny_If (thn (hc pins s σ H _ I h) fun d s1 ⟨H1, I1, q1⟩ => ?_)
  cases d with
  | true => exact ha pins s1 σ H1 D I1 q1
  | false => exact hb pins s1 σ H1 D I1 q1

end


abbrev TG := V → St → Hp → (St → Hp → Prop) → Prop
abbrev TGs := List V → St → Hp → (St → Hp → Prop) → Prop
def PG (X : Cx) (target : Expr) (t : TG) : Prop :=
  ∀ (pins : List (Addr × Obj)) (s : Shared) (σ : St) (H : Hp) (v : V) (u : Value) (Q : St → Hp → Prop), Inv X pins σ H s → RelV v u → t v σ H Q →
    wpAny (model X.prog X.w) X.A (assign target X.env u) (fun _ s' => ∃ σ' H', Inv X pins σ' H' s' ∧ Q σ' H') X.xe s

def PGs (X : Cx) (ts : List Expr) (t : TGs) : Prop :=
  ∀ (pins : List (Addr × Obj)) (s : Shared) (σ : St) (H : Hp) (vs : List V) (us : List Value) (Q : St → Hp → Prop), Inv X pins σ H s → Vals vs us → t vs σ H Q →
    wpAny (model X.prog X.w) X.A (assignInOrder ((assignEach ts X.env).map (·.2)) us) (fun _ s' => ∃ σ' H', Inv X pins σ' H' s' ∧ Q σ' H') X.xe s

abbrev TSet := V → V → V → Hp → (Hp → Prop) → Prop
def PSet (X : Cx) (t : TSet) : Prop :=
  ∀ (pins : List (Addr × Obj)) (s : Shared) (σ : St) (H : Hp) (o i v : V) (ov iv u : Value) (Q : Hp → Prop), Inv X pins σ H s → RelV o ov → RelV i iv → RelV v u → t o i v H Q →
    wpAny (model X.prog X.w) X.A (setItem ov iv u) (fun _ s' => ∃ H', Inv X pins σ H' s' ∧ Q H') X.xe s

abbrev TIp := V → V → Hp → VK → Prop
def PIp (X : Cx) (op : Operator) (t : TIp) : Prop :=
  ∀ (pins : List (Addr × Obj)) (s : Shared) (σ : St) (H : Hp) (x y : V) (v u : Value) (Q : VK), Inv X pins σ H s → RelV x v → RelV y u → t x y H Q →
    wpAny (model X.prog X.w) X.A (inplaceOp op v u) (EP X pins σ Q) X.xe s
section
variable {X : Cx} {pos : Pos}
def gName (i : Nat) : TG := fun v σ H Q => Q (σ.set i (some v)) H
theorem pg_name {i : Nat} {x : Str} (hN : X.N.Nodup) (hi : X.N[i]? = some x) (hx : Loc X.env.scope x) (hf : X.fn x = true ∨ X.env.scope.names.lookup x = some .local := by first | exact .inl rfl | exact .inr rfl | assumption) : PG X (.Name x pos) (gName i) := by
  intro pins s σ H v u Q I r h
  exact wpAny_assign_Name (store_ok I hN hi hx r (fun s' I' => ⟨_, H, I', h⟩) hf)
def gNil : TGs := fun vs σ H Q => vs = [] ∧ Q σ H
def gCons (t : TG) (u : TGs) : TGs := fun vs σ H Q => ∃ v r, vs = v :: r ∧ t v σ H fun σ' H' => u r σ' H' Q
theorem pgs_nil : PGs X [] gNil := by
  intro pins s σ H vs us Q I r h
  obtain ⟨e, h⟩ := h
  subst e
  cases r
  exact assignInOrder_nil ⟨σ, H, I, h⟩
theorem pgs_cons {e : Expr} {es : List Expr} {t : TG} {u : TGs} (h1 : PG X e t) (h2 : PGs X es u)
    (hs : (assignEach (e :: es) X.env).map (·.2) = assign e X.env :: (assignEach es X.env).map (·.2) := by rfl) : PGs X (e :: es) (gCons t u) := by
  intro pins s σ H vs us Q I r h
  obtain ⟨v, vr, e1, h⟩ := h
  subst e1
  cases r with
  | cons r rr =>
    rw [hs]
    refine assignInOrder_cons (thn (h1 pins s σ H _ _ _ I r h) fun _ s1 ⟨σ1, H1, I1, q1⟩ => ?_)
    exact h2 pins s1 σ1 H1 _ _ Q I1 rr q1

def gTup (K : PySem.W.Frag) (n : Nat) (t : TGs) : TG := fun v σ H Q => ∃ a xs, v = .ref a ∧ SqT K H a xs ∧ xs.length = n ∧ t xs σ H Q
theorem pg_tup {es : List Expr} {k : Nat} {t : TGs} {n : Nat} (hc : X.calm = true) (h : PGs X es t)
    (hn : (assignEach es X.env).length = n := by rfl) (hst : (assignEach es X.env).findIdx? (·.1) = none := by rfl) : PG X (.Tuple es k pos) (gTup X.K n t) := by
  intro pins s σ H v u Q I r hw
  obtain ⟨a, xs, e1, hq, hl, hw⟩ := hw
  subst e1
  cases r
  obtain ⟨its, rv, ht, hz⟩ := I.tuple hq
  refine assign_Tuple_tuple (I.ok.hd hc) ht (by simp [hn, ← hl, rv.length]) hst fun h' hx => ?_
  have I1 : Inv X pins σ H { s with heap := h' } := I.kept (t' := s.toks) fun b o e => hx b o (Nat.ne_of_lt (Heap.lt_size e)) e
  exact h pins _ σ H xs _ Q I1 (by simpa using rv) hw

def gSub (to ti : TE) (t : TSet) : TG := fun v σ H Q => to σ H fun o H1 => ti σ H1 fun i H2 => t o i v H2 fun H3 => Q σ H3
theorem pg_sub {o i : Expr} {to ti : TE} {t : TSet} (ho : PE X o to) (hi : PE X i ti) (hs : PSet X t)
    (ha : ∀ v, assign (.Subscript o i pos) X.env v = (do
      let ov ← holding [v] (eval o X.env)
      let iv ← holding [v, ov] (eval i X.env)
      standAt pos
      holding [v, ov, iv] (setItem ov iv v)
      release [v, ov, iv] []) := by intro _; rfl) : PG X (.Subscript o i pos) (gSub to ti t) := by
  intro pins s σ H v u Q I r h
  rw [ha]
  refine wpAny_bind (wpAny_holding (thn (ho pins s σ H _ I h) fun ov s1 ⟨x, H1, I1, r1, q1⟩ => ?_))
  refine wpAny_bind (wpAny_holding (thn (hi pins s1 σ H1 _ I1 q1) fun iv s2 ⟨y, H2, I2, r2, q2⟩ => ?_))
  refine wpAny_bind (wpAny_standAt (wpAny_bind (wpAny_holding (thn (hs pins s2 σ H2 x y v ov iv u _ I2 r1 r2 r q2) fun _ s3 ⟨H3, I3, q3⟩ => ?_))))
  exact wpAny_release ⟨σ, H3, I3, q3⟩

def tAsg (te : TE) (g : TG) : TS := fun D σ H => te σ H fun x H1 => g x σ H1 D.nx
theorem ps_asg {tg e : Expr} {te : TE} {g : TG} (he : PE X e te) (hg : PG X tg g) (hs : swapsWithSole [tg] e pos.line X.env = pure false := by rfl) (hw : swappedStores [tg] e X.env = pure none := by rfl)
    (h1 : (assignEach [tg] X.env).map (·.2) = [assign tg X.env] := by rfl) : PS X (.Assign [tg] e pos) (tAsg te g) := by
  intro pins s σ H D I h
  refine wpAny_Assign_stores (thn (he pins s σ H _ I h) fun v s1 ⟨x, H1, I1, r1, q1⟩ => ?_) hs hw
  rw [h1]
  exact thn (hg pins s1 σ H1 x v _ I1 r1 q1) fun _ s2 q => q

theorem ps_set {i : Nat} {x : Str} {e : Expr} {te : TE} {pos' : Pos} (hN : X.N.Nodup) (hi : X.N[i]? = some x) (hx : Loc X.env.scope x) (he : PE X e te) (hs : swapsWith e (some (.Name x pos')) pos.line X.env = pure false := by rfl) (hf : X.fn x = true ∨ X.env.scope.names.lookup x = some .local := by first | exact .inl rfl | exact .inr rfl | assumption) :
    PS X (.Assign [.Name x pos'] e pos) (tAsg te (gName i)) := by
  intro pins s σ H D I h
  refine wpAny_Assign_Name (thn (he pins s σ H _ I h) fun v s1 ⟨y, H1, I1, r1, q1⟩ => ?_) hs
  exact store_ok I1 hN hi hx r1 (fun s2 I2 => ⟨_, H1, I2, q1⟩) hf

def tPar (i j : Nat) (ta : TA) : TS := fun D σ H => ta σ H fun vs H1 => ∃ v w, vs = [v, w] ∧ D.nx ((σ.set i (some v)).set j (some w)) H1
def tAug (i : Nat) (te : TE) (ti : TIp) : TS := fun D σ H => ∃ x, σ[i]? = some (some x) ∧ te σ H fun y H1 => ti x y H1 fun z H2 => D.nx (σ.set i (some z)) H2
theorem ps_aug {i : Nat} {x : Str} {e : Expr} {te : TE} {op : Operator} {ti : TIp} {pos' : Pos} (hN : X.N.Nodup) (hi : X.N[i]? = some x) (hx : Loc X.env.scope x) (he : PE X e te) (ho : PIp X op ti) (hf : X.fn x = true ∨ X.env.scope.names.lookup x = some .local := by first | exact .inl rfl | exact .inr rfl | assumption) :
    PS X (.AugAssign (.Name x pos') op e pos) (tAug i te ti) := by
  intro pins s σ H D I h
  obtain ⟨v, e1, h⟩ := h
  obtain ⟨m, hn, hl⟩ := I.loc
  have vis : Vis X.env.scope x := by rcases hx with k | k; exact .inl k; exact .inr (.inl k)
  obtain ⟨u, r, l⟩ := hl i x v hi e1 vis
  refine wpAny_AugAssign_Name ?_
  have go : wpAny (model X.prog X.w) X.A (eval e X.env) (fun w s₂ => wpAny (model X.prog X.w) X.A (inplaceOp op u w) (fun r s₃ => wpAny (model X.prog X.w) X.A (storeName X.env x r) (fun _ => SP X pins D .next) X.xe s₃) X.xe s₂) X.xe s := by
    refine thn (he pins s σ H _ I h) fun w s1 ⟨y, H1, I1, r1, q1⟩ => ?_
    refine thn (ho pins s1 σ H1 v y u w _ I1 r r1 q1) fun z s2 ⟨zv, H2, I2, r2, q2⟩ => ?_
    exact store_ok I2 hN hi hx r2 (fun s3 I3 => ⟨_, H2, I3, q2⟩) hf
  rcases l with ⟨hk, hm⟩ | ⟨hk, c, hc, hcell⟩
  · exact wpAny_loadName_local I.ok.kind hk hn hm go
  · rcases hk with hk | hk
    · exact wpAny_loadName_cell I.ok.kind hk hc hcell go
    · rcases hx with k | k
      · have : X.env.scope.names.lookup x = some .free := hk
        rw [k] at this; cases this
      · have : X.env.scope.names.lookup x = some .free := hk
        rw [k] at this; cases this

def ipI (f : Int → Int → Int) : TIp := fun x y H Q => ∃ i j, x = .int i ∧ y = .int j ∧ Q (.int (f i j)) H
end


section
variable {X : Cx} {pos : Pos}

def tWhile (c : TT) (tb : TS) : TS := fun D σ H => ∃ W : Nat → St → Hp → Prop, (∃ m, W m σ H) ∧ ∀ m σ H, W m σ H →
  c σ H fun b H1 => if b = true then ∃ N : St → Hp → Prop, (∀ σ' H', N σ' H' → ∃ m', m' < m ∧ W m' σ' H') ∧ tb { D with nx := N, ct := N, bk := D.nx } σ H1 else D.nx σ H1
theorem ps_while {c : Expr} {body : List Stmt} {tc : TT} {tb : TS} (hp : PassesOwn (model X.prog X.w) X.A X.env X.xe) (hc : PT X c tc) (hb : PSs X body tb) : PS X (.While c body [] pos) (tWhile tc tb) := by
  intro pins s σ H D I h
  obtain ⟨W, ⟨m0, w0⟩, turn⟩ := h
  refine wpAny_While (codeAny_whileLoop (fun n s' => ∃ σ' H', Inv X pins σ' H' s' ∧ W n σ' H') ?_ m0 ⟨σ, H, I, w0⟩)
  rintro n s1 ⟨σ1, H1, I1, w1⟩
  refine wpAny_passesOwn hp (thn (hc pins s1 σ1 H1 _ I1 (turn n σ1 H1 w1)) fun b s2 ⟨H2, I2, q2⟩ => ?_)
  cases b with
  | true =>
    obtain ⟨N, hN, q2⟩ := q2
    rw [if_pos rfl]
    refine wpAny_passesOwn hp (thn (hb pins s2 σ1 H2 _ I2 q2) fun f s3 q3 => ?_)
    cases f with
    | next =>
      obtain ⟨σ3, H3, I3, n3⟩ := q3
      obtain ⟨m', hm, w3⟩ := hN σ3 H3 n3
      exact ⟨m', hm, σ3, H3, I3, w3⟩
    | cont =>
      obtain ⟨σ3, H3, I3, n3⟩ := q3
      obtain ⟨m', hm, w3⟩ := hN σ3 H3 n3
      exact ⟨m', hm, σ3, H3, I3, w3⟩
    | brk => exact q3
    | ret v => exact q3
  | false =>
    rw [if_neg Bool.false_ne_true]
    exact wpAny_execs_nil ⟨σ1, H2, I2, q2⟩
end



structure It where
  go : Nat → Hp → Prop
  yld : Nat → Hp → V → Hp → Prop
  stop : Nat → Hp → Prop

def FpOk (X : Cx) (pins : List (Addr × Obj)) (H : Hp) (b : Addr) : Prop :=
  H b = none ∧ b ≠ X.env.locals ∧ b ∉ X.fs ∧ (b ∈ X.ex ∨ X.s₀.heap.objs.size ≤ b) ∧ (∀ x c, X.env.cells.lookup x = some c → c ≠ b) ∧ ∀ p ∈ X.pn ++ pins, p.1 ≠ b
theorem Inv.fpOk {X : Cx} {pins : List (Addr × Obj)} {σ : St} {H H' : Hp} {s : Shared} {b : Addr} (I : Inv X pins σ H s) (hb : s.heap.objs.size ≤ b) (hn : H' b = none) : FpOk X pins H' b := by
  refine ⟨hn, Nat.ne_of_gt (Nat.lt_of_lt_of_le I.lt hb), I.nofs hb, .inr (Nat.le_trans I.sz hb), fun x c e z => ?_, fun p hp z => ?_⟩
  · obtain ⟨v, q⟩ := I.cell x c e
    exact absurd (Nat.lt_of_lt_of_le q.lt (by rw [z]; exact hb)) (Nat.lt_irrefl _)
  · exact absurd (Nat.lt_of_lt_of_le (Heap.lt_size (I.pin p hp).1) (by rw [z]; exact hb)) (Nat.lt_irrefl _)
structure Turn (P : Program) (w : World) (K : PySem.W.Frag) (tg : Expr) (J : It) (fp : List Addr) (it : Addr) (tn : Nat → Heap → Prop) : Prop where
  mem : it ∈ fp
  obj : ∀ i h, tn i h → ∀ b ∈ fp, ∃ o, h.get? b = some o ∧ ∀ v, o.data ≠ .cell v
  keep : ∀ i h h', tn i h → (∀ b ∈ fp, ∀ o, h.get? b = some o → h'.get? b = some o) → tn i h'
  item : ∀ (X : Cx), X.prog = P → X.w = w → X.K = K → X.calm = true → ∀ (i : Nat) (pins : List (Addr × Obj)) (s : Shared) (σ : St) (H : Hp) (E : Value → Shared → Prop), Inv X pins σ H s → (∀ b ∈ fp, FpOk X pins H b) → tn i s.heap → J.go i H →
    wpAny (model P w) X.A (pyNext (.ref it)) (fun r s1 => ∃ u, r = some u ∧
      wpAny (model P w) X.A (letOwnedTupleGo tg (.ref it) u) (fun _ s2 => ∃ x H', Inv X pins σ H' s2 ∧ RelV x u ∧ J.yld i H x H' ∧ tn (i + 1) s2.heap ∧ ∀ b ∈ fp, H' b = none) E s1) E s
  done : ∀ (X : Cx), X.prog = P → X.w = w → X.K = K → X.calm = true → ∀ (i : Nat) (pins : List (Addr × Obj)) (s : Shared) (σ : St) (H : Hp) (E : Value → Shared → Prop), Inv X pins σ H s → (∀ b ∈ fp, FpOk X pins H b) → tn i s.heap → J.stop i H →
    wpAny (model P w) X.A (pyNext (.ref it)) (fun r s1 => r = none ∧ Inv X pins σ H s1) E s
  self : ∀ (A : Around) (i : Nat) (s : Shared) (Q : Value → Shared → Prop) (E : Value → Shared → Prop), tn i s.heap → Q (.ref it) s → wpAny (model P w) A (pyIter (.ref it)) Q E s
abbrev TI := St → Hp → (It → Hp → Prop) → Prop

def PIE (X : Cx) (pins : List (Addr × Obj)) (σ : St) (tg : Expr) (R : It → Hp → Prop) (itv : Value) (s2 : Shared) : Prop :=
  ∃ (it : Addr) (fp : List Addr) (tn : Nat → Heap → Prop) (J : It) (H' : Hp), itv = .ref it ∧ Inv X pins σ H' s2 ∧ Turn X.prog X.w X.K tg J fp it tn ∧ tn 0 s2.heap ∧ (∀ b ∈ fp, FpOk X pins H' b) ∧ R J H'
def PI (X : Cx) (tg iter : Expr) (wi : TI) : Prop :=
  ∀ (pins : List (Addr × Obj)) (s : Shared) (σ : St) (H : Hp) (R : It → Hp → Prop), Inv X pins σ H s → wi σ H R →
    wpAny (model X.prog X.w) X.A (eval iter X.env) (fun v s1 => wpAny (model X.prog X.w) X.A (pyIter v) (PIE X pins σ tg R) X.xe s1) X.xe s


theorem go_of {M : Model} {A : Around} {E : Value → Shared → Prop} {s : Shared} {tg : Expr} {it : Addr} {u : Value} {o : Obj} {n : String} {vs : Array Value} {Q : Unit → Shared → Prop} (ho : s.heap.get? it = some o) (hc : o.cls = .type n) (hd : o.data = .fields vs)
    (hn : ["enumerate", "zip", "dict_itemiterator", "dict_reverseitemiterator", "odict_iterator", "itertools.zip_longest", "itertools.pairwise"].contains n = false) (hQ : Q () s) : wpAny M A (letOwnedTupleGo tg (.ref it) u) Q E s := by
  unfold letOwnedTupleGo
  cases tg <;> first
    | exact wpAny_pure hQ
    | (cases u <;> first
        | exact wpAny_pure hQ
        | (refine wpAny_bind (wpAny_load ho ?_)
           rw [hc, hd]
           show wpAny M A (if (["enumerate", "zip", "dict_itemiterator", "dict_reverseitemiterator", "odict_iterator", "itertools.zip_longest", "itertools.pairwise"].contains n && vs[0]? == some (rawInt _)) = true then _ else _) Q E s
           rw [if_neg (by intro h; rw [hn, Bool.false_and] at h; cases h)]
           exact wpAny_pure hQ))


def Itl (K : PySem.W.Frag) (a : Addr) : It :=
  ⟨fun i H => ∃ xs x, SqL K H a xs ∧ xs[i]? = some x, fun i H x H' => H' = H ∧ ∀ xs, SqL K H a xs → xs[i]? = some x, fun i H => ∃ xs, SqL K H a xs ∧ xs.length ≤ i⟩
def Itt (K : PySem.W.Frag) (a : Addr) : It :=
  ⟨fun i H => ∃ xs x, SqT K H a xs ∧ xs[i]? = some x, fun i H x H' => H' = H ∧ ∀ xs, SqT K H a xs → xs[i]? = some x, fun i H => ∃ xs, SqT K H a xs ∧ xs.length ≤ i⟩

def Itr (lo : Int) (n : Nat) : It := ⟨fun i _ => i < n, fun i H x H' => H' = H ∧ x = .int (lo + i), fun i _ => n ≤ i⟩
theorem turn_list {P : Program} {w : World} {K : PySem.W.Frag} {tg : Expr} (a it : Addr) : Turn P w K tg (Itl K a) [it] it (fun i h => h.IsListIter it a i) where
  mem := by simp
  obj := fun i h st b hb => by
    have e : b = it := by simpa using hb
    subst e
    obtain ⟨o, e, c, d⟩ := st
    exact ⟨o, e, fun v z => by rw [d] at z; cases z⟩
  keep := fun i h h' st k => st.at fun o e => k it (by simp) o e
  item := by
    intro X hP hw hK hc i pins s σ H E I hf st hg
    subst hP hw hK
    obtain ⟨xs, x, hq, hx⟩ := hg
    obtain ⟨its, rv, p, hz⟩ := I.list hq
    obtain ⟨u, hu, ru⟩ := rv.get hx
    obtain ⟨f0, f1, f2, f3, f4, f5⟩ := hf it (by simp)
    refine wpAny_pyNext_list_item st p.isList (x := u) (by simpa using hu) fun h' st' sb => ?_
    have I1 : Inv X pins σ H { s with heap := h' } := I.turned (t' := s.toks) (fun b o hb e => (sb.2 b hb).trans e) f0 f1 f3 f4 f5
    obtain ⟨o, e, c, d⟩ := id st'
    exact ⟨u, rfl, go_of (s := { s with heap := h' }) e c d (by decide) ⟨x, H, I1, ru, ⟨rfl, fun ys hy => by rw [I.list_inj hy hq]; exact hx⟩, st', fun b hb => (hf b hb).1⟩⟩
  done := by
    intro X hP hw hK hc i pins s σ H E I hf st hg
    subst hP hw hK
    obtain ⟨xs, hq, hx⟩ := hg
    obtain ⟨its, rv, p, hz⟩ := I.list hq
    obtain ⟨f0, f1, f2, f3, f4, f5⟩ := hf it (by simp)
    have hl := rv.length
    exact wpAny_pyNext_list_end (I.ok.hd hc) st p.isList (by simp; omega) fun h' eb => ⟨rfl, I.turned (t' := s.toks) (fun b o hb e => eb b o hb e) f0 f1 f3 f4 f5⟩
  self := fun _ _ _ _ _ st h => wpAny_pyIter_listiter st h
theorem turn_tuple {P : Program} {w : World} {K : PySem.W.Frag} {tg : Expr} (a it : Addr) : Turn P w K tg (Itt K a) [it] it (fun i h => h.IsTupleIter it a i) where
  mem := by simp
  obj := fun i h st b hb => by
    have e : b = it := by simpa using hb
    subst e
    obtain ⟨o, e, c, d⟩ := st
    exact ⟨o, e, fun v z => by rw [d] at z; cases z⟩
  keep := fun i h h' st k => st.at fun o e => k it (by simp) o e
  item := by
    intro X hP hw hK hc i pins s σ H E I hf st hg
    subst hP hw hK
    obtain ⟨xs, x, hq, hx⟩ := hg
    obtain ⟨its, rv, p, hz⟩ := I.tuple hq
    obtain ⟨u, hu, ru⟩ := rv.get hx
    obtain ⟨f0, f1, f2, f3, f4, f5⟩ := hf it (by simp)
    refine wpAny_pyNext_tuple_item st (show s.heap.IsTuple a its.toArray from p) (x := u) (by simpa using hu) fun h' st' sb => ?_
    have I1 : Inv X pins σ H { s with heap := h' } := I.turned (t' := s.toks) (fun b o hb e => (sb.2 b hb).trans e) f0 f1 f3 f4 f5
    obtain ⟨o, e, c, d⟩ := id st'
    exact ⟨u, rfl, go_of (s := { s with heap := h' }) e c d (by decide) ⟨x, H, I1, ru, ⟨rfl, fun ys hy => by rw [I.tuple_inj hy hq]; exact hx⟩, st', fun b hb => (hf b hb).1⟩⟩
  done := by
    intro X hP hw hK hc i pins s σ H E I hf st hg
    subst hP hw hK
    obtain ⟨xs, hq, hx⟩ := hg
    obtain ⟨its, rv, p, hz⟩ := I.tuple hq
    obtain ⟨f0, f1, f2, f3, f4, f5⟩ := hf it (by simp)
    have hl := rv.length
    exact wpAny_pyNext_tuple_end (I.ok.hd hc) st (show s.heap.IsTuple a its.toArray from p) (by simp; omega) fun h' eb => ⟨rfl, I.turned (t' := s.toks) (fun b o hb e => eb b o hb e) f0 f1 f3 f4 f5⟩
  self := fun _ _ _ _ _ st h => wpAny_pyIter_tupleiter st h
theorem turn_range {P : Program} {w : World} {K : PySem.W.Frag} {tg : Expr} (it : Addr) (lo : Int) (n : Nat) : Turn P w K tg (Itr lo n) [it] it (fun i h => IsRangeIter h it (lo + (i : Nat) * 1) ((n : Int) - (i : Nat)) 1) where
  mem := by simp
  obj := fun i h st b hb => by
    have e : b = it := by simpa using hb
    subst e
    exact ⟨_, st, fun v z => by
      have z' : Data.fields _ = Data.cell v := z
      cases z'⟩
  keep := fun i h h' st k => k it (by simp) _ st
  item := by
    intro X hP hw hK hc i pins s σ H E I hf st hg
    subst hP hw hK
    obtain ⟨f0, f1, f2, f3, f4, f5⟩ := hf it (by simp)
    have W := Walks.range (prog := X.prog) (w := X.w) (I.ok.hd hc) it lo 1 n
    refine W.item i s _ _ hg st fun v h' tk hv st' kk => ?_
    obtain ⟨t, rfl⟩ := hv
    have I1 : Inv X pins σ H { s with heap := h', toks := tk } := I.turned (fun b o hb e => kk b o (by simpa using hb) e) f0 f1 f3 f4 f5
    refine ⟨_, rfl, go_of (s := { s with heap := h', toks := tk }) (n := "range_iterator") st' rfl rfl (by decide) ⟨.int (lo + i), H, I1, ⟨t, ?_⟩, ⟨rfl, rfl⟩, st', fun b hb => (hf b hb).1⟩⟩
    rw [Int.mul_one]
  done := by
    intro X hP hw hK hc i pins s σ H E I hf st hg
    subst hP hw hK
    obtain ⟨f0, f1, f2, f3, f4, f5⟩ := hf it (by simp)
    exact wpAny_pyNext_range_end (I.ok.hd hc) st (by have : n ≤ i := hg; omega) fun h' eb => ⟨rfl, I.turned (t' := s.toks) (fun b o hb e => eb b o hb e) f0 f1 f3 f4 f5⟩
  self := fun _ _ _ _ _ st h => wpAny_pyIter_rangeiter st h
end L2

namespace L2
open PySem PySem.Spec PyProof.Rows
section
variable {X : Cx} {tg : Expr}
def iList (K : PySem.W.Frag) (tl : TE) : TI := fun σ H R => tl σ H fun x H1 => ∃ a, x = .ref a ∧ (∃ xs, SqL K H1 a xs) ∧ R (Itl K a) H1
def iTup (K : PySem.W.Frag) (tl : TE) : TI := fun σ H R => tl σ H fun x H1 => ∃ a, x = .ref a ∧ (∃ xs, SqT K H1 a xs) ∧ R (Itt K a) H1
theorem pi_list {l : Expr} {tl : TE} (hl : PE X l tl) : PI X tg l (iList X.K tl) := by
  intro pins s σ H R I h
  refine thn (hl pins s σ H _ I h) fun v s1 ⟨x, H1, I1, r1, q1⟩ => ?_
  obtain ⟨a, e, ⟨xs, hq⟩, q⟩ := q1
  subst e
  cases r1
  obtain ⟨its, rv, p, hz⟩ := I1.list hq
  refine wpAny_pyIter_list p.isList ?_
  refine ⟨s1.heap.objs.size, [s1.heap.objs.size], _, _, H1, rfl, I1.kept (t' := s1.toks) fun b o e => Heap.get?_push_of_some _ e, turn_list a _, ⟨_, Heap.get?_push_size _ rfl, rfl, rfl⟩, fun b hb => ?_, q⟩
  have e : b = s1.heap.objs.size := by simpa using hb
  subst e
  exact I1.fpOk (Nat.le_refl _) (I1.hok.fresh (Nat.le_refl _))
theorem pi_tup {l : Expr} {tl : TE} (hl : PE X l tl) : PI X tg l (iTup X.K tl) := by
  intro pins s σ H R I h
  refine thn (hl pins s σ H _ I h) fun v s1 ⟨x, H1, I1, r1, q1⟩ => ?_
  obtain ⟨a, e, ⟨xs, hq⟩, q⟩ := q1
  subst e
  cases r1
  obtain ⟨its, rv, p, hz⟩ := I1.tuple hq
  refine wpAny_pyIter_tuple (show s1.heap.IsTuple a its.toArray from p) ?_
  refine ⟨s1.heap.objs.size, [s1.heap.objs.size], _, _, H1, rfl, I1.kept (t' := s1.toks) fun b o e => Heap.get?_push_of_some _ e, turn_tuple a _, ⟨_, Heap.get?_push_size _ rfl, rfl, rfl⟩, fun b hb => ?_, q⟩
  have e : b = s1.heap.objs.size := by simpa using hb
  subst e
  exact I1.fpOk (Nat.le_refl _) (I1.hok.fresh (Nat.le_refl _))

theorem range_it {pins : List (Addr × Obj)} {σ : St} {H : Hp} {s : Shared} {R : It → Hp → Prop} {E : Value → Shared → Prop} {lo hi : Int} {t u v : Tok} {tk : Nat} (I : Inv X pins σ H s) (h1 : -(2 ^ 62) ≤ lo) (h2 : lo < 2 ^ 62) (h3 : -(2 ^ 62) ≤ hi) (h4 : hi < 2 ^ 62)
    (q : R (Itr lo (hi - lo).toNat) H) : wpAny (model X.prog X.w) X.A (pyIter (.ref s.heap.objs.size)) (PIE X pins σ tg R) E { s with heap := s.heap.push { cls := .type "range", data := .fields #[.int lo t, .int hi u, .int 1 v] }, toks := tk } := by
  refine wpAny_pyIter_range (IsRange.new ..) (small_one h1 h2 h3 h4) ?_
  have I1 : Inv X pins σ H { s with heap := s.heap.push { cls := .type "range", data := .fields #[.int lo t, .int hi u, .int 1 v] }, toks := tk } := I.kept fun b o e => Heap.get?_push_of_some _ e
  refine ⟨(s.heap.push { cls := .type "range", data := .fields #[.int lo t, .int hi u, .int 1 v] }).objs.size, [(s.heap.push { cls := .type "range", data := .fields #[.int lo t, .int hi u, .int 1 v] }).objs.size], _, _, H, rfl,
    I1.kept (t' := tk) fun b o e => Heap.get?_push_of_some _ e, turn_range _ lo (hi - lo).toNat, ?_, fun b hb => ?_, q⟩
  · have e1 : lo + ((0 : Nat) : Int) * 1 = lo := by simp
    have e2 : (((hi - lo).toNat : Nat) : Int) - ((0 : Nat) : Int) = Builtin.Range.rangeSize lo hi 1 := by rw [rangeSize_one]; split <;> omega
    show IsRangeIter _ _ (lo + ((0 : Nat) : Int) * 1) ((((hi - lo).toNat : Nat) : Int) - ((0 : Nat) : Int)) 1
    rw [e1, e2]
    exact Heap.get?_push_size _ rfl
  · have e : b = (s.heap.push { cls := .type "range", data := .fields #[.int lo t, .int hi u, .int 1 v] }).objs.size := by simpa using hb
    subst e
    exact I1.fpOk (Nat.le_refl _) (I1.hok.fresh (Nat.le_refl _))
def iRng1 (ta : TA) : TI := fun σ H R => ta σ H fun vs H1 => ∃ j : Int, vs = [.int j] ∧ -(2 ^ 62) ≤ j ∧ j < 2 ^ 62 ∧ R (Itr 0 j.toNat) H1
def iRng2 (ta : TA) : TI := fun σ H R => ta σ H fun vs H1 => ∃ i j : Int, vs = [.int i, .int j] ∧ (-(2 ^ 62) ≤ i ∧ i < 2 ^ 62 ∧ -(2 ^ 62) ≤ j ∧ j < 2 ^ 62) ∧ R (Itr i (j - i).toNat) H1
theorem pi_range1 {a : Expr} {ta : TA} {p pos : Pos} (hg : Gl X "range") (hm : X.mg "range" = none) (ha : PA X [a] ta) (hs : starEach [a] X.env = [(false, eval a X.env)] := by rfl) : PI X tg (.Call (.Name "range" p) [a] [] pos) (iRng1 ta) := by
  intro pins s σ H R I h
  refine Call_ (ld_blt I hg hm boot_range (PyProof.Rows.callWith_type1 (thn (ha pos pins s σ H _ I h) fun us s1 ⟨vs, H1, I1, r1, q1⟩ => ?_) hs rfl))
  obtain ⟨j, e, q1, q2, q⟩ := q1
  subst e
  cases r1 with
  | cons r rr =>
    cases rr
    obtain ⟨t, rfl⟩ := r
    exact call_range_1 (range_it I1 (by omega) (by omega) q1 q2 (by simpa using q))
theorem pi_range2 {a b : Expr} {ta : TA} {p pos : Pos} (hg : Gl X "range") (hm : X.mg "range" = none) (ha : PA X [a, b] ta) (hs : starEach [a, b] X.env = [(false, eval a X.env), (false, eval b X.env)] := by rfl) (hs2 : starEach [b] X.env = [(false, eval b X.env)] := by rfl) :
    PI X tg (.Call (.Name "range" p) [a, b] [] pos) (iRng2 ta) := by
  intro pins s σ H R I h
  refine Call_ (ld_blt I hg hm boot_range (PyProof.Rows.callWith_type1 (thn (ha pos pins s σ H _ I h) fun us s1 ⟨vs, H1, I1, r1, q1⟩ => ?_) (by rw [hs, hs2]) (by rw [hs2]; rfl)))
  obtain ⟨i, j, e, ⟨q1, q2, q3, q4⟩, q⟩ := q1
  subst e
  cases r1 with
  | cons r rr =>
    cases rr with
    | cons r' rr =>
      cases rr
      obtain ⟨t, rfl⟩ := r
      obtain ⟨t', rfl⟩ := r'
      exact call_range_2 (range_it I1 q1 q2 q3 q4 q)



def tFor (wi : TI) (g : TG) (tb : TS) : TS := fun D σ H => wi σ H fun J H1 => ∃ W : Nat → Nat → St → Hp → Prop, (∃ m, W 0 m σ H1) ∧ ∀ i m σ H, W i m σ H →
  (J.stop i H ∧ D.nx σ H) ∨ (J.go i H ∧ ∃ N : St → Hp → Prop, (∀ σ' H', N σ' H' → ∃ m', m' < m ∧ W (i + 1) m' σ' H') ∧ ∀ x H', J.yld i H x H' → g x σ H' fun σ2 H2 => tb { D with nx := N, ct := N, bk := D.nx } σ2 H2)

def pinsAt (fp : List Addr) (h : Heap) : List (Addr × Obj) := fp.filterMap fun b => (h.get? b).map fun o => (b, o)
theorem mem_pinsAt {fp : List Addr} {h : Heap} {b : Addr} {o : Obj} (hb : b ∈ fp) (e : h.get? b = some o) : (b, o) ∈ pinsAt fp h := List.mem_filterMap.mpr ⟨b, hb, by rw [e]; rfl⟩
theorem of_pinsAt {fp : List Addr} {h : Heap} {p : Addr × Obj} (hp : p ∈ pinsAt fp h) : p.1 ∈ fp ∧ h.get? p.1 = some p.2 := by
  obtain ⟨b, hb, e⟩ := List.mem_filterMap.mp hp
  cases q : h.get? b with
  | none => rw [q] at e; cases e
  | some o =>
    rw [q] at e
    have e' : (b, o) = p := Option.some.inj e
    subst e'
    exact ⟨hb, q⟩
theorem Inv.pinned {pins : List (Addr × Obj)} {σ : St} {H : Hp} {s : Shared} {fp : List Addr} (I : Inv X pins σ H s) (hf : ∀ b ∈ fp, FpOk X pins H b) (ho : ∀ b ∈ fp, ∃ o, s.heap.get? b = some o ∧ ∀ v, o.data ≠ .cell v) : Inv X (pins ++ pinsAt fp s.heap) σ H s :=
  I.pins_of fun p hp => (List.mem_append.mp hp).elim (fun z => I.pin p (List.mem_append_right _ z)) fun z => by
    obtain ⟨hb, e⟩ := of_pinsAt z
    obtain ⟨f0, f1, f2, _⟩ := hf p.1 hb
    obtain ⟨o, e', d⟩ := ho p.1 hb
    rw [e] at e'; cases e'
    exact ⟨e, f0, f1, f2, d⟩
theorem Inv.unpinned {pins pl : List (Addr × Obj)} {σ : St} {H : Hp} {s : Shared} (I : Inv X (pins ++ pl) σ H s) : Inv X pins σ H s := I.pins_of fun p hp => I.pin p (List.mem_append_right _ (List.mem_append_left _ hp))
theorem ps_for {iter : Expr} {body : List Stmt} {wi : TI} {g : TG} {tb : TS} {pos : Pos} (hp : PassesOwn (model X.prog X.w) X.A X.env X.xe) (hc : X.calm = true) (hi : PI X tg iter wi) (hg : PG X tg g) (hb : PSs X body tb)
    (hs : ∀ x, foldedSetIterable iter X.env x = pure x := by intro _; rfl) : PS X (.For tg iter body [] pos) (tFor wi g tb) := by
  intro pins s σ H D I h
  refine wpAny_For (thn (hi pins s σ H _ I h) fun v s1 h1 => thn h1 fun itv s2 h2 => ?_) hs
  obtain ⟨it, fp, tn, J, H2, e, I2, T, st2, f2, W, ⟨m0, w0⟩, turn⟩ := h2
  subst e
  -- what stays true of the iterator's objects through the loop
  have stat : ∀ {H' : Hp}, (∀ b ∈ fp, H' b = none) → ∀ b ∈ fp, FpOk X pins H' b := fun hn b hb => ⟨hn b hb, (f2 b hb).2⟩
  refine codeAny_forLoop_any (fun n s' => ∃ i σ' H', Inv X pins σ' H' s' ∧ tn i s'.heap ∧ (∀ b ∈ fp, H' b = none) ∧ W i n σ' H') ?_ m0 ⟨0, σ, H2, I2, st2, fun b hb => (f2 b hb).1, w0⟩
  rintro n s3 ⟨i, σ3, H3, I3, st3, fr3, w3⟩
  rcases turn i n σ3 H3 w3 with ⟨stop, qn⟩ | ⟨go, N, hN, step⟩
  · refine wpAny_passesOwn hp (thn (T.done X rfl rfl rfl hc i pins s3 σ3 H3 X.xe I3 (stat fr3) st3 stop) fun r s4 ⟨hr, I4⟩ => ?_)
    subst hr
    exact wpAny_execs_nil ⟨σ3, H3, I4, qn⟩
  · refine wpAny_passesOwn hp (thn (T.item X rfl rfl rfl hc i pins s3 σ3 H3 X.xe I3 (stat fr3) st3 go) fun r s4 ⟨u, hr, h4⟩ => ?_)
    subst hr
    refine wpAny_passesOwn hp (thn h4 fun _ s5 ⟨x, H5, I5, r5, y5, st5, fr5⟩ => ?_)
    have I5' := I5.pinned (stat fr5) (T.obj _ _ st5)
    refine wpAny_passesOwn hp (thn (hg _ s5 σ3 H5 x u _ I5' r5 (step x H5 y5)) fun _ s6 ⟨σ6, H6, I6, q6⟩ => ?_)
    refine wpAny_passesOwn hp (thn (hb _ s6 σ6 H6 _ I6 q6) fun f s7 q7 => ?_)
    have again : ∀ {σ7 : St} {H7 : Hp}, Inv X (pins ++ pinsAt fp s5.heap) σ7 H7 s7 → N σ7 H7 → ∃ m, m < n ∧ ∃ i σ' H', Inv X pins σ' H' s7 ∧ tn i s7.heap ∧ (∀ b ∈ fp, H' b = none) ∧ W i m σ' H' := fun {σ7 H7} I7 n7 => by
      obtain ⟨m', hm, w7⟩ := hN σ7 H7 n7
      refine ⟨m', hm, i + 1, σ7, H7, I7.unpinned, T.keep _ _ _ st5 fun b hb o e => (I7.pin (b, o) (List.mem_append_right _ (List.mem_append_right _ (mem_pinsAt hb e)))).1, fun b hb => ?_, w7⟩
      obtain ⟨o, e, d⟩ := T.obj _ _ st5 b hb
      exact (I7.pin (b, o) (List.mem_append_right _ (List.mem_append_right _ (mem_pinsAt hb e)))).2.1
    cases f with
    | next => obtain ⟨σ7, H7, I7, n7⟩ := q7; exact again I7 n7
    | cont => obtain ⟨σ7, H7, I7, n7⟩ := q7; exact again I7 n7
    | brk => obtain ⟨σ7, H7, I7, q7⟩ := q7; exact ⟨σ7, H7, I7.unpinned, q7⟩
    | ret v => obtain ⟨x7, σ7, H7, I7, r7, q7⟩ := q7; exact ⟨x7, σ7, H7, I7.unpinned, r7, q7⟩
end



theorem for_tup {K : PySem.W.Frag} {a : Addr} {xs : List V} {g : TG} {tb : TS} {D : Ends} {σ : St} {H : Hp} (Pv : Nat → St → Hp → Prop) (h0 : Pv 0 σ H) (hl : ∀ i σ H, i ≤ xs.length → Pv i σ H → SqT K H a xs)
    (hs : ∀ i x σ H, xs[i]? = some x → Pv i σ H → g x σ H fun σ2 H2 => tb { D with nx := Pv (i + 1), ct := Pv (i + 1), bk := D.nx } σ2 H2) (hd : ∀ σ H, Pv xs.length σ H → D.nx σ H) :
    ∃ W : Nat → Nat → St → Hp → Prop, (∃ m, W 0 m σ H) ∧ ∀ i m σ H, W i m σ H →
      ((Itt K a).stop i H ∧ D.nx σ H) ∨ ((Itt K a).go i H ∧ ∃ N : St → Hp → Prop, (∀ σ' H', N σ' H' → ∃ m', m' < m ∧ W (i + 1) m' σ' H') ∧ ∀ x H', (Itt K a).yld i H x H' → g x σ H' fun σ2 H2 => tb { D with nx := N, ct := N, bk := D.nx } σ2 H2) := by
  refine ⟨fun i m σ H => m = xs.length - i ∧ i ≤ xs.length ∧ Pv i σ H, ⟨xs.length, by simp, Nat.zero_le _, h0⟩, ?_⟩
  rintro i m σ H ⟨rfl, hi, p⟩
  have q := hl i σ H hi p
  by_cases hlt : i < xs.length
  · refine .inr ⟨⟨xs, xs[i], q, by simp [hlt]⟩, Pv (i + 1), fun σ' H' p' => ⟨xs.length - (i + 1), by omega, rfl, hlt, p'⟩, fun x H' y => ?_⟩
    obtain ⟨e, y⟩ := y
    subst e
    exact hs i x σ _ (y xs q) p
  · have e : i = xs.length := by omega
    subst e
    exact .inl ⟨⟨xs, q, Nat.le_refl _⟩, hd σ H p⟩
theorem for_range {lo : Int} {n : Nat} {g : TG} {tb : TS} {D : Ends} {σ : St} {H : Hp} (Pv : Nat → St → Hp → Prop) (h0 : Pv 0 σ H)
    (hs : ∀ i σ H, i < n → Pv i σ H → g (.int (lo + i)) σ H fun σ2 H2 => tb { D with nx := Pv (i + 1), ct := Pv (i + 1), bk := D.nx } σ2 H2) (hd : ∀ σ H, Pv n σ H → D.nx σ H) :
    ∃ W : Nat → Nat → St → Hp → Prop, (∃ m, W 0 m σ H) ∧ ∀ i m σ H, W i m σ H →
      ((Itr lo n).stop i H ∧ D.nx σ H) ∨ ((Itr lo n).go i H ∧ ∃ N : St → Hp → Prop, (∀ σ' H', N σ' H' → ∃ m', m' < m ∧ W (i + 1) m' σ' H') ∧ ∀ x H', (Itr lo n).yld i H x H' → g x σ H' fun σ2 H2 => tb { D with nx := N, ct := N, bk := D.nx } σ2 H2) := by
  refine ⟨fun i m σ H => m = n - i ∧ i ≤ n ∧ Pv i σ H, ⟨n, by simp, Nat.zero_le _, h0⟩, ?_⟩
  rintro i m σ H ⟨rfl, hi, p⟩
  by_cases hlt : i < n
  · refine .inr ⟨hlt, Pv (i + 1), fun σ' H' p' => ⟨n - (i + 1), by omega, rfl, hlt, p'⟩, fun x H' y => ?_⟩
    obtain ⟨e, y⟩ := y
    subst e y
    exact hs i σ _ hlt p
  · have e : i = n := by omega
    subst e
    exact .inl ⟨Nat.le_refl _, hd σ H p⟩

end L2

namespace L2
open PySem PySem.Spec PyProof.Rows

abbrev R2 := V → V → Hp → VK → Prop

def OpR (X : Cx) (f : Value → Value → Sem Value) (r : R2) : Prop :=
  ∀ (pins : List (Addr × Obj)) (s : Shared) (σ : St) (H : Hp) (x y : V) (v u : Value) (Q : VK), Inv X pins σ H s → RelV x v → RelV y u → r x y H Q →
    wpAny (model X.prog X.w) X.A (f v u) (EP X pins σ Q) X.xe s

def UnR (X : Cx) (f : Value → Sem Value) (r : V → Hp → VK → Prop) : Prop :=
  ∀ (pins : List (Addr × Obj)) (s : Shared) (σ : St) (H : Hp) (x : V) (v : Value) (Q : VK), Inv X pins σ H s → RelV x v → r x H Q →
    wpAny (model X.prog X.w) X.A (f v) (EP X pins σ Q) X.xe s

def CallR (X : Cx) (f : Value) (r : List V → Hp → VK → Prop) : Prop :=
  ∀ (pins : List (Addr × Obj)) (s : Shared) (σ : St) (H : Hp) (xs : List V) (us : List Value) (Q : VK), Inv X pins σ H s → Vals xs us → r xs H Q →
    wpAny (model X.prog X.w) X.A (call f us) (EP X pins σ Q) X.xe s

def TruR (X : Cx) (r : V → Hp → (Bool → Hp → Prop) → Prop) : Prop :=
  ∀ (pins : List (Addr × Obj)) (s : Shared) (σ : St) (H : Hp) (x : V) (v : Value) (Q : Bool → Hp → Prop), Inv X pins σ H s → RelV x v → r x H Q →
    wpAny (model X.prog X.w) X.A (truthy v) (TP X pins σ Q) X.xe s

def tOp (r : R2) (ta tb : TE) : TE := fun σ H Q => ta σ H fun x H1 => tb σ H1 fun y H2 => r x y H2 Q
def tUn (r : V → Hp → VK → Prop) (ta : TE) : TE := fun σ H Q => ta σ H fun x H1 => r x H1 Q

def rI (C : Int → Int → Prop) (g : Int → Int → V) : R2 := fun x y H Q => ∃ i j, x = .int i ∧ y = .int j ∧ C i j ∧ Q (g i j) H
def rI0 (g : Int → Int → V) : R2 := fun x y H Q => ∃ i j, x = .int i ∧ y = .int j ∧ Q (g i j) H
def rU (g : Int → V) : V → Hp → VK → Prop := fun x H Q => ∃ i, x = .int i ∧ Q (g i) H

section
variable {X : Cx} {a b c : Expr} {ta tb tc : TE} {pos : Pos}

theorem binT (ha : PE X a ta) (hb : PE X b tb) {pins : List (Addr × Obj)} {s : Shared} {σ : St} {H : Hp} {R : V → V → Hp → Prop} (I : Inv X pins σ H s)
    (h : ta σ H fun x H1 => tb σ H1 fun y H2 => R x y H2) {Q : Value → Shared → Prop} {f : Value → Value → Sem Value}
    (hf : ∀ v u s2 x y H2, Inv X pins σ H2 s2 → RelV x v → RelV y u → R x y H2 → wpAny (model X.prog X.w) X.A (f v u) Q X.xe s2) :
    wpAny (model X.prog X.w) X.A (eval a X.env) (fun v s₁ => wpAny (model X.prog X.w) X.A (eval b X.env) (fun u s₂ => wpAny (model X.prog X.w) X.A (f v u) Q X.xe s₂) X.xe s₁) X.xe s := by
  refine thn (ha pins s σ H _ I h) fun v s1 ⟨x, H1, I1, r1, q1⟩ => ?_
  refine thn (hb pins s1 σ H1 _ I1 q1) fun u s2 ⟨y, H2, I2, r2, q2⟩ => ?_
  exact hf v u s2 x y H2 I2 r1 r2 q2

theorem pe_op {op : Operator} {r : R2} (ho : OpR X (binaryOp op) r) (ha : PE X a ta) (hb : PE X b tb) : PE X (.BinOp a op b pos) (tOp r ta tb) := by
  intro pins s σ H Q I h
  exact wpAny_BinOp (binT ha hb I h fun v u s2 x y H2 I2 rx ry q => ho pins s2 σ H2 x y v u Q I2 rx ry q)
theorem pe_un {op : UnaryOp} {r : V → Hp → VK → Prop} (ho : UnR X (unaryOp op) r) (ha : PE X a ta) : PE X (.UnaryOp op a pos) (tUn r ta) := by
  intro pins s σ H Q I h
  exact UnaryOp_ (thn (ha pins s σ H _ I h) fun v s1 ⟨x, H1, I1, r1, q1⟩ => ho pins s1 σ H1 x v Q I1 r1 q1)

theorem opI {f : Value → Value → Sem Value} {C : Int → Int → Prop} {g : Int → Int → Int}
    (rule : ∀ (i j : Int) (t u : Tok) (s : Shared) (Q : Value → Shared → Prop) (E : Value → Shared → Prop), C i j → Q (.int (g i j) s.toks) { s with toks := s.toks + 1 } → wpAny (model X.prog X.w) X.A (f (.int i t) (.int j u)) Q E s) :
    OpR X f (rI C fun i j => .int (g i j)) := by
  intro pins s σ H x y v u Q I rx ry h
  obtain ⟨i, j, rfl, rfl, hc, q⟩ := h
  obtain ⟨t, rfl⟩ := rx
  obtain ⟨t', rfl⟩ := ry
  exact rule i j t t' s _ _ hc ⟨.int (g i j), H, I.tok _, ⟨_, rfl⟩, q⟩
theorem opI0 {f : Value → Value → Sem Value} {g : Int → Int → Int}
    (rule : ∀ (i j : Int) (t u : Tok) (s : Shared) (Q : Value → Shared → Prop) (E : Value → Shared → Prop), Q (.int (g i j) s.toks) { s with toks := s.toks + 1 } → wpAny (model X.prog X.w) X.A (f (.int i t) (.int j u)) Q E s) :
    OpR X f (rI0 fun i j => .int (g i j)) := by
  intro pins s σ H x y v u Q I rx ry h
  obtain ⟨i, j, rfl, rfl, q⟩ := h
  obtain ⟨t, rfl⟩ := rx
  obtain ⟨t', rfl⟩ := ry
  exact rule i j t t' s _ _ ⟨.int (g i j), H, I.tok _, ⟨_, rfl⟩, q⟩
theorem opB0 {f : Value → Value → Sem Value} {g : Int → Int → Bool}
    (rule : ∀ (i j : Int) (t u : Tok) (s : Shared) (Q : Value → Shared → Prop) (E : Value → Shared → Prop), Q (.bool (g i j)) s → wpAny (model X.prog X.w) X.A (f (.int i t) (.int j u)) Q E s) :
    OpR X f (rI0 fun i j => .bl (g i j)) := by
  intro pins s σ H x y v u Q I rx ry h
  obtain ⟨i, j, rfl, rfl, q⟩ := h
  obtain ⟨t, rfl⟩ := rx
  obtain ⟨t', rfl⟩ := ry
  exact rule i j t t' s _ _ ⟨.bl (g i j), H, I, rfl, q⟩

def CDiv (i j : Int) : Prop := 0 < j ∧ j < 1073741824
def CPow (i j : Int) : Prop := 0 ≤ j ∧ j ≤ 1000000 ∧ i.natAbs < 2 ^ 64
def CMul (i j : Int) : Prop := (-(2 ^ 64) < i ∧ i < 2 ^ 64) ∨ (-(2 ^ 64) < j ∧ j < 2 ^ 64)
theorem CMul.ok {i j : Int} (h : CMul i j) : IntMulOk i j := by
  rcases h with ⟨h1, h2⟩ | ⟨h1, h2⟩
  · exact .of_left (intBits_le_64 h1 h2)
  · exact .of_right (intBits_le_64 h1 h2)
theorem op_add : OpR X (binaryOp .Add) (rI0 fun i j => .int (i + j)) := opI0 fun _ _ _ _ _ _ _ q => add_int q
theorem op_sub : OpR X (binaryOp .Sub) (rI0 fun i j => .int (i - j)) := opI0 fun _ _ _ _ _ _ _ q => sub_int q
theorem op_fdiv : OpR X (binaryOp .FloorDiv) (rI CDiv fun i j => .int (i / j)) := opI fun i j _ _ _ _ _ hc q => by
  have h1 : (0 : Int) < j := hc.1
  have h2 : j < 1073741824 := hc.2
  exact floordiv_int (by omega) (by rw [Int.fdiv_eq_ediv_of_nonneg i (by omega)]; exact q) (.inl (PyProof.noPylong_small (by omega)))
theorem op_mod : OpR X (binaryOp .Mod) (rI (fun _ j => 0 < j) fun i j => .int (i % j)) := opI fun i j _ _ _ _ _ hc q => by
  have h1 : (0 : Int) < j := hc
  exact mod_int' (by omega) (by rw [Int.fmod_eq_emod_of_nonneg i (by omega)]; exact q)
theorem op_pow : OpR X (binaryOp .Pow) (rI CPow fun i j => .int (i ^ j.toNat)) := opI fun _ _ _ _ _ _ _ hc q => pow_int_small hc.1 hc.2.1 hc.2.2 q
theorem unI {f : Value → Sem Value} {g : Int → Int}
    (rule : ∀ (i : Int) (t : Tok) (s : Shared) (Q : Value → Shared → Prop) (E : Value → Shared → Prop), Q (.int (g i) s.toks) { s with toks := s.toks + 1 } → wpAny (model X.prog X.w) X.A (f (.int i t)) Q E s) :
    UnR X f (rU fun i => .int (g i)) := by
  intro pins s σ H x v Q I rx h
  obtain ⟨i, rfl, q⟩ := h
  obtain ⟨t, rfl⟩ := rx
  exact rule i t s _ _ ⟨.int (g i), H, I.tok _, ⟨_, rfl⟩, q⟩
theorem un_neg : UnR X (unaryOp .USub) (rU fun i => .int (-i)) := unI fun _ _ _ _ _ q => neg_int q
end



def scal : V → V → Bool
  | .non, .non => true | .non, .int _ => true | .int _, .non => true | .non, .bl _ => true | .bl _, .non => true | .non, .str _ => true | .str _, .non => true
  | .int _, .int _ => true | .bl _, .bl _ => true | .str _, .str _ => true | .byt _, .byt _ => true
  | .int _, .str _ => true | .str _, .int _ => true | .bl _, .str _ => true | .str _, .bl _ => true
  | _, _ => false
def rEq : R2 := fun x y H Q => scal x y = true ∧ Q (.bl (decide (x = y))) H
def rNe : R2 := fun x y H Q => scal x y = true ∧ Q (.bl (!decide (x = y))) H

theorem dec_int {i j : Int} : decide (V.int i = V.int j) = (i == j) := by
  rw [Bool.eq_iff_iff]
  simp
theorem dec_bl {i j : Bool} : decide (V.bl i = V.bl j) = (i == j) := by
  rw [Bool.eq_iff_iff]
  simp
theorem dec_str {i j : Str} : decide (V.str i = V.str j) = (i == j) := by
  rw [Bool.eq_iff_iff]
  simp
theorem dec_byt {i j : Array UInt8} : decide (V.byt i = V.byt j) = (i.toList == j.toList) := by
  rw [Bool.eq_iff_iff]
  cases i
  cases j
  simp

section
variable {X : Cx} {a b c : Expr} {ta tb tc : TE} {pos : Pos}
theorem fin_bl {pins : List (Addr × Obj)} {σ : St} {H : Hp} {s : Shared} {Q : VK} {k k' : Bool} (I : Inv X pins σ H s) (q : Q (.bl k) H) (e : k = k') : EP X pins σ Q (.bool k') s := by
  subst e
  exact ⟨.bl k, H, I, rfl, q⟩
theorem op_eq : OpR X (compareOp .Eq) rEq := by
  intro pins s σ H x y v u Q I rx ry h
  obtain ⟨hs, q⟩ := h
  cases x with
  | non =>
    cases rx
    cases y with
    | non => cases ry; exact PySem.EqNone.eq_none_none (fin_bl I q (by simp))
    | bl j => cases ry; exact PySem.EqNone.eq_none_bool (fin_bl I q (by simp))
    | int j => obtain ⟨t', rfl⟩ := ry; exact PySem.EqNone.eq_none_int (fin_bl I q (by simp))
    | str j => obtain ⟨t', rfl⟩ := ry; exact PySem.EqNone.eq_none_str (fin_bl I q (by simp))
    | _ => exact absurd (show false = true from hs) Bool.false_ne_true
  | bl i =>
    cases rx
    cases y with
    | non => cases ry; exact PySem.EqNone.eq_bool_none (fin_bl I q (by simp))
    | bl j => cases ry; exact eq_bool (fin_bl I q dec_bl)
    | str j => obtain ⟨t', rfl⟩ := ry; exact PySem.EqMixed.eq_bool_str (fin_bl I q (by simp))
    | _ => exact absurd (show false = true from hs) Bool.false_ne_true
  | int i =>
    obtain ⟨t, rfl⟩ := rx
    cases y with
    | non => cases ry; exact PySem.EqNone.eq_int_none (fin_bl I q (by simp))
    | int j => obtain ⟨t', rfl⟩ := ry; exact eq_int (fin_bl I q dec_int)
    | str j => obtain ⟨t', rfl⟩ := ry; exact PySem.EqMixed.eq_int_str (fin_bl I q (by simp))
    | _ => exact absurd (show false = true from hs) Bool.false_ne_true
  | str i =>
    obtain ⟨t, rfl⟩ := rx
    cases y with
    | non => cases ry; exact PySem.EqNone.eq_str_none (fin_bl I q (by simp))
    | bl j => cases ry; exact PySem.EqMixed.eq_str_bool (fin_bl I q (by simp))
    | int j => obtain ⟨t', rfl⟩ := ry; exact PySem.EqMixed.eq_str_int (fin_bl I q (by simp))
    | str j => obtain ⟨t', rfl⟩ := ry; exact eq_str (fin_bl I q dec_str)
    | _ => exact absurd (show false = true from hs) Bool.false_ne_true
  | byt i =>
    obtain ⟨t, rfl⟩ := rx
    cases y with
    | byt j => obtain ⟨t', rfl⟩ := ry; exact PySem.W.eq_bytes (fin_bl I q dec_byt)
    | _ => exact absurd (show false = true from hs) Bool.false_ne_true
  | _ => cases y <;> exact absurd (show false = true from hs) Bool.false_ne_true
theorem op_ne : OpR X (compareOp .NotEq) rNe := by
  intro pins s σ H x y v u Q I rx ry h
  obtain ⟨hs, q⟩ := h
  cases x with
  | non =>
    cases rx
    cases y with
    | non => cases ry; exact PySem.EqNone.ne_none_none (fin_bl I q (by simp))
    | bl j => cases ry; exact PySem.EqNone.ne_none_bool (fin_bl I q (by simp))
    | int j => obtain ⟨t', rfl⟩ := ry; exact PySem.EqNone.ne_none_int (fin_bl I q (by simp))
    | str j => obtain ⟨t', rfl⟩ := ry; exact PySem.EqNone.ne_none_str (fin_bl I q (by simp))
    | _ => exact absurd (show false = true from hs) Bool.false_ne_true
  | bl i =>
    cases rx
    cases y with
    | non => cases ry; exact PySem.EqNone.ne_bool_none (fin_bl I q (by simp))
    | bl j => cases ry; exact ne_bool (fin_bl I q (congrArg not dec_bl))
    | str j => obtain ⟨t', rfl⟩ := ry; exact PySem.EqMixed.ne_bool_str (fin_bl I q (by simp))
    | _ => exact absurd (show false = true from hs) Bool.false_ne_true
  | int i =>
    obtain ⟨t, rfl⟩ := rx
    cases y with
    | non => cases ry; exact PySem.EqNone.ne_int_none (fin_bl I q (by simp))
    | int j => obtain ⟨t', rfl⟩ := ry; exact ne_int (fin_bl I q (congrArg not dec_int))
    | str j => obtain ⟨t', rfl⟩ := ry; exact PySem.EqMixed.ne_int_str (fin_bl I q (by simp))
    | _ => exact absurd (show false = true from hs) Bool.false_ne_true
  | str i =>
    obtain ⟨t, rfl⟩ := rx
    cases y with
    | non => cases ry; exact PySem.EqNone.ne_str_none (fin_bl I q (by simp))
    | bl j => cases ry; exact PySem.EqMixed.ne_str_bool (fin_bl I q (by simp))
    | int j => obtain ⟨t', rfl⟩ := ry; exact PySem.EqMixed.ne_str_int (fin_bl I q (by simp))
    | str j => obtain ⟨t', rfl⟩ := ry; exact ne_str (fin_bl I q (congrArg not dec_str))
    | _ => exact absurd (show false = true from hs) Bool.false_ne_true
  | byt i =>
    obtain ⟨t, rfl⟩ := rx
    cases y with
    | byt j => obtain ⟨t', rfl⟩ := ry; exact PySem.W.ne_bytes (fin_bl I q (congrArg not dec_byt))
    | _ => exact absurd (show false = true from hs) Bool.false_ne_true
  | _ => cases y <;> exact absurd (show false = true from hs) Bool.false_ne_true

theorem op_lt : OpR X (compareOp .Lt) (rI0 fun i j => .bl (decide (i < j))) := opB0 fun _ _ _ _ _ _ _ q => lt_int q
theorem op_le : OpR X (compareOp .LtE) (rI0 fun i j => .bl (decide (i ≤ j))) := opB0 fun _ _ _ _ _ _ _ q => le_int q
theorem op_gt : OpR X (compareOp .Gt) (rI0 fun i j => .bl (decide (j < i))) := opB0 fun _ _ _ _ _ _ _ q => gt_int q
theorem OpR.or {f : Value → Value → Sem Value} {r r' : R2} (h : OpR X f r) (h' : OpR X f r') : OpR X f (fun x y H Q => r x y H Q ∨ r' x y H Q) := by
  intro pins s σ H x y v u Q I rx ry q
  rcases q with q | q
  · exact h pins s σ H x y v u Q I rx ry q
  · exact h' pins s σ H x y v u Q I rx ry q

theorem nomark (b : Expr) {op : CmpOp} (h : op ≠ .In := by decide) (h2 : op ≠ .NotIn := by decide) : behindInMarks op b = false := by
  have e1 : (op == CmpOp.In) = false := by cases op <;> first | rfl | exact absurd rfl h
  have e2 : (op == CmpOp.NotIn) = false := by cases op <;> first | rfl | exact absurd rfl h2
  cases b <;> simp [behindInMarks, e1, e2]

theorem pe_cmpR {op : CmpOp} {r : R2} (ho : OpR X (compareOp op) r) (ha : PE X a ta) (hb : PE X b tb) (hm : behindInMarks op b = false) : PE X (.Compare a [op] [b] pos) (tOp r ta tb) := by
  intro pins s σ H Q I h
  exact wpAny_Compare1 (binT ha hb I h fun v u s2 x y H2 I2 rx ry q => ho pins s2 σ H2 x y v u Q I2 rx ry q) hm

def tTest (t : TE) : TT := fun σ H Q => t σ H fun x H' => ∃ k, x = .bl k ∧ Q k H'
theorem pt_cmpR {op : CmpOp} {r : R2} (ho : OpR X (compareOp op) r) (ha : PE X a ta) (hb : PE X b tb) (hm : behindInMarks op b = false) : PT X (.Compare a [op] [b] pos) (tTest (tOp r ta tb)) := by
  intro pins s σ H Q I h
  refine wpAny_isTrue_Compare1 (thn (ha pins s σ H _ I h) fun v s1 ⟨x, H1, I1, r1, q1⟩ => thn (hb pins s1 σ H1 _ I1 q1) fun u s2 ⟨y, H2, I2, r2, q2⟩ =>
    thn (ho pins s2 σ H2 x y v u _ I2 r1 r2 q2) fun c s3 ⟨z, H3, I3, r3, k, e, q3⟩ => ?_) hm
  subst e
  cases r3
  exact wpAny_truthy_bool ⟨H3, I3, q3⟩

def tChain (r r' : R2) (ta tb tc : TE) : TE := fun σ H Q => ta σ H fun x H1 => tb σ H1 fun y H2 => r x y H2 fun z H3 => ∃ k, z = .bl k ∧
  (if k = true then tc σ H3 fun w' H4 => r' y w' H4 Q else Q (.bl false) H3)
theorem pt_chain {op op' : CmpOp} {r r' : R2} (ho : OpR X (compareOp op) r) (ho' : OpR X (compareOp op') r') (ha : PE X a ta) (hb : PE X b tb) (hc : PE X c tc)
    (hm : lastMarks [op, op'] [b, c] = false := by with_unfolding_all rfl) : PT X (.Compare a [op, op'] [b, c] pos) (tTest (tChain r r' ta tb tc)) := by
  intro pins s σ H Q I h
  refine isTrue_chain (thn (ha pins s σ H _ I h) fun v s1 ⟨x, H1, I1, r1, q1⟩ => test_link (thn (hb pins s1 σ H1 _ I1 q1) fun u s2 ⟨y, H2, I2, r2, q2⟩ =>
    thn (ho pins s2 σ H2 x y v u _ I2 r1 r2 q2) fun d s3 ⟨z, H3, I3, r3, k, e, q3⟩ => ?_)) hm
  subst e
  cases r3
  refine wpAny_truthy_bool ?_
  cases k with
  | false =>
    obtain ⟨k', e', q'⟩ := q3
    cases e'
    exact ite_ff ⟨H3, I3, q'⟩
  | true =>
    refine ite_tt (test_last (thn (hc pins s3 σ H3 _ I3 q3) fun w' s4 ⟨z', H4, I4, r4, q4⟩ => thn (ho' pins s4 σ H4 y z' u w' _ I4 r2 r4 q4) fun d' s5 ⟨z2, H5, I5, r5, k2, e2, q5⟩ => ?_))
    subst e2
    cases r5
    exact wpAny_truthy_bool ⟨H5, I5, q5⟩



def TruV (K : PySem.W.Frag) (x : V) (H : Hp) (k : Bool) : Prop :=
  match x with
  | .non => k = false
  | .bl b => k = b
  | .int i => k = (i != 0)
  | .str y => y.length ≤ sizeLine ∧ k = ((y.length : Int) != 0)
  | .byt y => y.size ≤ sizeLine ∧ k = ((y.size : Int) != 0)
  | .ref p => (∃ xs, SqL K H p xs ∧ k = !xs.isEmpty) ∨ (∃ xs, SqT K H p xs ∧ k = !xs.isEmpty) ∨ ∃ kvs, H p = some (.dK kvs) ∧ k = !kvs.isEmpty
  | _ => False
theorem isEmpty_kv {κ : Type} {kvs : List (κ × V)} {vs : List (κ × Value)} (r : KV kvs vs) : (!vs.isEmpty) = !kvs.isEmpty := by
  cases r <;> rfl
theorem isEmpty_of {xs : List V} {its : List Value} (r : Vals xs its) : (!its.toArray.isEmpty) = !xs.isEmpty := by
  cases r <;> simp
theorem line63 : (sizeLine : Nat) < 2 ^ 63 := by rw [sizeLine_eq]; decide
theorem tru_ok : TruR X (fun x H Q => ∃ k, TruV X.K x H k ∧ Q k H) := by
  intro pins s σ H x v Q I rx h
  obtain ⟨k, e, q⟩ := h
  have hl := line63
  have hs : sizeLine = 16777216 := sizeLine_eq
  cases x with
  | non =>
    cases rx
    have e' : k = false := e
    subst e'
    exact truthy_none ⟨H, I, q⟩
  | bl b =>
    cases rx
    have e' : k = b := e
    subst e'
    exact wpAny_truthy_bool ⟨H, I, q⟩
  | int i =>
    obtain ⟨t, rfl⟩ := rx
    have e' : k = (i != 0) := e
    subst e'
    exact PySem.P.truthy_int ⟨H, I, q⟩
  | str y =>
    obtain ⟨t, rfl⟩ := rx
    obtain ⟨hy, e'⟩ : y.length ≤ sizeLine ∧ k = ((y.length : Int) != 0) := e
    subst e'
    exact PySem.P.truthy_str (by omega) ⟨H, I.tok _, q⟩
  | byt y =>
    obtain ⟨t, rfl⟩ := rx
    obtain ⟨hy, e'⟩ : y.size ≤ sizeLine ∧ k = ((y.size : Int) != 0) := e
    subst e'
    exact PySem.W.truthy_bytes (by omega) ⟨H, I.tok _, q⟩
  | ref p =>
    cases rx
    have e' : (∃ xs, SqL X.K H p xs ∧ k = !xs.isEmpty) ∨ (∃ xs, SqT X.K H p xs ∧ k = !xs.isEmpty) ∨ ∃ kvs, H p = some (.dK kvs) ∧ k = !kvs.isEmpty := e
    rcases e' with ⟨xs, hx, e'⟩ | ⟨xs, hx, e'⟩ | ⟨kvs, hx, e'⟩
    · subst e'
      obtain ⟨its, r, pl, hz⟩ := I.list hx
      have hlen := r.length
      exact wpAny_truthy_list pl.isList (by simp only [List.size_toArray]; omega) ⟨H, I.tok _, by rw [isEmpty_of r]; exact q⟩
    · subst e'
      obtain ⟨its, r, pl, hz⟩ := I.tuple hx
      have hlen := r.length
      exact truthy_tuple pl (by simp only [List.size_toArray]; omega) ⟨H, I.tok _, by rw [isEmpty_of r]; exact q⟩
    · subst e'
      obtain ⟨hz, hS, vs, r, m⟩ : kvs.length ≤ sizeLine ∧ (p == sysModules) = false ∧ ∃ vs, KV kvs vs ∧ s.heap.DictOf (mixKind X.prog X.w) p vs := I.hok p _ hx
      have hlen : kvs.length = vs.length := Paired.length r
      exact wpAny_truthy_dict hS m (by omega) ⟨H, I.tok _, by rw [isEmpty_kv r]; exact q⟩
  | _ => exact (show False from e).elim

theorem pt_truth (ha : PE X a ta) (he : ∀ whole, isTrue a X.env whole = (do let v ← whole; standAt a.pos; holding [v] (truthy v))) :
    PT X a (fun σ H Q => ta σ H fun x H' => ∃ k, TruV X.K x H' k ∧ Q k H') := by
  intro pins s σ H Q I h
  exact isTrue_plain (thn (ha pins s σ H _ I h) fun v s1 ⟨x, H1, I1, r1, q1⟩ => tru_ok pins s1 σ H1 x v Q I1 r1 q1) (he _)


theorem vals1 {x : V} {us : List Value} (r : Vals [x] us) : ∃ u, us = [u] ∧ RelV x u := by
  cases r with
  | cons r1 r2 => cases r2; exact ⟨_, rfl, r1⟩
theorem vals2 {x y : V} {us : List Value} (r : Vals [x, y] us) : ∃ u w', us = [u, w'] ∧ RelV x u ∧ RelV y w' := by
  cases r with
  | cons r1 r2 =>
    cases r2 with
    | cons r3 r4 => cases r4; exact ⟨_, _, rfl, r1, r3⟩
theorem call_max2 (hc : X.calm = true) : CallR X (.builtin "max") (fun xs H Q => ∃ i j, xs = [.int i, .int j] ∧ Q (.int (if j > i then j else i)) H) := by
  intro pins s σ H xs us Q I r h
  obtain ⟨i, j, rfl, q⟩ := h
  obtain ⟨u, w', rfl, ⟨t, rfl⟩, ⟨t', rfl⟩⟩ := vals2 r
  refine max_two_ints (I.ok.hd hc) fun h' tk k => ⟨_, H, I.kept k, ?_, q⟩
  by_cases hj : j > i
  · rw [if_pos hj, if_pos hj]; exact ⟨_, rfl⟩
  · rw [if_neg hj, if_neg hj]; exact ⟨_, rfl⟩
theorem call_min2 (hc : X.calm = true) : CallR X (.builtin "min") (fun xs H Q => ∃ i j, xs = [.int i, .int j] ∧ Q (.int (if j < i then j else i)) H) := by
  intro pins s σ H xs us Q I r h
  obtain ⟨i, j, rfl, q⟩ := h
  obtain ⟨u, w', rfl, ⟨t, rfl⟩, ⟨t', rfl⟩⟩ := vals2 r
  refine min_two_ints (I.ok.hd hc) fun h' tk k => ⟨_, H, I.kept k, ?_, q⟩
  by_cases hj : j < i
  · rw [if_pos hj, if_pos hj]; exact ⟨_, rfl⟩
  · rw [if_neg hj, if_neg hj]; exact ⟨_, rfl⟩
end
end L2

namespace L2
open PySem PySem.Spec PyProof.Rows


structure ObjM (h : Heap) (x dx C : Addr) (mA : Str → Option Value) : Prop where
  obj : h.get? x = some (PySem.W.instObj C dx)
  ns : h.Ns1 dx mA
  ne : dx ≠ x

theorem lookIn_ns {h : Heap} {dx : Addr} {mA : Str → Option Value} (n : h.Ns1 dx mA) : ∃ od, h.get? dx = some od ∧ ∀ name, PySem.W.lookIn name od = some (mA name) := by
  obtain ⟨o, es, ep, ho, hd, hk, _, hm⟩ := n
  refine ⟨o, ho, fun name => ?_⟩
  have e := hm name
  unfold nsFind findBy at e
  rw [← Array.find?_toList] at e
  unfold PySem.W.lookIn
  rw [hd]
  dsimp only
  split
  · rename_i y q
    rw [q] at e
    exact congrArg some e
  · rename_i q
    rw [q] at e
    have a : es.toList.any (·.refKey) = false := by
      rw [List.any_eq_false]
      intro y hy
      obtain ⟨z, t, hkey⟩ := hk y (Array.mem_toList_iff.mp hy)
      simp [DictEntry.refKey, hkey]
    have a' : ¬ es.toList.any (·.refKey) = true := by rw [a]; exact Bool.false_ne_true
    rw [if_neg a']
    exact congrArg some e

theorem ObjM.look {h : Heap} {x dx C : Addr} {mA : Str → Option Value} (I : ObjM h x dx C mA) : ∃ od, PySem.W.InstAt h x (PySem.W.instObj C dx) C (some od) ∧ ∀ name, PySem.W.lookIn name od = some (mA name) :=
  let ⟨od, ho, hl⟩ := lookIn_ns I.ns
  ⟨od, ⟨I.obj, rfl, rfl, ho⟩, hl⟩

section
variable {prog : Program} {w : World} {A : Around} {E : Value → Shared → Prop} {s : Shared} {K : PySem.W.Frag} {x dx C f : Addr} {mA : Str → Option Value} {name : Str} {v : Value}

end


section
variable {P : Program} {w : World} {H H' : Hp} {h h' : Heap} {a C dx : Addr} {fs fs' : List (Str × V)}
theorem ins_get (hok : HOk P w H h) (e : H a = some (.ins C dx fs)) : ∃ mA, ObjM h a dx C mA ∧ (∀ f, RelO (fs.lookup f) (mA f)) ∧ PySem.Within mA (fs.map (·.1)) ∧ fs.length ≤ 1000 ∧ H dx = some (.own a) := by
  obtain ⟨d, z, ne, ob, mA, n, r, q⟩ := (show ObjOk P w H h a (.ins C dx fs) from hok a _ e)
  exact ⟨mA, ⟨ob, n, ne⟩, r, q, z, d⟩
end


structure Cls (K : PySem.W.Frag) (C : Addr) : Prop where
  pg : PySem.W.plainGet K C Str.empty = true
  hd : PySem.W.hasDictIn K C = true
  po : PySem.W.plainOver K C = true
  sa : PySem.W.findIn K (.ref C) "__setattr__" = some (some (.builtin "object.__setattr__"))
theorem Cls.get {K : PySem.W.Frag} {C : Addr} (c : Cls K C) (f : Str) : PySem.W.plainGet K C f = true := c.pg

structure Con (K : PySem.W.Frag) (C : Addr) (f : Str) (v : V) (u : Value) : Prop where
  at_ : PySem.W.findIn K (.ref C) f = some (some u)
  rel : RelV v u
  get : PySem.W.specialIn K u "__get__" = some none
  cp : PySem.W.copiedNames.contains f = false

structure Meth (K : PySem.W.Frag) (C : Addr) (m : Str) (f : Addr) : Prop where
  at_ : PySem.W.findIn K (.ref C) m = some (some (.ref f))
  fn : PySem.W.isFn K (.ref f) = true
  kp : PySem.W.keepIn K (.ref f) = true

section
variable {X : Cx} {pins : List (Addr × Obj)} {σ : St} {H : Hp} {s : Shared} {a C dx : Addr} {fs : List (Str × V)} {f : Str} {v : V} {A : Around} {E : Value → Shared → Prop}

theorem Inv.made (I : Inv X pins σ H s) : Inv X pins σ (upd (upd H s.heap.objs.size (.own (s.heap.objs.size + 1))) (s.heap.objs.size + 1) (.ins C s.heap.objs.size []))
    { s with heap := (s.heap.push PySem.W.emptyDict).push (PySem.W.instObj C s.heap.objs.size) } := by
  have e1 : (s.heap.push PySem.W.emptyDict).get? s.heap.objs.size = some PySem.W.emptyDict := Heap.get?_push_size s.heap rfl
  have e2 : ((s.heap.push PySem.W.emptyDict).push (PySem.W.instObj C s.heap.objs.size)).get? (s.heap.objs.size + 1) = some (PySem.W.instObj C s.heap.objs.size) := by
    have := Heap.get?_push_size (s.heap.push PySem.W.emptyDict) (o := PySem.W.instObj C s.heap.objs.size) rfl
    rwa [Heap.size_push] at this
  have e3 : (s.heap.push PySem.W.emptyDict).Ns s.heap.objs.size (fun _ => none) := ⟨PySem.W.emptyDict, #[], _, e1, rfl, (fun e he => absurd he (by simp)), fun _ => rfl⟩
  have I1 := I.laid (a := s.heap.objs.size) (o := .own (s.heap.objs.size + 1)) (h' := s.heap.push PySem.W.emptyDict) (t' := s.toks) (fun b u q => Heap.get?_push_of_some _ q) (Nat.le_refl _) ⟨_, e1⟩
  refine I1.laid (a := s.heap.objs.size + 1) (o := .ins C s.heap.objs.size []) (t' := s.toks) (fun b u q => Heap.get?_push_of_some _ q) (Nat.le_of_eq (Heap.size_push _ _)) ?_
  have ne : s.heap.objs.size ≠ s.heap.objs.size + 1 := Nat.ne_of_lt (Nat.lt_succ_self _)
  refine ⟨by rw [upd_ne ne, upd_same], Nat.zero_le _, ne, e2, fun _ => none, (Heap.Ns1.of_empty e3).at fun o q => Heap.get?_push_of_some _ q, fun _ => True.intro, fun y hy => absurd rfl hy⟩


end



section
variable {X : Cx} {o e value : Expr} {f : Str} {pos pos' tpos : Pos} {ta tv : TE}
end


section
variable {X : Cx} {pins : List (Addr × Obj)} {σ : St} {H : Hp} {s : Shared} {A : Around} {E : Value → Shared → Prop} {Q : Value → Shared → Prop} {c : Value} {b : Bool}

inductive TyOf (K : PySem.W.Frag) (H : Hp) : V → Value → Prop where
  | non : TyOf K H .non (.type "NoneType")
  | bl (x : Bool) : TyOf K H (.bl x) (.type "bool")
  | int (i : Int) : TyOf K H (.int i) (.type "int")
  | str (x : Str) : TyOf K H (.str x) (.type "str")
  | flt (x : UInt64) : TyOf K H (.flt x) (.type "float")
  | lst {a : Addr} {xs : List V} (e : H a = some (.lst xs)) : TyOf K H (.ref a) (.type "list")
  | frz {a : Addr} {o : Obj} {xs : List V} (e : H a = some (.frz o (.lst xs))) : TyOf K H (.ref a) (.type "list")
  | tup {a : Addr} {xs : List V} (e : H a = some (.tup xs)) : TyOf K H (.ref a) (.type "tuple")
  | dK {a : Addr} {kvs : List (Key × V)} (e : H a = some (.dK kvs)) : TyOf K H (.ref a) (.type "dict")
  | dT {a : Addr} {kvs : List (List Key × V)} (e : H a = some (.dT kvs)) : TyOf K H (.ref a) (.type "dict")
  | ins {a C dx : Addr} {fs : List (Str × V)} (e : H a = some (.ins C dx fs)) (cl : Cls K C) (ha : PySem.W.findIn K (.ref C) "__class__" = some (some (.builtin "object.__class__")))
      (hn : PySem.W.specialIn K (.builtin "object.__class__") "__get__" = some (some (.builtin "getset_descriptor.__get__"))) (htk : PySem.W.takesIn K (.builtin "object.__class__") = some true)
      (hm : PySem.W.mroIn K C (.type "object") = some true) : TyOf K H (.ref a) (.ref C)

theorem isinst_ok {x : V} {u t : Value} (I : Inv X pins σ H s) (rx : RelV x u) (ty : TyOf X.K H x t) (e : PySem.W.kitOne X.K t c = some b) (h : ∀ tk, Q (.bool b) { s with toks := tk }) :
    wpAny (model X.prog X.w) A (call (.builtin "isinstance") [u, c]) Q E s := by
  cases ty with
  | non => cases (show u = Value.none from rx); exact PySem.W.kia_one PySem.W.kitx_none I.kIn True.intro e (fun z => nomatch z) h
  | bl y => cases (show u = Value.bool y from rx); exact PySem.W.kia_one PySem.W.kitx_bool I.kIn True.intro e (fun z => nomatch z) h
  | int i => obtain ⟨t, q⟩ := (show ∃ t, u = Value.int i t from rx); cases q; exact PySem.W.kia_one PySem.W.kitx_int I.kIn True.intro e (fun z => nomatch z) h
  | str y => obtain ⟨t, q⟩ := (show ∃ t, u = Value.str y t from rx); cases q; exact PySem.W.kia_one PySem.W.kitx_str I.kIn True.intro e (fun z => nomatch z) h
  | flt y => obtain ⟨t, q⟩ := (show ∃ t, u = Value.float y t from rx); cases q; exact PySem.W.kia_one PySem.W.kitx_float I.kIn True.intro e (fun z => nomatch z) h
  | @lst a xs ea =>
    cases (show u = Value.ref a from rx)
    obtain ⟨_, _, n, _, h1⟩ := (show ObjOk X.prog X.w H s.heap a (.lst xs) from I.hok a _ ea)
    exact PySem.W.kia_one PySem.W.kitx_list I.kIn ⟨_, h1, rfl⟩ e (fun z => nomatch z) h
  | @frz a ob xs ea =>
    cases (show u = Value.ref a from rx)
    obtain ⟨_, _, _, n, _, h1⟩ := (show ObjOk X.prog X.w H s.heap a (.frz ob (.lst xs)) from I.hok a _ ea)
    exact PySem.W.kia_one PySem.W.kitx_list I.kIn ⟨_, h1, rfl⟩ e (fun z => nomatch z) h
  | @tup a xs ea =>
    cases (show u = Value.ref a from rx)
    obtain ⟨_, _, _, p⟩ := (show ObjOk X.prog X.w H s.heap a (.tup xs) from I.hok a _ ea)
    obtain ⟨o, h1, h2, _⟩ := p
    exact PySem.W.kia_one PySem.W.kitx_tuple I.kIn ⟨o, h1, h2⟩ e (fun z => nomatch z) h
  | @dK a kvs ea =>
    cases (show u = Value.ref a from rx)
    obtain ⟨_, _, vs, _, p⟩ := (show ObjOk X.prog X.w H s.heap a (.dK kvs) from I.hok a _ ea)
    obtain ⟨o, es, ep, h1, h2, _⟩ := p
    exact PySem.W.kia_one PySem.W.kitx_dict I.kIn ⟨o, h1, h2.1⟩ e (fun z => nomatch z) h
  | @dT a kvs ea =>
    cases (show u = Value.ref a from rx)
    obtain ⟨_, _, xs, _, o, es, ep, h1, h2, _⟩ := (show ObjOk X.prog X.w H s.heap a (.dT kvs) from I.hok a _ ea)
    exact PySem.W.kia_one PySem.W.kitx_dict I.kIn ⟨o, h1, h2.1⟩ e (fun z => nomatch z) h
  | @ins a C dx fs ea cl ha hn htk hm =>
    cases (show u = Value.ref a from rx)
    obtain ⟨mA, O, _⟩ := ins_get I.hok ea
    obtain ⟨od, J, _⟩ := O.look
    exact PySem.W.kia_one (PySem.W.kitx_own (cl.get _) cl.hd ha hn htk hm) I.kIn J e (fun z => nomatch z) h
end
end L2

namespace L2
open PySem PySem.Spec PyProof.Rows


structure Room (k : Nat) (A : Around) : Prop where
  hd : A.handled = none
  dp : A.depth + 3 * k + 5 < recursionLimit
  un : A.units + 16 * k + 200 < cLine
theorem Room.mono {j k : Nat} {A : Around} (r : Room k A) (h : j ≤ k) : Room j A := ⟨r.hd, by have := r.dp; omega, by have := r.un; omega⟩
theorem Room.deeper {k : Nat} {A : Around} (r : Room (k + 1) A) (env : Env) : Room k (A.deeper env) :=
  ⟨r.hd, by have := r.dp; show A.depth + 1 + 3 * k + 5 < _; omega, by have := r.un; show A.units + 3 + 16 * k + 200 < _; omega⟩
theorem Room.in1 {k : Nat} {A : Around} (r : Room (k + 1) A) : Room k A.in1 :=
  ⟨r.hd, by have := r.dp; show A.depth + 3 * k + 5 < _; omega, by have := r.un; show A.units + 1 + 16 * k + 200 < _; omega⟩
theorem Room.depth {k : Nat} {A : Around} (r : Room k A) : A.depth < recursionLimit := by have := r.dp; omega
theorem Room.units {k : Nat} {A : Around} (r : Room k A) : A.units + 64 < cLine := by have := r.un; omega
def tNil : TA := fun _ H Q => Q [] H
def tCons (ta : TE) (tr : TA) : TA := fun σ H Q => ta σ H fun x H1 => tr σ H1 fun xs H2 => Q (x :: xs) H2
section
variable {X : Cx} {e : Expr} {es : List Expr} {te : TE} {t : TA} {pos : Pos}
theorem pa_nil : PA X [] tNil := fun _ _ _ _ H Q I h => Calls.spliced_nil ⟨[], H, I, .nil, h⟩
theorem pa_cons (ha : PE X e te) (hr : PA X es t) (hs : starEach (e :: es) X.env = (false, eval e X.env) :: starEach es X.env := by rfl) : PA X (e :: es) (tCons te t) := by
  intro pos pins s σ H Q I h
  rw [hs]
  show wpAny _ _ (spliced ((false, eval e X.env) :: backTo pos (starEach es X.env))) _ _ s
  refine Calls.spliced_cons (thn (ha pins s σ H _ I h) fun u s1 ⟨x, H1, I1, r1, q1⟩ => ?_)
  exact thn (hr pos pins s1 σ H1 _ I1 q1) fun us s2 ⟨xs, H2, I2, r2, q2⟩ => ⟨x :: xs, H2, I2, .cons r1 r2, q2⟩


def tTup (t : TA) : TE := fun σ H Q => t σ H fun xs H1 => xs.length ≤ sizeLine ∧ ∀ p, H1 p = none → Q (.ref p) (upd H1 p (.tup xs))
def tLst (t : TA) : TE := fun σ H Q => t σ H fun xs H1 => xs.length ≤ sizeLine ∧ ∀ p, H1 p = none → Q (.ref p) (upd H1 p (.lst xs))
theorem pe_tup {x1} (h : PA X es t) : PE X (.Tuple es x1 pos) (tTup t) := by
  intro pins s σ H Q I hq
  refine wpAny_Tuple_spliced (thn (h pos pins s σ H _ I hq) fun us s1 ⟨xs, H1, I1, r, z, q⟩ => ⟨by rw [← r.length]; exact z, ?_⟩)
  have hf : H1 s1.heap.objs.size = none := I1.hok.fresh (Nat.le_refl _)
  refine ⟨.ref s1.heap.objs.size, upd H1 s1.heap.objs.size (.tup xs), I1.laid (t' := s1.toks) (fun b u e => Heap.get?_push_of_some _ e) (Nat.le_refl _) ?_, rfl, q _ hf⟩
  exact ⟨z, us, r, ⟨_, Heap.get?_push_size _ rfl, rfl, _, rfl⟩⟩
theorem pe_lst (h : PA X es t) : PE X (.List es pos) (tLst t) := by
  intro pins s σ H Q I hq
  refine wpAny_List_spliced (thn (h pos pins s σ H _ I hq) fun us s1 ⟨xs, H1, I1, r, z, q⟩ => ⟨by rw [← r.length]; exact z, ?_⟩)
  have hf : H1 s1.heap.objs.size = none := I1.hok.fresh (Nat.le_refl _)
  refine ⟨.ref s1.heap.objs.size, upd H1 s1.heap.objs.size (.lst xs), I1.laid (t' := s1.toks) (fun b u e => Heap.get?_push_of_some _ e) (Nat.le_refl _) ?_, rfl, q _ hf⟩
  exact ⟨z, us, 0, r, Heap.get?_push_size _ rfl⟩
end



abbrev Sp := List V → Hp → VK → XK → Prop

abbrev CXT := List Env → Hp → Shared → XK → Value → Shared → Prop


structure Env0 (P : Program) (w : World) (K : PySem.W.Frag) (mg : Str → Option Value) (base : Heap) (A : Around) (outer : List Env) (s : Shared) (H : Hp) : Prop where
  frames : A.frames = some outer
  mod : Mod K mg base
  bs : ∀ b o, base.get? b = some o → s.heap.get? b = some o ∧ H b = none
  bsz : base.objs.size ≤ s.heap.objs.size
  funs : s.heap.FunFrames base outer
  frf : ∀ b ∈ frs outer, H b = none
  hok : HOk P w H s.heap
  bare : AllBare s.gens

def CE (outer : List Env) (P : Program) (w : World) (H : Hp) (s : Shared) (Q : VK) (u : Value) (s' : Shared) : Prop :=
  ∃ v H', s'.os = s.os ∧ AllBare s'.gens ∧ Un (frs outer) [] H H' s.heap s'.heap ∧ HOk P w H' s'.heap ∧ RelV v u ∧ Q v H'
def CR (CX : CXT) (outer : List Env) (P : Program) (w : World) (H : Hp) (s : Shared) (Q : VK) (E : XK) (r : Result) (s' : Shared) : Prop :=
  match r with
  | .ok (.ret u) => CE outer P w H s Q u s'
  | .ok _ => False
  | .error e => CX outer H s E e s'
structure FnOk (P : Program) (w : World) (K : PySem.W.Frag) (mg : Str → Option Value) (base : Heap) (CX : CXT) (k : Nat) (f : Addr) (fd : FuncData) (ps : List Str) (sp : Sp) : Prop where
  len : ∀ vs H Q E, sp vs H Q E → vs.length = ps.length
  run : ∀ (A : Around) (outer : List Env) (s : Shared) (H : Hp) (args : Args) (us : List Value) (vs : List V) (Q : VK) (E : XK), Room k A → Env0 P w K mg base A outer s H → BindsTo s fd args (ps.zip us) → Vals vs us → sp vs H Q E →
    codeAny (model P w) A (.call (.ref f) args) (CR CX outer P w H s Q E) s
theorem FnOk.mono {P : Program} {w : World} {K : PySem.W.Frag} {mg : Str → Option Value} {base : Heap} {CX : CXT} {j k : Nat} {f : Addr} {fd : FuncData} {ps : List Str} {sp : Sp} (F : FnOk P w K mg base CX j f fd ps sp) (h : j ≤ k) :
    FnOk P w K mg base CX k f fd ps sp := ⟨F.len, fun A outer s H args us vs Q E hr => F.run A outer s H args us vs Q E (hr.mono h)⟩

theorem FnOk.imp {P : Program} {w : World} {K : PySem.W.Frag} {mg : Str → Option Value} {base : Heap} {CX : CXT} {k : Nat} {f : Addr} {fd : FuncData} {ps : List Str} {sp sp' : Sp} (F : FnOk P w K mg base CX k f fd ps sp)
    (h : ∀ vs H Q E, sp' vs H Q E → sp vs H Q E) : FnOk P w K mg base CX k f fd ps sp' :=
  ⟨fun vs H Q E q => F.len vs H Q E (h _ _ _ _ q), fun A outer s H args us vs Q E hr he hb hv hs => F.run A outer s H args us vs Q E hr he hb hv (h _ _ _ _ hs)⟩

theorem Env0.in1 {P : Program} {w : World} {K : PySem.W.Frag} {mg : Str → Option Value} {base : Heap} {A : Around} {outer : List Env} {s : Shared} {H : Hp} (e : Env0 P w K mg base A outer s H) :
    Env0 P w K mg base A.in1 outer s H := ⟨e.frames, e.mod, e.bs, e.bsz, e.funs, e.frf, e.hok, e.bare⟩

section
variable {X : Cx} {pins : List (Addr × Obj)} {σ : St} {H : Hp} {s s' : Shared}

theorem Inv.env0 (I : Inv X pins σ H s) : Env0 X.prog X.w X.K X.mg X.base X.A X.stack s H :=
  ⟨I.ok.frames, I.ok.mod, I.bs, Nat.le_trans I.ok.bsz I.sz, I.stack, I.stkFree, I.hok, I.bare⟩

theorem Inv.after {Q : VK} {u : Value} (I : Inv X pins σ H s) (h : CE X.stack X.prog X.w H s Q u s') : EP X pins σ Q u s' := by
  obtain ⟨v, H', os, bare, un, hok, r, q⟩ := h
  obtain ⟨hh, g, d, t, os'⟩ := s'
  obtain rfl : os' = s.os := os
  exact ⟨v, H', I.call (h' := hh) (g' := g) (d' := d) (t' := t) (ch := []) un hok bare (fun b z => absurd z (by simp)), r, q⟩
end



def tCall (sp : Sp) (dvs : List V) (E : XK) (t : TA) : TE := fun σ H Q => t σ H fun vs H1 => sp (vs ++ dvs) H1 Q E

def Binds (K : PySem.W.Frag) (fd : FuncData) (ps : List Str) (ds : List Value) : Prop :=
  ∀ (s : Shared) (us : List Value), K.In s.heap → (us ++ ds).length = ps.length → BindsTo s fd ⟨us, []⟩ (ps.zip (us ++ ds))

theorem Binds.all {K : PySem.W.Frag} {fd : FuncData} {ps : List Str} (h : ∀ us : List Value, us.length = ps.length → bindArgs fd ⟨us, []⟩ = pure (ps.zip us)) : Binds K fd ps [] := fun s us _ hl => by
  rw [List.append_nil] at hl ⊢
  exact .of_eq (h us hl)


def Passes (CX : CXT) (X : Cx) (E : XK) : Prop := ∀ (pins : List (Addr × Obj)) (σ : St) (H : Hp) (s : Shared) (e : Value) (s' : Shared), Inv X pins σ H s → CX X.stack H s E e s' → X.xe e s'

section
variable {X : Cx} {CX : CXT} {k : Nat} {f C : Addr} {fd : FuncData} {ps : List Str} {sp : Sp} {dvs : List V} {ds : List Value} {E : XK} {x m : Str} {p pos apos : Pos} {e o : Expr} {es : List Expr} {ta : TE} {t : TA}


theorem run_fn {pins : List (Addr × Obj)} {σ : St} {H : Hp} {s : Shared} {Q : VK} {us : List Value} {vs : List V} (F : FnOk X.prog X.w X.K X.mg X.base CX k f fd ps sp) (hr : Room k X.A) (hb : Binds X.K fd ps ds) (hd : Vals dvs ds) (hx : Passes CX X E)
    (I : Inv X pins σ H s) (r : Vals vs us) (h : sp (vs ++ dvs) H Q E) : wpAny (model X.prog X.w) X.A (call (.ref f) us) (EP X pins σ Q) X.xe s := by
  have r2 : Vals (vs ++ dvs) (us ++ ds) := r.append hd
  have hl : (us ++ ds).length = ps.length := by rw [← r2.length]; exact F.len _ _ _ _ h
  refine wpAny_call (codeAny_mono (F.run X.A X.stack s H ⟨us, []⟩ (us ++ ds) (vs ++ dvs) Q E hr I.env0 (hb s us I.kIn hl) r2 h) fun r s' hq => ?_)
  cases r with
  | error e => exact hx pins σ H s e s' I hq
  | ok fl =>
    cases fl with
    | ret u => exact I.after hq
    | next => exact False.elim hq
    | brk => exact False.elim hq
    | cont => exact False.elim hq

theorem pe_call (F : FnOk X.prog X.w X.K X.mg X.base CX k f fd ps sp) (hr : Room k X.A) (hg : Gl X x) (hm : X.mg x = some (.ref f)) (hk : PySem.W.keepIn X.K (.ref f) = true) (hb : Binds X.K fd ps ds) (hd : Vals dvs ds) (hx : Passes CX X E)
    (ha : PA X (e :: es) t) (hdb : (x == ("__debug__" : Str)) = false := by decide) (he : starEach (e :: es) X.env = (false, eval e X.env) :: starEach es X.env := by rfl) (hpl : (backTo pos (starEach es X.env)).any (·.1) = false := by rfl) :
    PE X (.Call (.Name x p) (e :: es) [] pos) (tCall sp dvs E t) := by
  intro pins s σ H Q I h
  refine wpAny_Call_Name_kw (ld_glob I hg hm ?_ hdb)
  refine PySem.W.callWith_K (h₀ := X.base) I.ok.mod.kin hk (thn (ha pos pins s σ H _ I h) fun us s1 ⟨vs, H1, I1, r, q⟩ => ⟨I1.kIn, ?_⟩) he hpl
  exact run_fn F hr hb hd hx I1 r q
structure Mk (K : PySem.W.Frag) (C f : Addr) : Prop where
  makes : PySem.W.makesIn K C = true
  init : PySem.W.findIn K (.ref C) "__init__" = some (some (.ref f))
  fn : PySem.W.isFn K (.ref f) = true
  kp : PySem.W.keepIn K (.ref C) = true

end



section
variable {X : Cx} {CX : CXT} {k : Nat} {f C : Addr} {fd : FuncData} {ps ks : List Str} {sp : Sp} {E : XK} {x m : Str} {p pos apos kpos : Pos} {e o : Expr} {es : List Expr} {kws : List Keyword} {te ta : TE} {t tk : TA} {nm : Option Str}
structure KBinds (K : PySem.W.Frag) (fd : FuncData) (ps ks : List Str) (g : List Value → List Value → List Value) (gV : List V → List V → List V) : Prop where
  to : ∀ (s : Shared) (us ws : List Value), K.In s.heap → (g us ws).length = ps.length → BindsTo s fd ⟨us, ks.zip ws⟩ (ps.zip (g us ws))
  rel : ∀ {vs : List V} {us : List Value} {zs : List V} {ws : List Value}, Vals vs us → Vals zs ws → Vals (gV vs zs) (g us ws)
variable {g : List Value → List Value → List Value} {gV : List V → List V → List V}
end



structure FnScope (N P : List Str) (sc : Scope) : Prop where
  kind : sc.kind = .function
  co : sc.isCoroutine = false
  gen : sc.isGenerator = false
  nd : N.Nodup
  pre : N.take P.length = P
  par : ∀ x ∈ P, sc.names.lookup x = some .local ∨ sc.names.lookup x = some .cell
  nofree : ∀ y ∈ sc.names, y.2 ≠ .free

theorem bindL_out {kindOf : Str → Option NameKind} {x : Str} : ∀ {binds : List (Str × Value)} {m : Str → Option Value}, (∀ v, (x, v) ∉ binds) → bindL kindOf binds m x = m x
  | [], _, _ => rfl
  | (n, v) :: r, m, h => by
    unfold bindL
    rw [bindL_out fun w hw => h w (List.mem_cons_of_mem _ hw)]
    split
    · have : x ≠ n := by rintro rfl; exact h v List.mem_cons_self
      simp [this]
    · rfl
theorem bindC_out {kindOf : Str → Option NameKind} {x : Str} : ∀ {binds : List (Str × Value)} {m : Str → Option Value}, (∀ v, (x, v) ∉ binds) → bindC kindOf binds m x = m x
  | [], _, _ => rfl
  | (n, v) :: r, m, h => by
    unfold bindC
    rw [bindC_out fun w hw => h w (List.mem_cons_of_mem _ hw)]
    split
    · rfl
    · have : x ≠ n := by rintro rfl; exact h v List.mem_cons_self
      simp [this]
theorem bindL_get {kindOf : Str → Option NameKind} {x : Str} {v : Value} : ∀ {P : List Str} {vs : List Value} {i : Nat} {m : Str → Option Value}, P.Nodup → P[i]? = some x → vs[i]? = some v → kindOf x = some .local →
    bindL kindOf (P.zip vs) m x = some v
  | [], _, _, _, _, h, _, _ => by simp at h
  | _ :: _, [], _, _, _, _, h, _ => by simp at h
  | p :: P, w :: vs, 0, m, nd, h1, h2, hk => by
    simp at h1 h2; subst h1; subst h2
    show bindL kindOf ((p, w) :: P.zip vs) m p = _
    unfold bindL
    rw [bindL_out fun v hv => (List.nodup_cons.mp nd).1 (List.of_mem_zip hv).1, if_pos hk]
    simp
  | p :: P, w :: vs, i + 1, m, nd, h1, h2, hk => by
    show bindL kindOf ((p, w) :: P.zip vs) m x = _
    unfold bindL
    exact bindL_get (i := i) (List.nodup_cons.mp nd).2 (by simpa using h1) (by simpa using h2) hk
theorem bindC_get {kindOf : Str → Option NameKind} {x : Str} {v : Value} : ∀ {P : List Str} {vs : List Value} {i : Nat} {m : Str → Option Value}, P.Nodup → P[i]? = some x → vs[i]? = some v → kindOf x ≠ some .local →
    bindC kindOf (P.zip vs) m x = some v
  | [], _, _, _, _, h, _, _ => by simp at h
  | _ :: _, [], _, _, _, _, h, _ => by simp at h
  | p :: P, w :: vs, 0, m, nd, h1, h2, hk => by
    simp at h1 h2; subst h1; subst h2
    show bindC kindOf ((p, w) :: P.zip vs) m p = _
    unfold bindC
    rw [bindC_out fun v hv => (List.nodup_cons.mp nd).1 (List.of_mem_zip hv).1, if_neg hk]
    simp
  | p :: P, w :: vs, i + 1, m, nd, h1, h2, hk => by
    show bindC kindOf ((p, w) :: P.zip vs) m x = _
    unfold bindC
    exact bindC_get (i := i) (List.nodup_cons.mp nd).2 (by simpa using h1) (by simpa using h2) hk


def start (N : List Str) (vs : List V) : St := vs.map some ++ List.replicate (N.length - vs.length) none


def cxOf (CX : CXT) (P : Program) (w : World) (K : PySem.W.Frag) (mg : Str → Option Value) (base : Heap) (N : List Str) (qual : Str) (scope : Scope) (f : Addr) (cd : Value) (A : Around) (outer : List Env) (s : Shared) (H : Hp) (E : XK) : Cx where
  prog := P
  w := w
  K := K
  mg := mg
  base := base
  A := A.deeper (envOfC qual scope s.heap.objs.size f cd)
  N := N
  s₀ := s
  H₀ := H
  env := envOfC qual scope s.heap.objs.size f cd
  outer := outer
  stack := envOfC qual scope s.heap.objs.size f cd :: outer
  ex := []
  calm := true
  fn := fun _ => true
  pn := []
  xe := fun e s' => wpAny (model P w) (A.deeper (envOfC qual scope s.heap.objs.size f cd)) (leaving (envOfC qual scope s.heap.objs.size f cd) e) (fun _ s'' => CX outer H s E e s'') (fun e' s'' => CX outer H s E e' s'') s'

theorem cell_has {sc : Scope} {n : Nat} {x : Str} (h : sc.names.lookup x = some .cell) : ∃ c, (cellsFrom n sc.names []).lookup x = some c := by
  have q := PySem.W.cellsFrom_some sc.names n [] (.inl h)
  exact Option.isSome_iff_exists.mp q

theorem inv_start {CX : CXT} {P : Program} {w : World} {K : PySem.W.Frag} {mg : Str → Option Value} {base : Heap} {N ps : List Str} {qual : Str} {scope : Scope} {f : Addr} {cd : Value} {A : Around} {outer : List Env} {s s1 : Shared} {H : Hp} {E : XK} {us : List Value} {vs : List V}
    (S : FnScope N ps scope) (hd : A.handled = none) (e0 : Env0 P w K mg base A outer s H) (hl : vs.length = ps.length) (r : Vals vs us)
    (x : InCallC s s.heap.objs.size (bindL (envOfC qual scope s.heap.objs.size f cd).kindOf (ps.zip us) fun _ => none) (cellsFrom (s.heap.objs.size + 1) scope.names []) (bindC (envOfC qual scope s.heap.objs.size f cd).kindOf (ps.zip us) fun _ => none) s1) :
    Inv (cxOf CX P w K mg base N qual scope f cd A outer s H E) [] (start N vs) H s1 := by
  have hpl : ps.length ≤ N.length := by have := congrArg List.length S.pre; rw [List.length_take] at this; omega
  obtain ⟨h1, tk, rfl, hk⟩ := x.done
  have noA : ∀ b : Addr, b ∉ (cxOf CX P w K mg base N qual scope f cd A outer s H E).ex := fun b z => absurd (show b ∈ ([] : List Addr) from z) (by simp)
  refine ⟨⟨e0.mod, S.kind, rfl, rfl, Nat.le_refl _, fun y z c h1 h2 => ?_, fun y hy => ?_, fun y c _ h => ?_, fun _ => hd, Around.frames_deeper e0.frames, .inr ⟨rfl, rfl⟩, fun b z => absurd z (noA b), e0.bs, e0.bsz, fun b _ _ => noA b, fun b z => absurd z (noA b), e0.funs, e0.frf⟩,
    rfl, e0.bare, Un.kept hk, ⟨_, x.toInCall.ns, fun i y v h1 h2 h3 => ?_⟩, fun y c h => ⟨_, x.cell y c h⟩, e0.hok.fresh (Nat.le_refl _), fun y c h => ?_, fun p hp => absurd (show p ∈ ([] : List (Addr × Obj)) from hp) (by simp), e0.hok.kept hk, ?_⟩
  · exact name_of_addr x.apart (PySem.mem_of_lookup h1) (PySem.mem_of_lookup h2)
  · have hy : scope.names.lookup y = some .cell ∨ scope.names.lookup y = some .free := hy
    rcases hy with hy | hy
    · exact cell_has hy
    · exact absurd rfl (S.nofree _ (PySem.mem_of_lookup hy))
  · exact Nat.le_of_lt (x.above y c (PySem.mem_of_lookup h))
  · have hi : i < vs.length := by
      unfold start at h2
      by_cases hi : i < vs.length
      · exact hi
      · rw [List.getElem?_append_right (by simpa using hi)] at h2
        rw [List.getElem?_replicate] at h2
        split at h2 <;> cases h2
    have ha : vs[i]? = some v := by
      unfold start at h2
      rw [List.getElem?_append_left (by simpa using hi), List.getElem?_map] at h2
      cases e : vs[i]? with
      | none => rw [e] at h2; cases h2
      | some a => rw [e] at h2; cases h2; rfl
    obtain ⟨u, hu, rv⟩ := r.get ha
    have hp : ps[i]? = some y := by
      rw [← S.pre, List.getElem?_take_of_lt (by omega)]; exact h1
    have ndP : ps.Nodup := by rw [← S.pre]; exact S.nd.sublist (List.take_sublist _ _)
    refine ⟨u, rv, ?_⟩
    rcases S.par y (List.mem_of_getElem? hp) with k | k
    · exact .inl ⟨k, bindL_get ndP hp hu k⟩
    · obtain ⟨c, e⟩ := cell_has (n := s.heap.objs.size + 1) k
      refine .inr ⟨.inl k, c, e, ?_⟩
      have q := x.cell y c e
      rw [bindC_get ndP hp hu (by show scope.names.lookup y ≠ _; rw [k]; decide)] at q
      exact q
  · exact e0.hok.fresh (Nat.le_of_lt (x.above y c (PySem.mem_of_lookup h)))
  · unfold start
    show _ = N.length
    rw [List.length_append, List.length_map, List.length_replicate]
    omega


theorem fn_of {CX : CXT} {P : Program} {w : World} {K : PySem.W.Frag} {mg : Str → Option Value} {base : Heap} {k : Nat} {f : Addr} {name qual : Str} {params : Arguments} {body : List Stmt} {scope : Scope} {dV kV doc pm cdv ct oc : Value} {an od : Option Addr}
    {osl : Array (Option Value)} {N ps : List Str} {sp : Sp} (lk : K.lookup f = some ⟨oc, od, .func (PySem.W.fnOf name qual params body scope dV kV doc pm an cdv ct), osl⟩) (hcd : PySem.W.codeIn K cdv qual = true) (S : FnScope N ps scope)
    (len : ∀ vs H Q E, sp vs H Q E → vs.length = ps.length)
    (hbody : ∀ (A : Around) (outer : List Env) (s : Shared) (H : Hp) (vs : List V) (Q : VK) (E : XK), Room k (A.deeper (envOfC qual scope s.heap.objs.size f cdv)) → sp vs H Q E →
      ∃ t, PSs (cxOf CX P w K mg base N qual scope f cdv A outer s H E) body t ∧ t { nx := fun _ H' => Q .non H', rt := Q } (start N vs) H) :
    FnOk P w K mg base CX (k + 1) f (PySem.W.fnOf name qual params body scope dV kV doc pm an cdv ct) ps sp := by
  refine ⟨len, fun A outer s H args us vs Q E hr e0 hb r hsp => ?_⟩
  have hl := len _ _ _ _ hsp
  have KX : K.In s.heap := e0.mod.kin.keeps fun b o e => (e0.bs b o e).1
  have lim : s.heap.NoLimit := e0.mod.nolimit.keeps fun b o e => (e0.bs b o e).1
  have hkind : ∀ y ∈ ps.zip us, scope.names.lookup y.1 = some .local ∨ (scope.names.lookup y.1 = some .cell ∧ ((cellsFrom (s.heap.objs.size + 1) scope.names []).lookup y.1).isSome = true) := fun ⟨n, v⟩ hy => by
    rcases S.par n (List.of_mem_zip hy).1 with q | q
    · exact .inl q
    · exact .inr ⟨q, PySem.W.cellsFrom_some _ _ _ (.inl q)⟩
  refine codeAny_call_function hr.depth (KX _ _ lk) rfl S.co S.gen rfl (PySem.W.codeRec_of KX hcd) (hb _ _ _ _ ?_)
  refine wpAny_newFunctionEnv_cells S.kind hkind fun env he s1 x => ?_
  subst he
  refine ⟨lim.keeps x.toInCall.keep, codeAny_func ?_⟩
  obtain ⟨t, ht, hq⟩ := hbody A outer s H vs Q E (hr.deeper _) hsp
  have I : Inv (cxOf CX P w K mg base N qual scope f cdv A outer s H E) [] (start N vs) H s1 := inv_start S hr.hd e0 hl r x
  refine wpAny_mono (ht [] s1 (start N vs) H _ I hq) (fun fl s' hs => ?_) fun e s' hs => hs
  have fin : ∀ {σ' : St} {H' : Hp} {v : V} {u : Value}, Inv (cxOf CX P w K mg base N qual scope f cdv A outer s H E) [] σ' H' s' → RelV v u → Q v H' → CE outer P w H s Q u s' :=
    fun {σ' H' v u} J rv q => ⟨v, H', J.os, J.bare, J.base, J.hok, rv, q⟩
  cases fl with
  | ret u =>
    obtain ⟨v, σ', H', J, rv, q⟩ := hs
    exact fin J rv q
  | next =>
    obtain ⟨σ', H', J, q⟩ := hs
    exact fin (v := V.non) (u := Value.none) J rfl q
  | brk =>
    obtain ⟨_, _, _, q⟩ := hs
    exact False.elim q
  | cont =>
    obtain ⟨_, _, _, q⟩ := hs
    exact False.elim q
end L2

namespace L2
open PySem PySem.Spec PyProof.Rows
section
variable {X : Cx} {x : Str} {p pos : Pos} {e : Expr} {es : List Expr} {t : TA} {id T : String} {r : List V → Hp → VK → Prop}

def tCB (r : List V → Hp → VK → Prop) (t : TA) : TE := fun σ H Q => t σ H fun vs H1 => r vs H1 Q

theorem pe_callB (hc : CallR X (.builtin id) r) (hg : Gl X x) (hm : X.mg x = none) (hv : bootBuiltins x = some (.builtin id)) (ha : PA X (e :: es) t) (hn : x ≠ "__name__" := by decide) (hdb : (x == ("__debug__" : Str)) = false := by decide)
    (he : starEach (e :: es) X.env = (false, eval e X.env) :: starEach es X.env := by rfl) (hpl : (backTo pos (starEach es X.env)).any (·.1) = false := by rfl) : PE X (.Call (.Name x p) (e :: es) [] pos) (tCB r t) := by
  intro pins s σ H Q I h
  refine wpAny_Call_Name_kw (ld_blt I hg hm hv ?_ hn hdb)
  exact PyProof.Rows.callWith_builtin1 (thn (ha pos pins s σ H _ I h) fun us s1 ⟨vs, H1, I1, r1, q1⟩ => hc pins s1 σ H1 vs us Q I1 r1 q1) he hpl

theorem pe_callTy (hc : CallR X (.type T) r) (hg : Gl X x) (hm : X.mg x = none) (hv : bootBuiltins x = some (.type T)) (ha : PA X (e :: es) t) (hn : x ≠ "__name__" := by decide) (hdb : (x == ("__debug__" : Str)) = false := by decide)
    (he : starEach (e :: es) X.env = (false, eval e X.env) :: starEach es X.env := by rfl) (hpl : (backTo pos (starEach es X.env)).any (·.1) = false := by rfl) : PE X (.Call (.Name x p) (e :: es) [] pos) (tCB r t) := by
  intro pins s σ H Q I h
  refine wpAny_Call_Name_kw (ld_blt I hg hm hv ?_ hn hdb)
  exact PyProof.Rows.callWith_type1 (thn (ha pos pins s σ H _ I h) fun us s1 ⟨vs, H1, I1, r1, q1⟩ => hc pins s1 σ H1 vs us Q I1 r1 q1) he hpl

end
end L2

namespace HT
open PySem PyProof.Rows


section
open PySem.SeqAt
open PySem.AutoSeq1 (wpAny_loadPart')
open PySem.MeetsSeq PySem.MeetsSeq2 PySem.MeetsSeq3

end

section
variable {prog : Program} {w : World} {A : Around} {E : Value → Shared → Prop} {s : Shared}

def sIx (n d : Nat) : Option Int → Nat
  | none => d
  | some v => if v < 0 then (v + (n : Int)).toNat else min v.toNat n
end
end HT

namespace L2
open PySem PySem.Spec PyProof.Rows


abbrev TO := St → Hp → (Option Int → Hp → Prop) → Prop

def tNoPart : TO := fun _ H Q => Q none H
def tPart (t : TE) : TO := fun σ H Q => t σ H fun x H1 => ∃ i, x = .int i ∧ Q (some i) H1

section
variable {X : Cx} {e : Expr} {te : TE} {lo hi : Option Expr} {tl th : TO} {pos p2 : Pos}

def SlR (X : Cx) (r : V → Option Int → Option Int → Hp → VK → Prop) : Prop :=
  ∀ (pins : List (Addr × Obj)) (s : Shared) (σ : St) (H : Hp) (x : V) (v vl vu : Value) (lo hi : Option Int) (sl : Addr) (Q : VK), Inv X pins σ H s → RelV x v → s.heap.IsSliceOf sl vl vu .none → IsPart vl lo → IsPart vu hi → r x lo hi H Q →
    ∃ T id, typeLookup (.type T) "__getitem__" = pure (some (.builtin id)) ∧ s.TypeIs v T ∧ wpAny (model X.prog X.w) X.A (getItem v (.ref sl)) (EP X pins σ Q) X.xe s
theorem SlR.or {r r' : V → Option Int → Option Int → Hp → VK → Prop} (h : SlR X r) (h' : SlR X r') : SlR X (fun x lo hi H Q => r x lo hi H Q ∨ r' x lo hi H Q) := by
  intro pins s σ H x v vl vu lo hi sl Q I rx hs pl pu q
  rcases q with q | q
  · exact h pins s σ H x v vl vu lo hi sl Q I rx hs pl pu q
  · exact h' pins s σ H x v vl vu lo hi sl Q I rx hs pl pu q
def tSl (r : V → Option Int → Option Int → Hp → VK → Prop) (te : TE) (tl th : TO) : TE := fun σ H Q => te σ H fun x H1 => tl σ H1 fun l H2 => th σ H2 fun u H3 => r x l u H3 Q

def cutV (xs : List V) (lo hi : Option Int) : List V := (xs.drop (HT.sIx xs.length 0 lo)).take (HT.sIx xs.length xs.length hi - HT.sIx xs.length 0 lo)
end
end L2

namespace L2
open PySem PySem.Spec PyProof.Rows



def ixN (n : Nat) (i : Int) : Option Nat := if 0 ≤ i then (if i < n then some i.toNat else none) else if -(n : Int) ≤ i then some (i + n).toNat else none
def atI {α : Type} (xs : List α) (i : Int) : Option α := (ixN xs.length i).bind fun j => xs[j]?
theorem ixN_seq {n : Nat} {i : Int} {j : Nat} (h : ixN n i = some j) : seqIndex? i n = some j ∧ j < n ∧ -(n : Int) ≤ i ∧ i < n := by
  unfold ixN at h
  by_cases h0 : 0 ≤ i
  · rw [if_pos h0] at h
    by_cases h1 : i < n
    · rw [if_pos h1] at h
      have e : i.toNat = j := Option.some.inj h
      exact ⟨by rw [seqIndex_of h0 h1, e], by omega, by omega, h1⟩
    · rw [if_neg h1] at h; cases h
  · rw [if_neg h0] at h
    by_cases h1 : -(n : Int) ≤ i
    · rw [if_pos h1] at h
      have e : (i + n).toNat = j := Option.some.inj h
      exact ⟨by rw [seqIndex_neg (by omega) h1, e], by omega, h1, by omega⟩
    · rw [if_neg h1] at h; cases h
theorem atI_get {α : Type} {xs : List α} {i : Int} {v : α} (h : atI xs i = some v) : ∃ j, seqIndex? i xs.length = some j ∧ xs[j]? = some v ∧ j < xs.length ∧ -(xs.length : Int) ≤ i ∧ i < xs.length := by
  unfold atI at h
  cases e : ixN xs.length i with
  | none => rw [e] at h; cases h
  | some j =>
    rw [e] at h
    obtain ⟨h1, h2, h3, h4⟩ := ixN_seq e
    exact ⟨j, h1, h, h2, h3, h4⟩
def PlainIx (b : Expr) : Prop := ∀ o i, subscripted b false o i = operate [o, i] (getItem o i)

def IxR (X : Cx) (r : R2) : Prop :=
  ∀ (value slice : Expr) (pins : List (Addr × Obj)) (s : Shared) (σ : St) (H : Hp) (x y : V) (v u : Value) (Q : VK), Inv X pins σ H s → RelV x v → RelV y u → r x y H Q →
    subscripted slice false v u = operate [v, u] (getItem v u) → wpAny (model X.prog X.w) X.A (subscriptTail value slice v u) (EP X pins σ Q) X.xe s

def MtR (X : Cx) (id : String) (r : V → List V → Hp → VK → Prop) : Prop :=
  ∀ (pins : List (Addr × Obj)) (s : Shared) (σ : St) (H : Hp) (x : V) (xs : List V) (v : Value) (us : List Value) (Q : VK), Inv X pins σ H s → RelV x v → Vals xs us → r x xs H Q →
    wpAny (model X.prog X.w) X.A (call (.builtin id) (v :: us)) (EP X pins σ Q) X.xe s
section
variable {X : Cx} {a b : Expr} {ta tb : TE} {pos : Pos}
theorem IxR.or {r r' : R2} (h : IxR X r) (h' : IxR X r') : IxR X (fun x y H Q => r x y H Q ∨ r' x y H Q) := by
  intro value slice pins s σ H x y v u Q I rx ry q hs
  rcases q with q | q
  · exact h value slice pins s σ H x y v u Q I rx ry q hs
  · exact h' value slice pins s σ H x y v u Q I rx ry q hs
theorem MtR.or {id : String} {r r' : V → List V → Hp → VK → Prop} (h : MtR X id r) (h' : MtR X id r') : MtR X id (fun x xs H Q => r x xs H Q ∨ r' x xs H Q) := by
  intro pins s σ H x xs v us Q I rx rs q
  rcases q with q | q
  · exact h pins s σ H x xs v us Q I rx rs q
  · exact h' pins s σ H x xs v us Q I rx rs q

theorem pe_ix {r : R2} (hr : IxR X r) (ha : PE X a ta) (hb : PE X b tb) (hs : PlainIx b) : PE X (.Subscript a b pos) (tOp r ta tb) := by
  intro pins s σ H Q I h
  exact Subscript_ (binT ha hb I h fun v u s2 x y H2 I2 rx ry q => hr a b pins s2 σ H2 x y v u Q I2 rx ry q (hs _ _))

def rIxL (K : PySem.W.Frag) : R2 := fun x y H Q => ∃ p xs i v, x = .ref p ∧ y = .int i ∧ SqL K H p xs ∧ atI xs i = some v ∧ Q v H
def rIxT (K : PySem.W.Frag) : R2 := fun x y H Q => ∃ p xs i v, x = .ref p ∧ y = .int i ∧ SqT K H p xs ∧ atI xs i = some v ∧ Q v H
theorem ix_list : IxR X (rIxL X.K) := by
  intro value slice pins s σ H x y v u Q I rx ry h hs
  obtain ⟨p, xs, i, z, rfl, rfl, hq, he, q⟩ := h
  cases rx
  obtain ⟨t, rfl⟩ := ry
  obtain ⟨its, r, pl, hz⟩ := I.list hq
  obtain ⟨j, h1, h2, h3, h4, h5⟩ := atI_get he
  obtain ⟨w, ew, rw'⟩ := r.get h2
  have hl := r.length
  have hn := line63
  have fin : EP X pins σ Q w s := ⟨z, H, I, rw', q⟩
  by_cases h0 : 0 ≤ i
  · have hj : i.toNat = j := by
      rw [seqIndex_of h0 h5] at h1
      exact Option.some.inj h1
    exact item_listR pl.isList h0 (by omega) (by rw [hj]; simpa using ew) fin hs
  · have hj : (i + (its.toArray.size : Int)).toNat = j := by
      rw [seqIndex_neg (by omega) h4] at h1
      rw [List.size_toArray, ← hl]
      exact Option.some.inj h1
    exact subscriptTail_builtinR (x := w) pl.isList.typeIs slot_list_getitem.lookup
      (wpAny_getItem_list_neg (Q := fun r s' => r = w ∧ EP X pins σ Q r s') pl.isList (by omega) (by rw [List.size_toArray] <;> omega) (by omega) (by rw [hj]; simpa using ew) ⟨rfl, fin⟩) hs
theorem ix_tup : IxR X (rIxT X.K) := by
  intro value slice pins s σ H x y v u Q I rx ry h hs
  obtain ⟨p, xs, i, z, rfl, rfl, hq, he, q⟩ := h
  cases rx
  obtain ⟨t, rfl⟩ := ry
  obtain ⟨its, r, pl, hz⟩ := I.tuple hq
  obtain ⟨j, h1, h2, h3, h4, h5⟩ := atI_get he
  obtain ⟨w, ew, rw'⟩ := r.get h2
  have hl := r.length
  have hn := line63
  have fin : EP X pins σ Q w s := ⟨z, H, I, rw', q⟩
  exact subscriptTail_builtinR (x := w) pl.typeIs slot_tuple_getitem.lookup
    (getItem_tuple (j := j) (Q := fun r s' => r = w ∧ EP X pins σ Q r s') pl (by omega) (by omega) (by rw [List.size_toArray, ← hl]; exact h1) (by simpa using ew) ⟨rfl, fin⟩) hs
theorem mapSeq_set (its : List Value) (n j : Nat) (u : Value) : Obj.mapSeq (·.setIfInBounds j u) { cls := .type "list", data := .seq its.toArray n } = { cls := .type "list", data := .seq (its.set j u).toArray n } := by
  simp [Obj.mapSeq]
theorem Inv.lst {pins : List (Addr × Obj)} {σ : St} {H : Hp} {s : Shared} {p : Addr} {xs : List V} (I : Inv X pins σ H s) (h : H p = some (.lst xs)) :
    ∃ (its : List Value) (n : Nat), Vals xs its ∧ s.heap.get? p = some { cls := .type "list", data := .seq its.toArray n } ∧ xs.length ≤ sizeLine := by
  obtain ⟨z, its, n, r, e⟩ := I.hok p _ h
  exact ⟨its, n, r, e, z⟩

theorem Inv.lstUpd {pins : List (Addr × Obj)} {σ : St} {H : Hp} {s : Shared} {p : Addr} {xs ys : List V} {its its' : List Value} {n n' : Nat} {f : Obj → Obj} (I : Inv X pins σ H s) (h : H p = some (.lst xs))
    (ho : s.heap.get? p = some { cls := .type "list", data := .seq its.toArray n }) (hf : f { cls := .type "list", data := .seq its.toArray n } = { cls := .type "list", data := .seq its'.toArray n' }) (r : Vals ys its') (hz : ys.length ≤ sizeLine) (t : Nat) :
    Inv X pins σ (upd H p (.lst ys)) { s with heap := s.heap.update p f, toks := t } := by
  have e : (s.heap.update p f).get? p = some { cls := .type "list", data := .seq its'.toArray n' } := by
    rw [Heap.get?_update_self f ho (by rw [hf] <;> rfl), hf]
  refine I.write (x := p) (e := p) (by rw [h]; trivial) (.inl rfl) (fun b u hb q => (Heap.get?_update_other _ _ (Ne.symm hb)).trans q) ⟨_, e⟩ ?_
  exact ⟨hz, its', n', r, e⟩
def rSetL : V → V → V → Hp → (Hp → Prop) → Prop := fun o i v H Q => ∃ p xs k j, o = .ref p ∧ i = .int k ∧ H p = some (.lst xs) ∧ ixN xs.length k = some j ∧ Q (upd H p (.lst (xs.set j v)))
theorem set_list : PSet X rSetL := by
  intro pins s σ H o i v ov iv u Q I ro ri rv h
  obtain ⟨p, xs, k, j, rfl, rfl, hp, hj, q⟩ := h
  cases ro
  obtain ⟨t, rfl⟩ := ri
  obtain ⟨its, n, r, ho, hz⟩ := I.lst hp
  obtain ⟨h1, h2, h3, h4⟩ := ixN_seq hj
  have hl := r.length
  have hn := line63
  have I' : Inv X pins σ (upd H p (.lst (xs.set j v))) { s with heap := s.heap.update p (Obj.mapSeq (·.setIfInBounds j u)) } :=
    I.lstUpd hp ho (mapSeq_set its n j u) (r.set rv j) (by rw [List.length_set]; exact hz) s.toks
  by_cases h0 : 0 ≤ k
  · have hk : k.toNat = j := by
      rw [seqIndex_of h0 h4] at h1
      exact Option.some.inj h1
    exact PySem.W.ki_setAt ho h0 (by omega) (by rw [List.size_toArray, ← hl]; exact h4) (by rw [hk]; exact ⟨_, I', q⟩)
  · have hk : (k + (its.toArray.size : Int)).toNat = j := by
      rw [seqIndex_neg (by omega) h3] at h1
      rw [List.size_toArray, ← hl]
      exact Option.some.inj h1
    exact PySem.W.ki_setBack ho (by omega) (by rw [List.size_toArray, ← hl]; exact h3) (by omega) (by rw [hk]; exact ⟨_, I', q⟩)


def rSlL (K : PySem.W.Frag) : V → Option Int → Option Int → Hp → VK → Prop := fun x lo hi H Q => ∃ a xs, x = .ref a ∧ SqL K H a xs ∧ ∀ p, H p = none → Q (.ref p) (upd H p (.lst (cutV xs lo hi)))
def flatV : V → Bool
  | .non => true
  | .bl _ => true
  | .int _ => true
  | .str _ => true
  | _ => false

def eqV : V → V → Bool
  | .non, .non => true
  | .bl a, .bl b => a == b
  | .bl a, .int b => (if a then 1 else 0) == b
  | .int a, .bl b => a == (if b then 1 else 0)
  | .int a, .int b => a == b
  | .str a, .str b => a == b
  | _, _ => false
theorem eqAt_V {A : Around} {s : Shared} {y x : V} {u v : Value} (ry : RelV y u) (rx : RelV x v) (fy : flatV y = true) (fx : flatV x = true) : SeqAt.EqAt A s u v (eqV y x) := by
  cases y with
  | non =>
    cases ry
    cases x with
    | non => cases rx; exact SeqAt.EqAt.same _
    | bl b => cases rx; exact SeqAt.EqAt.none_bool b
    | int b => obtain ⟨t, rfl⟩ := rx; exact SeqAt.EqAt.none_int b t
    | str b => obtain ⟨t, rfl⟩ := rx; exact SeqAt.EqAt.none_str b t
    | _ => exact absurd (show false = true from fx) Bool.false_ne_true
  | bl a =>
    cases ry
    cases x with
    | non => cases rx; exact SeqAt.EqAt.bool_none a
    | bl b => cases rx; exact SeqAt.EqAt.bool_bool a b
    | int b => obtain ⟨t, rfl⟩ := rx; exact SeqAt.EqAt.bool_int a b t
    | str b => obtain ⟨t, rfl⟩ := rx; exact SeqAt.EqAt.bool_str a b t
    | _ => exact absurd (show false = true from fx) Bool.false_ne_true
  | int a =>
    obtain ⟨t', rfl⟩ := ry
    cases x with
    | non => cases rx; exact SeqAt.EqAt.int_none a t'
    | bl b => cases rx; exact SeqAt.EqAt.int_bool a t' b
    | int b => obtain ⟨t, rfl⟩ := rx; exact SeqAt.EqAt.int_int a t' b t
    | str b => obtain ⟨t, rfl⟩ := rx; exact SeqAt.EqAt.int_str a t' b t
    | _ => exact absurd (show false = true from fx) Bool.false_ne_true
  | str a =>
    obtain ⟨t', rfl⟩ := ry
    cases x with
    | non => cases rx; exact SeqAt.EqAt.str_none a t'
    | bl b => cases rx; exact SeqAt.EqAt.str_bool a t' b
    | int b => obtain ⟨t, rfl⟩ := rx; exact SeqAt.EqAt.str_int a t' b t
    | str b => obtain ⟨t, rfl⟩ := rx; exact SeqAt.EqAt.str_str a t' b t
    | _ => exact absurd (show false = true from fx) Bool.false_ne_true
  | _ => exact absurd (show false = true from fy) Bool.false_ne_true

def inV (x : V) (xs : List V) : Bool := xs.any fun y => eqV y x

def rIn (K : PySem.W.Frag) (neg : Bool) : R2 := fun x y H Q => ∃ p xs, y = .ref p ∧ (SqL K H p xs ∨ SqT K H p xs) ∧ flatV x = true ∧ xs.all flatV = true ∧ Q (.bl (if neg then !inV x xs else inV x xs)) H
theorem call_len_seq : CallR X (.builtin "len") (fun xs H Q => ∃ p ys, xs = [.ref p] ∧ (SqL X.K H p ys ∨ SqT X.K H p ys) ∧ Q (.int ys.length) H) := by
  intro pins s σ H xs us Q I r h
  obtain ⟨p, ys, rfl, hq, q⟩ := h
  obtain ⟨u, rfl, rx⟩ := vals1 r
  cases rx
  have hn := line63
  rcases hq with hq | hq
  · obtain ⟨its, r', pl, hz⟩ := I.list hq
    have hlen := r'.length
    exact Calls.call_len_list pl.isList (by simp only [List.size_toArray] <;> omega) ⟨.int ys.length, H, I.tok _, ⟨s.toks + 1, by rw [List.size_toArray, hlen]⟩, q⟩
  · obtain ⟨its, r', pl, hz⟩ := I.tuple hq
    have hlen := r'.length
    exact len_tuple pl (by simp only [List.size_toArray] <;> omega) ⟨.int ys.length, H, I.tok _, ⟨s.toks + 1, by rw [List.size_toArray, hlen]⟩, q⟩
theorem CallR.or {f : Value} {r r' : List V → Hp → VK → Prop} (h : CallR X f r) (h' : CallR X f r') : CallR X f (fun xs H Q => r xs H Q ∨ r' xs H Q) := by
  intro pins s σ H xs us Q I rs q
  rcases q with q | q
  · exact h pins s σ H xs us Q I rs q
  · exact h' pins s σ H xs us Q I rs q
theorem call_list_of : CallR X (.type "list") (fun xs H Q => ∃ p ys, xs = [.ref p] ∧ (SqL X.K H p ys ∨ SqT X.K H p ys) ∧ ∀ l, H l = none → Q (.ref l) (upd H l (.lst ys))) := by
  intro pins s σ H xs us Q I r h
  obtain ⟨p, ys, rfl, hq, q⟩ := h
  obtain ⟨u, rfl, rx⟩ := vals1 r
  cases rx
  have fin : ∀ (its : List Value), Vals ys its → ys.length ≤ sizeLine → ∀ (h' : Heap) (c' : Nat), (∀ b o', s.heap.get? b = some o' → h'.get? b = some o') →
      h'.get? s.heap.objs.size = some { cls := .type "list", dict := none, data := .seq its.toArray c', slots := #[] } → EP X pins σ Q (.ref s.heap.objs.size) { s with heap := h' } := fun its r' hz h' c' kp e =>
    ⟨.ref s.heap.objs.size, _, I.laid (t' := s.toks) kp (Nat.le_refl _) (show ObjOk X.prog X.w _ h' _ (.lst ys) from ⟨hz, its, c', r', e⟩), rfl, q _ (I.hok.fresh (Nat.le_refl _))⟩
  rcases hq with hq | hq
  · obtain ⟨its, r', pl, hz⟩ := I.list hq
    have hlen := r'.length
    obtain ⟨o, ho, hc, n, hd⟩ := pl.isList
    exact call_list_seq p (.inl rfl) ho hc hd (fun h' c' kp e => fin its r' hz h' c' kp e) (by simp only [List.size_toArray] <;> omega)
  · obtain ⟨its, r', pl, hz⟩ := I.tuple hq
    have hlen := r'.length
    obtain ⟨o, ho, hc, n, hd⟩ := pl
    exact call_list_seq p (.inr rfl) ho hc hd (fun h' c' kp e => fin its r' hz h' c' kp e) (by simp only [List.size_toArray] <;> omega)
theorem call_tuple_of : CallR X (.type "tuple") (fun xs H Q => ∃ p ys, xs = [.ref p] ∧ ((SqL X.K H p ys ∧ ∀ l, H l = none → Q (.ref l) (upd H l (.tup ys))) ∨ (SqT X.K H p ys ∧ Q (.ref p) H))) := by
  intro pins s σ H xs us Q I r h
  obtain ⟨p, ys, rfl, h⟩ := h
  obtain ⟨u, rfl, rx⟩ := vals1 r
  cases rx
  rcases h with ⟨hq, q⟩ | ⟨hq, q⟩
  · obtain ⟨its, r', pl, hz⟩ := I.list hq
    have hlen := r'.length
    refine call_tuple_list pl.isList (fun h' kp => ?_) (by simp only [List.size_toArray] <;> omega)
    have I1 : Inv X pins σ H { s with heap := h' } := I.kept (t' := s.toks) kp
    have I2 : Inv X pins σ (upd H h'.objs.size (.tup ys)) { s with heap := h'.push { cls := .type "tuple", data := .seq its.toArray } } :=
      I1.laid (t' := s.toks) (fun b o e => Heap.get?_push_of_some _ e) (Nat.le_refl _) (show ObjOk X.prog X.w _ _ _ (.tup ys) from ⟨hz, its, r', IsTup.new _ _⟩)
    exact ⟨.ref h'.objs.size, _, I2, rfl, q _ (I1.hok.fresh (Nat.le_refl _))⟩
  · obtain ⟨its, r', pl, hz⟩ := I.tuple hq
    exact call_tuple_same pl ⟨.ref p, H, I, rfl, q⟩



def tyV (K : PySem.W.Frag) (T : String) (x : V) (H : Hp) : Prop := match x with
  | .str _ => T = "str"
  | .int _ => T = "int"
  | .ref p => (T = "list" ∧ ∃ xs, SqL K H p xs) ∨ (T = "tuple" ∧ ∃ o, K.lookup p = some o ∧ o.cls = .type "tuple" ∧ o.dict = none) ∨
      (T = "dict" ∧ ((∃ kvs, H p = some (.dK kvs)) ∨ ∃ kvs, H p = some (.dT kvs))) ∨ (T = "set" ∧ ∃ S n, H p = some (.set S n))
  | _ => False
theorem tyV_is {pins : List (Addr × Obj)} {σ : St} {H : Hp} {s : Shared} {T : String} {x : V} {v : Value} (I : Inv X pins σ H s) (r : RelV x v) (ty : tyV X.K T x H) :
    s.TypeIs v T ∧ ∀ a, v = .ref a → ∃ ob, s.heap.get? a = some ob ∧ ob.dict = none := by
  cases x with
  | str z =>
    obtain ⟨t, rfl⟩ := r
    cases (show T = "str" from ty)
    exact ⟨typeIs_str s z t, fun _ e => nomatch e⟩
  | int i =>
    obtain ⟨t, rfl⟩ := r
    cases (show T = "int" from ty)
    exact ⟨typeIs_int s i t, fun _ e => nomatch e⟩
  | ref p =>
    cases r
    rcases ty with ⟨rfl, xs, hq⟩ | ⟨rfl, o, hk, hc, hd⟩ | ⟨rfl, hk⟩ | ⟨rfl, S, n, hk⟩
    · obtain ⟨its, _, pl, _⟩ := I.list hq
      refine ⟨pl.isList.typeIs, fun a e => ?_⟩
      cases e
      obtain ⟨o, n, e, c, hd, _⟩ := pl
      exact ⟨o, e, hd⟩
    · refine ⟨⟨o, I.kIn p o hk, hc⟩, fun a e => ?_⟩
      cases e
      exact ⟨o, I.kIn _ o hk, hd⟩
    · have z : ∃ o, s.heap.get? p = some o ∧ o.ExactDict := by
        rcases hk with ⟨kvs, hk⟩ | ⟨kvs, hk⟩
        · obtain ⟨_, _, _, _, o, _, _, e, ex, _⟩ := I.hok p _ hk
          exact ⟨o, e, ex⟩
        · obtain ⟨_, _, _, _, o, _, _, e, ex, _⟩ := I.hok p _ hk
          exact ⟨o, e, ex⟩
      obtain ⟨o, e, ex⟩ := z
      refine ⟨⟨o, e, ex.1⟩, fun a e2 => ?_⟩
      cases e2
      exact ⟨o, e, ex.2.1⟩
    · obtain ⟨o, _, _, _, e, ex, _⟩ := I.hok p _ hk
      refine ⟨⟨o, e, ex.1⟩, fun a e2 => ?_⟩
      cases e2
      exact ⟨o, e, ex.2.1⟩
  | _ => exact False.elim ty
def tBM0 (K : PySem.W.Frag) (T : String) (r : V → List V → Hp → VK → Prop) (to : TE) : TE := fun σ H Q => to σ H fun x H1 => tyV K T x H1 ∧ r x [] H1 Q
def tBM (K : PySem.W.Frag) (T : String) (r : V → List V → Hp → VK → Prop) (to : TE) (t : TA) : TE := fun σ H Q => to σ H fun x H1 => tyV K T x H1 ∧ t σ H1 fun xs H2 => r x xs H2 Q
variable {o e : Expr} {es : List Expr} {to : TE} {t : TA} {name : Str} {apos cpos : Pos} {T id : String} {r : V → List V → Hp → VK → Prop}
theorem pe_bm (pa : PlainAttrs T) (slot : Slot T name id) (hty : typeOf (.builtin id) = pure (.type "method_descriptor")) (hm : MtR X id r) (ho : PE X o to) (ha : PA X (e :: es) t)
    (hbase : attributeBase o name X.env (eval o X.env) = eval o X.env := by rfl)
    (hfew : ((backTo cpos (starEach (e :: es) X.env)).all (fun x => !x.1) && (backToKw cpos (keywordEach [] X.env)).all (fun x => x.1.isSome)
      && decide ((e :: es).length + ([] : List Keyword).length + (if ([] : List Keyword).isEmpty then 0 else 1) < 30)) = true := by rfl)
    (hline : (apos.endLine == cpos.line) = true := by rfl) (hs : starEach (e :: es) X.env = (false, eval e X.env) :: starEach es X.env := by rfl) (hplain : (backTo cpos (starEach es X.env)).any (·.1) = false := by rfl) :
    PE X (.Call (.Attribute o name apos) (e :: es) [] cpos) (tBM X.K T r to t) := by
  intro pins s σ H Q I h
  refine wpAny_Call_method_late hbase hfew hline rfl (thn (ho pins s σ H _ I h) fun v s1 ⟨x, H1, I1, r1, ty, q1⟩ => ?_)
  obtain ⟨h1, h2⟩ := tyV_is I1 r1 ty
  refine ⟨T, id, pa, slot, hty, h1, h2, ?_⟩
  have hA := ha cpos pins s1 σ H1 _ I1 q1
  rw [hs] at hA ⊢
  refine Calls.callWith_builtin (by show (false || (backTo cpos (starEach es X.env)).any (·.1)) = false; rw [hplain] <;> rfl) (Calls.evalArgs_plain ?_)
  exact thn hA fun us s2 ⟨vs, H2, I2, r2, q2⟩ => hm pins s2 σ H2 x vs v us Q I2 r1 r2 q2

end
end L2

namespace L2
open PySem PySem.Spec PyProof.Rows

def MtM (X : Cx) (id : String) (r : V → List V → Hp → VK → Prop) : Prop :=
  ∀ (pins : List (Addr × Obj)) (s : Shared) (σ : St) (H : Hp) (x : V) (xs : List V) (v : Value) (us : List Value) (Q : VK), Inv X pins σ H s → RelV x v → Vals xs us → r x xs H Q →
    wpAny (model X.prog X.w) X.A (call (.builtin id) (v :: us)) (EP X pins σ Q) X.xe s


theorem Vals.one : ∀ {x : V} {us : List Value}, Vals [x] us → ∃ u, us = [u] ∧ RelV x u
  | _, _, .cons r .nil => ⟨_, rfl, r⟩
theorem Vals.two : ∀ {x y : V} {us : List Value}, Vals [x, y] us → ∃ u v, us = [u, v] ∧ RelV x u ∧ RelV y v
  | _, _, _, .cons r (.cons q .nil) => ⟨_, _, rfl, r, q⟩
theorem Vals.zero : ∀ {us : List Value}, Vals [] us → us = []
  | _, .nil => rfl
theorem Vals.dropLast {xs : List V} {us : List Value} (h : Vals xs us) : Vals xs.dropLast us.dropLast := by
  induction h with
  | nil => exact .nil
  | cons r t ih =>
    cases t with
    | nil => exact .nil
    | cons q t' => exact .cons r ih
theorem Vals.eraseIdx : ∀ {xs : List V} {us : List Value} (i : Nat), Vals xs us → Vals (xs.eraseIdx i) (us.eraseIdx i)
  | _, _, _, .nil => .nil
  | _, _, 0, .cons _ t => t
  | _, _, i + 1, .cons r t => .cons r (Vals.eraseIdx i t)
theorem Vals.reverse {xs : List V} {us : List Value} (h : Vals xs us) : Vals xs.reverse us.reverse := by
  induction h with
  | nil => exact .nil
  | cons r t ih => rw [List.reverse_cons, List.reverse_cons]; exact Vals.append ih (.cons r .nil)
theorem len_erase {α : Type} : ∀ (l : List α) (i : Nat), (l.eraseIdx i).length ≤ l.length
  | [], _ => Nat.le_refl _
  | _ :: _, 0 => Nat.le_succ _
  | _ :: r, i + 1 => Nat.succ_le_succ (len_erase r i)
section
variable {X : Cx} {pins : List (Addr × Obj)} {σ : St} {H : Hp} {s : Shared} {l b : Addr} {xs ys zs : List V}


theorem Inv.lset {its its' : List Value} {n : Nat} {f : Array Value → Array Value} {t' : Nat} (I : Inv X pins σ H s) (hH : H l = some (.lst xs))
    (e : s.heap.get? l = some { cls := .type "list", data := .seq its.toArray n }) (hf : f its.toArray = its'.toArray) (hv : Vals ys its') (hz : ys.length ≤ sizeLine) :
    Inv X pins σ (upd H l (.lst ys)) { s with heap := s.heap.update l (Obj.mapSeq f), toks := t' } := by
  have q := PySem.IsL.update e f
  rw [hf] at q
  refine I.write (x := l) (e := l) (by rw [hH]; exact trivial) (.inl rfl) (fun b' u hb hu => (Heap.get?_update_other s.heap (Obj.mapSeq f) (Ne.symm hb)).trans hu) ⟨_, q⟩ ?_
  exact ⟨hz, its', _, hv, q⟩
theorem Inv.lnew {its : List Value} {t' : Nat} (I : Inv X pins σ H s) (hv : Vals ys its) (hz : ys.length ≤ sizeLine) :
    Inv X pins σ (upd H s.heap.objs.size (.lst ys)) { s with heap := s.heap.push { cls := .type "list", data := .seq its.toArray }, toks := t' } :=
  I.laid (fun _ _ q => Heap.get?_push_of_some _ q) (Nat.le_refl _) ⟨hz, its, 0, hv, Heap.get?_push_size _ rfl⟩
theorem Inv.fresh (I : Inv X pins σ H s) : H s.heap.objs.size = none := I.hok.fresh (Nat.le_refl _)
theorem Inv.lstM (I : Inv X pins σ H s) (hH : H l = some (.lst xs)) : xs.length ≤ sizeLine ∧ ∃ (its : List Value) (n : Nat), Vals xs its ∧ xs.length = its.length ∧ s.heap.get? l = some { cls := .type "list", data := .seq its.toArray n } := by
  obtain ⟨z, its, n, r, e⟩ := I.hok l _ hH
  exact ⟨z, its, n, r, r.length, e⟩

end

section
variable {X : Cx}


def rAppend : V → List V → Hp → VK → Prop := fun x vs H Q => ∃ l xs y, x = .ref l ∧ vs = [y] ∧ H l = some (.lst xs) ∧ xs.length < sizeLine ∧ Q .non (upd H l (.lst (xs ++ [y])))
theorem mt_append : MtM X "list.append" rAppend := by
  intro pins s σ H x vs v us Q I rx rv h
  obtain ⟨l, xs, y, rfl, rfl, hH, hz, q⟩ := h
  cases rx
  obtain ⟨u, rfl, ru⟩ := rv.one
  obtain ⟨z, its, n, r, hl, e⟩ := I.lstM hH
  refine call_meets F.slot_list_append ⟨_, e, rfl⟩ F.entry_list_append (F.args_list_append_2 _ _) (PySem.list_append l its.toArray n u (by rw [List.size_toArray]; omega)) ⟨e, ?_⟩
  refine ⟨.non, _, I.lset (its' := its ++ [u]) hH e (by simp) (r.append (.cons ru .nil)) ?_, rfl, q⟩
  rw [List.length_append, List.length_singleton]
  omega

def rExtend : V → List V → Hp → VK → Prop := fun x vs H Q => ∃ l b xs zs, x = .ref l ∧ vs = [.ref b] ∧ H l = some (.lst xs) ∧ H b = some (.lst zs) ∧ xs.length + zs.length ≤ sizeLine ∧ Q .non (upd H l (.lst (xs ++ zs)))
def rPop : V → List V → Hp → VK → Prop := fun x vs H Q => ∃ l xs y, x = .ref l ∧ vs = [] ∧ H l = some (.lst xs) ∧ xs[xs.length - 1]? = some y ∧ Q y (upd H l (.lst xs.dropLast))
def rPopAt : V → List V → Hp → VK → Prop := fun x vs H Q => ∃ l xs i k y, x = .ref l ∧ vs = [.int i] ∧ H l = some (.lst xs) ∧ -(2 ^ 63) ≤ i ∧ i < 2 ^ 63 ∧ seqIndex? i xs.length = some k ∧ xs[k]? = some y ∧ Q y (upd H l (.lst (xs.eraseIdx k)))
theorem mt_popAt : MtM X "list.pop" rPopAt := by
  intro pins s σ H x vs v us Q I rx rv h
  obtain ⟨l, xs, i, k, y, rfl, rfl, hH, h1, h2, hk, hy, q⟩ := h
  cases rx
  obtain ⟨u, rfl, ru⟩ := rv.one
  obtain ⟨t, rfl⟩ := ru
  obtain ⟨z, its, n, r, hl, e⟩ := I.lstM hH
  obtain ⟨w, hw, rw'⟩ := r.get hy
  refine call_meets F.slot_list_pop ⟨_, e, rfl⟩ F.entry_list_pop (F.args_list_pop_2 _ _)
    (MeetsSeq.list_pop_at l its.toArray n i t k w (fitsIndex_both h1 h2) (by rw [List.size_toArray, ← hl]; exact hk) (by rw [← Array.getElem?_toList]; exact hw) (by rw [List.size_toArray]; omega)) ⟨e, ?_⟩
  refine ⟨y, _, I.lset (its' := its.eraseIdx k) hH e ?_ (r.eraseIdx k) ?_, rw', q⟩
  · show its.toArray.eraseIdxIfInBounds k = (its.eraseIdx k).toArray
    rw [List.eraseIdxIfInBounds_toArray]
  · have := len_erase xs k
    omega

def rCat : R2 := fun x y H Q => ∃ l b xs zs, x = .ref l ∧ y = .ref b ∧ H l = some (.lst xs) ∧ H b = some (.lst zs) ∧ xs.length + zs.length ≤ sizeLine ∧ ∀ p, H p = none → Q (.ref p) (upd H p (.lst (xs ++ zs)))
theorem op_cat : OpR X (binaryOp .Add) rCat := by
  intro pins s σ H x y v u Q I rx ry h
  obtain ⟨l, b, xs, zs, rfl, rfl, hH, hB, hz, q⟩ := h
  cases rx
  cases ry
  obtain ⟨z, its, n, r, hl, e⟩ := I.lstM hH
  obtain ⟨z2, its2, n2, r2, hl2, e2⟩ := I.lstM hB
  refine PySem.P.add_list e e2 ?_ (by rw [List.size_toArray, List.size_toArray]; omega)
  have ea : its.toArray ++ its2.toArray = (its ++ its2).toArray := by simp
  rw [ea]
  exact ⟨.ref _, _, I.lnew (t' := s.toks) (r.append r2) (by rw [List.length_append]; omega), rfl, q _ I.fresh⟩

def rRep : R2 := fun x y H Q => ∃ l k xs, x = .ref l ∧ y = .int k ∧ H l = some (.lst xs) ∧ -(2 ^ 63) ≤ k ∧ k < 2 ^ 63 ∧ xs.length * k.toNat ≤ sizeLine ∧
  ∀ p, H p = none → Q (.ref p) (upd H p (.lst (List.replicate k.toNat xs).flatten))
end


section
variable {prog : Program} {w : World} {A : Around} {E : Value → Shared → Prop} {s : Shared}
end

section
variable {X : Cx}

end
end L2

namespace Att
open PySem PySem.W PySem.Calls PyProof.Rows


theorem ints_of_wellAll {P : Params} {h : Heap} : ∀ (ns : List Int) (vs : List Value), WellAll P h vs (ns.map WData.int) → IntsAre vs ns := by
  intro ns
  induction ns with
  | nil =>
    intro vs w
    rw [List.map_nil] at w
    cases w
    exact .nil
  | cons n ns ih =>
    intro vs w
    rw [List.map_cons] at w
    cases w with
    | cons a b =>
      cases a
      exact .cons _ _ (ih _ b)

theorem script_of {l : OpenLaw} {n : Nat} (hn : l.most = some n) {P : Params} {h : Heap} {args : List WData} {vals : List Value}
    (hpre : l.row.toRowW.claim.pre args = true) (hwl : WellAll P h vals args) :
    ∃ a vs ns, vals = [Value.ref a] ∧ args = [WData.list (ns.map WData.int)] ∧ h.get? a = some { cls := .type "list", data := .seq vs.toArray } ∧ IntsAre vs ns ∧ ns.length ≤ n := by
  have hsh : WShape.hasAll [] args [.list .int] = true := (pre_splitW hpre).1
  have hc : l.pre.holds [] { args := args } = true := (pre_splitW hpre).2
  obtain ⟨d, r, rfl, h1, h2⟩ := hasAllW_cons hsh
  obtain rfl := hasAllW_nil h2
  obtain ⟨xs, rfl, h3⟩ := hasW_list h1
  obtain ⟨ns, rfl⟩ := items_int h3
  have hlen : ns.length ≤ n := by
    unfold OpenLaw.pre at hc
    have h4 : (WTm.not (.lt (.lit (.int (n : Int))) (.len (.arg 0)))).holds [] { args := [.list (ns.map .int)] } = true := by
      have h4 := (holds_andW hc).1
      rw [hn] at h4
      exact h4
    have h5 := condW_of h4 (w_not (w_lt w_lit (w_len_list (w_arg rfl))))
    rw [List.length_map] at h5
    refine Nat.le_of_not_lt fun q => ?_
    have q' : (n : Int) < ((ns.length : Nat) : Int) := by omega
    first
      | (rw [decide_eq_true q'] at h5; exact absurd h5 (by decide))
      | (simp at h5; omega)
  cases hwl with
  | cons w1 w2 =>
    cases w2
    cases w1 with
    | list ho hall => exact ⟨_, _, ns, rfl, rfl, ho, ints_of_wellAll ns _ hall, hlen⟩

theorem post_true (l : OpenLaw) (args : List WData) : l.row.toRowW.claim.post args (.bool true) args = true :=
  postW_of (r := l.row.toRowW) (X := (true == true))
    (show WShape.has [] (.bool true) .bool = true by first | rfl | decide | simp [WShape.has, WShape.arms, WShape.armsAll])
    (show (WTm.eq .res (.lit (.bool true))).value [] { args := args, res := some (.bool true), after := args } = some (.bool (true == true)) from w_eq_bool (w_res rfl) w_lit) rfl


theorem attach_call {l : OpenLaw} {n : Nat} {q : Program} {loose : List Str} {XP : (Str → Option Value) → Heap → Prop} {YP : World → Heap → Prop} {d : DefRec}
    (hn : l.most = some n) (hdf : d.params.defaults = [])
    (call : ∀ (w : World) (s₀ s₁ : Shared) (mg mb : Str → Option Value) (fa : Addr) (o : Obj) (pm cd doc : Value) (a : Addr) (vs : List Value) (ns : List Int),
      Ground q loose [] XP w s₀ mg mb s₁.heap → YP w s₁.heap →
      s₁.heap.get? fa = some o → o.data = .func (docDef d.name d.params d.body d.scope pm cd doc) → s₁.heap.CodeRec cd d.name → mg d.name = some (.ref fa) →
      s₁.heap.get? a = some { cls := .type "list", data := .seq vs.toArray } → IntsAre vs ns → ns.length ≤ n → s₁.gens = #[] →
      codeAny (model l.prog w) callerA (.call (.ref fa) ⟨[.ref a], []⟩) (fun r s' => r = .ok (.ret (.bool true)) ∧ OldK s₁.heap s'.heap ∧ s'.os = s₁.os ∧ AllBare s'.gens) s₁) :
    WalkO q loose XP YP l.row.toRowW d [] (fun f vs => PySem.call f vs) := by
  intro w s₀ s₁ mg mb G Y fa o pm cd doc dV kV ho hd hcd hD hmg hg args vals as hpre hlay hrd hwl hlo
  obtain rfl : dV = .none := Dflts.none hD hdf
  obtain rfl : kV = .none := Dflts.noKw hD
  obtain ⟨a, vs, ns, rfl, rfl, hobj, hints, hlen⟩ := script_of hn hpre hwl
  refine enter_call (codeAny_mono (call w s₀ s₁ mg mb fa o pm cd doc a vs ns G Y ho (fd_plain hd) hcd hmg hobj hints hlen hg) fun r s' hq => ?_)
  obtain ⟨rfl, h2, h3, h4⟩ := hq
  exact ⟨.inl ⟨.bool true, .bool true, [], rfl, fun _ => rfl, .bool true, post_true l _, fun _ => ⟨List.Pairwise.nil, fun _ hm => (nomatch hm)⟩⟩, h2, h3, h4⟩


section
variable {prog : Program} {w : World} {A : Around} {E : Value → Shared → Prop} {s : Shared} {K : Frag}


end
end Att

namespace L2
open PySem PySem.Spec PyProof.Rows

theorem vals_ints : ∀ {vs : List Value} {ns : List Int}, IntsAre vs ns → Vals (ns.map V.int) vs
  | _, _, .nil => .nil
  | _, _, .cons n t h => .cons ⟨t, rfl⟩ (vals_ints h)


def Only (H : Hp) : Prop := ∀ b, H b = none ∨ ∃ o xs, H b = some (.frz o (.lst xs))


theorem law_call {P : Program} {w : World} {K : PySem.W.Frag} {mg mb : Str → Option Value} {CX : CXT} {k : Nat} {fa a : Addr} {fd : FuncData} {x : Str} {sp : Sp} {s₁ : Shared} {vs : List Value} {ns : List Int}
    (KX : K.In s₁.heap) (hns : s₁.heap.Ns mainGlobals mg) (hb : s₁.heap.Ns builtinsNs mb) (hbb : ∀ x : Str, x ≠ "__name__" → mb x = bootBuiltins x) (hlim : s₁.heap.NoLimit) (hg : s₁.gens = #[])
    (ha : s₁.heap.get? a = some { cls := .type "list", data := .seq vs.toArray }) (hi : IntsAre vs ns) (hl : ns.length ≤ sizeLine) (hr : Room k callerA)
    (F : ∀ base : Heap, K.In base → base.Ns mainGlobals mg → FnOk P w K mg base CX k fa fd [x] sp) (hbind : ∀ (s : Shared) (u : Value), BindsTo s fd ⟨[u], []⟩ [(x, u)])
    (hsp : ∀ H : Hp, Only H → SqL K H a (ns.map V.int) → sp [.ref a] H (fun v _ => v = .bl true) fun _ _ _ => False)
    (hCX : ∀ H e s', CX [] H s₁ (fun _ _ _ => False) e s' → False) :
    codeAny (model P w) callerA (.call (.ref fa) ⟨[.ref a], []⟩) (fun r s' => r = .ok (.ret (.bool true)) ∧ OldK s₁.heap s'.heap ∧ s'.os = s₁.os ∧ AllBare s'.gens) s₁ := by
  have rv := vals_ints hi
  have lenV := hi.length
  -- from an abstract heap in which nothing but the script may be tracked
  have core : ∀ H : Hp, Only H → SqL K H a (ns.map V.int) → HOk P w H s₁.heap → (∀ b, H b ≠ none → b = a) → (H a ≠ none → K.lookup a = none) →
      codeAny (model P w) callerA (.call (.ref fa) ⟨[.ref a], []⟩) (fun r s' => r = .ok (.ret (.bool true)) ∧ OldK s₁.heap s'.heap ∧ s'.os = s₁.os ∧ AllBare s'.gens) s₁ := by
    intro H hO hS hok hA hK
    have base_of : ∀ {b : Addr} {o : Obj}, s₁.heap.get? b = some o → H b = none → (hidT s₁.heap H).get? b = some o := fun e n => hidT_get e n
    have noA : ∀ {b : Addr} {o : Obj} {es : Array DictEntry} {ep : Nat}, s₁.heap.get? b = some o → o.data = .dict es ep → H b = none := fun {b o es ep} e d => by
      cases q : H b with
      | none => rfl
      | some u =>
        have e' : b = a := hA b (by rw [q]; simp)
        subst e'
        rw [ha] at e; cases e
        have d' : Data.seq vs.toArray _ = Data.dict es ep := d
        cases d'
    have nsK : ∀ {b : Addr} {m : Str → Option Value}, s₁.heap.Ns b m → (hidT s₁.heap H).Ns b m := fun {b m} ⟨o, es, ep, e, d, r⟩ => ⟨o, es, ep, base_of e (noA e d), d, r⟩
    have hKb : K.In (hidT s₁.heap H) := fun b o e => base_of (KX b o e) (by
      cases q : H b with
      | none => rfl
      | some u =>
        have e' : b = a := hA b (by rw [q]; simp)
        subst e'
        rw [hK (by rw [q]; simp)] at e; cases e)
    have hM : Mod K mg (hidT s₁.heap H) := ⟨hKb, nsK hns, ⟨mb, nsK hb, hbb⟩, let ⟨mc, h1, h2⟩ := hlim; ⟨mc, nsK h1, h2⟩⟩
    have e0 : Env0 P w K mg (hidT s₁.heap H) callerA [] s₁ H := ⟨rfl, hM, fun b o e => of_hidT e, Nat.le_of_eq (hidT_size _ _), trivial, fun b hb => absurd (show b ∈ ([] : List Addr) from hb) (by simp), hok, .of_eq hg⟩
    refine codeAny_mono ((F _ hKb (nsK hns)).run callerA [] s₁ H ⟨[.ref a], []⟩ [.ref a] [.ref a] _ _ hr e0 (hbind s₁ (.ref a)) (.cons rfl .nil) (hsp H hO hS)) fun r s' h => ?_
    cases r with
    | error e => exact (hCX H e s' h).elim
    | ok fl =>
      cases fl with
      | next => exact False.elim h
      | brk => exact False.elim h
      | cont => exact False.elim h
      | ret u =>
        obtain ⟨v, H', os, bare, un, hok', r', q⟩ := h
        have q' : v = .bl true := q
        subst q'
        obtain rfl : u = Value.bool true := r'
        refine ⟨rfl, OldK.of_keep fun b o e => ?_, os, bare⟩
        cases q : H b with
        | none => exact un.keep b o e q (by intro z; exact absurd (show b ∈ ([] : List Addr) from z) (by simp)) (by simp)
        | some u =>
          rcases hO b with z | ⟨ob, xs, z⟩
          · rw [q] at z; cases z
          · have z2 := un.frzs b ob _ z
            obtain ⟨e1, _⟩ := hok b _ z
            obtain ⟨e2, _⟩ := hok' b _ z2
            rw [e] at e1; cases e1
            exact e2
  cases hk : K.lookup a with
  | some o =>
    -- the script is one of the module's own objects
    have e := KX a o hk
    rw [ha] at e
    cases e
    refine core (fun _ => none) (fun _ => .inl rfl) (.inr ⟨_, vs.toArray, _, hk, rfl, rfl, rfl, by rw [List.size_toArray, lenV]; exact hl, by simpa using rv⟩) (fun b u z => by have z' : (none : Option HO) = some u := z; cases z') (fun b z => absurd rfl z) fun z => absurd rfl z
  | none =>
    refine core (fun b => if b = a then some (.frz { cls := .type "list", data := .seq vs.toArray } (.lst (ns.map V.int))) else none) (fun b => ?_) (.inl (.inr ⟨{ cls := .type "list", data := .seq vs.toArray }, if_pos rfl⟩)) (fun b u z => ?_) (fun b z => ?_) fun _ => hk
    · by_cases hb : b = a
      · exact .inr ⟨_, _, if_pos hb⟩
      · exact .inl (if_neg hb)
    · by_cases hb : b = a
      · have z' := (if_pos hb).symm.trans z
        cases z'
        subst hb
        exact ⟨ha, by rw [List.length_map]; exact hl, vs, _, rv, ha⟩
      · have z' := (if_neg hb).symm.trans z
        cases z'
    · by_cases hb : b = a
      · exact hb
      · exact absurd (if_neg hb) z
end L2

namespace L2
open PySem PySem.Spec PyProof.Rows

theorem walk_of {l : PySem.W.OpenLaw} {n k : Nat} {q : Program} {loose : List Str} {XP : (Str → Option Value) → Heap → Prop} {YP : World → Heap → Prop} {d : DefRec} {K : Params → PySem.W.Frag} {CX : World → CXT} {sp : World → Sp} {x : Str}
    (hn : l.most = some n) (hn2 : n ≤ sizeLine) (hdf : d.params.defaults = []) (hr : Room k callerA)
    (hY : ∀ (w : World) (h : Heap), YP w h → (K w.params).In h)
    (F : ∀ (w : World) (mg : Str → Option Value) (fa : Addr) (h : Heap), (K w.params).In h → h.Ns mainGlobals mg → mg d.name = some (.ref fa) →
      ∃ fd : FuncData, (∀ (s : Shared) (u : Value), BindsTo s fd ⟨[u], []⟩ [(x, u)]) ∧
        ∀ base : Heap, (K w.params).In base → base.Ns mainGlobals mg → FnOk l.prog w (K w.params) mg base (CX w) k fa fd [x] (sp w))
    (hsp : ∀ (w : World) (H : Hp) (a : Addr) (ns : List Int), ns.length ≤ n → Only H → SqL (K w.params) H a (ns.map V.int) → sp w [.ref a] H (fun v _ => v = .bl true) fun _ _ _ => False)
    (hCX : ∀ (w : World) (H : Hp) (s : Shared) (e : Value) (s' : Shared), CX w [] H s (fun _ _ _ => False) e s' → False) :
    PySem.W.WalkO q loose XP YP l.row.toRowW d [] (fun f vs => PySem.call f vs) := by
  refine Att.attach_call hn hdf fun w s₀ s₁ mg mb fa o pm cd doc a vs ns G Y ho hd hcd hmg hobj hints hlen hg => ?_
  have KX := hY w _ Y
  obtain ⟨fd, hb, hF⟩ := F w mg fa _ KX G.T.g hmg
  exact law_call KX G.T.g G.T.b G.T.builtins G.T.nolimit hg hobj hints (Nat.le_trans hlen hn2) hr hF hb (fun H hO hS => hsp w H a ns hlen hO hS) fun H e s' => hCX w H s₁ e s'

end L2




namespace L2
open PySem PySem.Spec PyProof.Rows



def defArgs (s : Stmt) : Arguments := match s with
  | .FunctionDef _ a _ _ _ _ _ _ _ _ => a
  | _ => { posonlyargs := [], args := [], vararg := none, kwonlyargs := [], kw_defaults := [], kwarg := none, defaults := [] }
def defBody (s : Stmt) : List Stmt := match s with
  | .FunctionDef _ _ b _ _ _ _ _ _ _ => b
  | _ => []
def defScope (s : Stmt) : Scope := match s with
  | .FunctionDef _ _ _ _ _ _ sc _ _ _ => sc
  | _ => { kind := .function, names := [], isGenerator := false, isCoroutine := false }


abbrev CX0 : CXT := fun _ _ _ _ _ _ => False
abbrev E0 : XK := fun _ _ _ => False
structure Fun (K : PySem.W.Frag) (x qual : Str) (st : Stmt) (f : Addr) (fd : FuncData) : Prop where
  ex : ∃ (oc : Value) (od : Option Addr) (kV doc pm : Value) (an : Option Addr) (cdv ct : Value) (osl : Array (Option Value)),
    fd = PySem.W.fnOf x qual (defArgs st) (defBody st) (defScope st) .none kV doc pm an cdv ct ∧ K.lookup f = some ⟨oc, od, .func fd, osl⟩ ∧ PySem.W.codeIn K cdv qual = true
  kp : PySem.W.keepIn K (.ref f) = true
section
variable {P : Program} {w : World} {K : PySem.W.Frag} {mg : Str → Option Value} {base : Heap}

theorem Fun.ok {x qual : Str} {st : Stmt} {f : Addr} {fd : FuncData} {N ps : List Str} {k : Nat} {sp : Sp} (F : Fun K x qual st f fd) (S : FnScope N ps (defScope st)) (len : ∀ vs H Q E, sp vs H Q E → vs.length = ps.length)
    (hbody : ∀ (cdv : Value) (A : Around) (outer : List Env) (s : Shared) (H : Hp) (vs : List V) (Q : VK) (E : XK), Room k (A.deeper (envOfC qual (defScope st) s.heap.objs.size f cdv)) → sp vs H Q E →
      ∃ t, PSs (cxOf CX0 P w K mg base N qual (defScope st) f cdv A outer s H E).nox (defBody st) t ∧ t { nx := fun _ H' => Q .non H', rt := Q } (start N vs) H) : FnOk P w K mg base CX0 (k + 1) f fd ps sp := by
  obtain ⟨oc, od, kV, doc, pm, an, cdv, ct, osl, rfl, lk, hcd⟩ := F.ex
  refine fn_of lk hcd S len fun A outer s H vs Q E hr hsp => ?_
  obtain ⟨t, h, q⟩ := hbody cdv A outer s H vs Q E hr hsp
  exact ⟨t, h.nox, q⟩

theorem Fun.binds {x qual : Str} {st : Stmt} {f : Addr} {fd : FuncData} {ps : List Str} (F : Fun K x qual st f fd)
    (h : ∀ (kV doc pm : Value) (an : Option Addr) (cdv ct : Value) (us : List Value), us.length = ps.length → bindArgs (PySem.W.fnOf x qual (defArgs st) (defBody st) (defScope st) .none kV doc pm an cdv ct) ⟨us, []⟩ = pure (ps.zip us)) : Binds K fd ps [] := by
  obtain ⟨oc, od, kV, doc, pm, an, cdv, ct, osl, rfl, lk, hcd⟩ := F.ex
  exact .all (h kV doc pm an cdv ct)
theorem fun_mk {x qual : Str} {st : Stmt} {f : Addr} {oc : Value} {od an : Option Addr} {osl : Array (Option Value)} {kV doc pm cdv ct : Value} (l : K.lookup f = some ⟨oc, od, .func (PySem.W.fnOf x qual (defArgs st) (defBody st) (defScope st) .none kV doc pm an cdv ct), osl⟩)
    (c : PySem.W.codeIn K cdv qual = true) (k : PySem.W.keepIn K (.ref f) = true) : Fun K x qual st f (PySem.W.fnOf x qual (defArgs st) (defBody st) (defScope st) .none kV doc pm an cdv ct) := ⟨⟨oc, od, kV, doc, pm, an, cdv, ct, osl, rfl, l, c⟩, k⟩
end
section
variable {X : Cx}
theorem pv (i : Nat) {x : Str} {pos : Pos} (hN : X.N[i]? = some x := by rfl) (hv : Vis X.env.scope x := by first | exact Or.inl rfl | exact Or.inr (Or.inl rfl) | exact Or.inr (Or.inr rfl)) (hd : (x == ("__debug__" : Str)) = false := by decide)
    (hcd : (x == ("__classdict__" : Str)) = false := by decide) : PE X (.Name x pos) (tVar i) := pe_var hN hv hd hcd
end


theorem ite2 {c A B : Prop} [Decidable c] (h1 : c → A) (h2 : ¬ c → B) : if c then A else B := by
  by_cases h : c
  · rw [if_pos h]
    exact h1 h
  · rw [if_neg h]
    exact h2 h
def Same (H H' : Hp) : Prop := ∀ b o, H b = some o → H' b = some o
theorem Same.refl (H : Hp) : Same H H := fun _ _ h => h
theorem Same.trans {H H1 H2 : Hp} (a : Same H H1) (b : Same H1 H2) : Same H H2 := fun c o h => b c o (a c o h)
theorem Same.free {H H' : Hp} (e : Same H H') {l : Addr} (h : H' l = Option.none) : H l = Option.none := by
  cases q : H l with
  | none => rfl
  | some o =>
    rw [e l o q] at h
    cases h
theorem Same.seq {K : PySem.W.Frag} {H H' : Hp} {a : Addr} {xs : List V} (e : Same H H') (h : SqL K H a xs) : SqL K H' a xs := by
  rcases h with (h | ⟨o, h⟩) | h
  · exact .inl (.inl (e _ _ h))
  · exact .inl (.inr ⟨o, e _ _ h⟩)
  · exact .inr h

end L2


set_option Elab.async false
set_option linter.all false
set_option maxRecDepth 100000
set_option maxHeartbeats 1000000
namespace L2
open PySem PySem.Spec PyProof.Rows


theorem closure_in {env : Env} : ∀ (names : List (Str × NameKind)) (cs0 : List (Str × Addr)), (∀ y ∈ names, y.2 = .free → ∃ c, env.cells.lookup y.1 = some c) →
    ∃ cl, (forIn names cs0 (fun (x : Str × NameKind) r => (do
      match x with
      | (name, kind) => if (kind == NameKind.free) = true then do let a ← cellOf env name; pure (ForInStep.yield ((name, a) :: r)) else pure (ForInStep.yield r)) : _ → _ → Sem (ForInStep (List (Str × Addr))))) = pure cl ∧
      (∀ p ∈ cl, p ∈ cs0 ∨ env.cells.lookup p.1 = some p.2) ∧ (∀ p ∈ cs0, p ∈ cl) ∧ (∀ y ∈ names, y.2 = .free → ∃ c, (y.1, c) ∈ cl)
  | [], cs0, _ => ⟨cs0, rfl, fun p h => .inl h, fun p h => h, fun y h => by cases h⟩
  | (n, k) :: r, cs0, h => by
    by_cases hk : k = .free
    · subst hk
      obtain ⟨c, hc⟩ := h (n, .free) (.head _) rfl
      obtain ⟨cl, e, h1, h2, h3⟩ := closure_in r ((n, c) :: cs0) fun y hy => h y (.tail _ hy)
      refine ⟨cl, ?_, fun p hp => ?_, fun p hp => h2 p (.tail _ hp), fun y hy hf => ?_⟩
      · rw [List.forIn_cons]
        have e1 : cellOf env n = pure c := by unfold cellOf; rw [hc]
        simp only [beq_self_eq_true, if_true, e1, pure_bind]
        exact e
      · rcases h1 p hp with q | q
        · rcases List.mem_cons.mp q with q | q
          · subst q; exact .inr hc
          · exact .inl q
        · exact .inr q
      · rcases List.mem_cons.mp hy with q | q
        · subst q; exact ⟨c, h2 _ (.head _)⟩
        · exact h3 y q hf
    · obtain ⟨cl, e, h1, h2, h3⟩ := closure_in r cs0 fun y hy => h y (.tail _ hy)
      refine ⟨cl, ?_, h1, h2, fun y hy hf => ?_⟩
      · rw [List.forIn_cons]
        have e1 : (k == NameKind.free) = false := by cases k <;> first | rfl | exact absurd rfl hk
        simp only [e1, Bool.false_eq_true, if_false, pure_bind]
        exact e
      · rcases List.mem_cons.mp hy with q | q
        · subst q; exact absurd hf hk
        · exact h3 y q hf
theorem lookup_relabel_inv {env : Env} : ∀ {names : List (Str × NameKind)} {x : Str} {k : NameKind}, (names.map fun (n, k) => if (k == NameKind.free && env.scope.kind == .function && env.kindOf n == some .cell) then (n, NameKind.cell) else (n, k)).lookup x = some k →
    ∃ k', names.lookup x = some k' ∧ (k = k' ∨ (k' = .free ∧ k = .cell))
  | [], _, _, h => by simp at h
  | (n, k0) :: r, x, k, h => by
    by_cases hx : x = n
    · subst hx
      refine ⟨k0, by simp, ?_⟩
      simp only [List.map_cons] at h
      split at h
      · rename_i hc
        simp only [Bool.and_eq_true, beq_iff_eq] at hc
        simp only [List.lookup_cons_self, Option.some.injEq] at h
        exact .inr ⟨hc.1.1, h.symm⟩
      · simp only [List.lookup_cons_self, Option.some.injEq] at h
        exact .inl h.symm
    · have hb : (x == n) = false := by simpa using hx
      simp only [List.map_cons] at h
      have e2 : ∀ k1, ((n, k1) :: r).lookup x = r.lookup x := fun k1 => by simp [List.lookup_cons, hb]
      split at h <;> (simp only [List.lookup_cons, hb] at h; obtain ⟨k', h1, h2⟩ := lookup_relabel_inv h; exact ⟨k', by rw [e2]; exact h1, h2⟩)


def compCx (X : Cx) (Nc : List Str) (scope : Scope) (cl : List (Str × Addr)) (C : Addr) (s2 : Shared) (H2 : Hp) (fp : List Addr) : Cx where
  prog := X.prog
  w := X.w
  K := X.K
  mg := X.mg
  base := X.base
  A := X.A
  N := Nc
  s₀ := s2
  H₀ := H2
  env := compEnvC scope cl C X.env
  outer := X.stack
  stack := X.stack
  ex := fp
  fn := fun _ => false
  calm := X.calm
  pn := []
  xe := fun _ _ => False

def iniC (js : List (Option Nat)) (σ : St) : St := js.map fun j => match j with
  | none => none
  | some i => (σ[i]?).join

def takesC (N Nc : List Str) (scope : Scope) : List (Option Nat) → Nat → Bool
  | [], i => i == Nc.length
  | none :: r, i => takesC N Nc scope r (i + 1)
  | some j :: r, i => (match Nc[i]?, N[j]? with
    | some x, some y => x == y && scope.names.lookup x == some .free
    | _, _ => false) && takesC N Nc scope r (i + 1)
theorem takesC_len {N Nc : List Str} {scope : Scope} : ∀ {js : List (Option Nat)} {i : Nat}, takesC N Nc scope js i = true → i + js.length = Nc.length
  | [], i, h => by simpa [takesC] using h
  | none :: r, i, h => by
    have := takesC_len (js := r) (i := i + 1) (by simpa [takesC] using h)
    simp only [List.length_cons]; omega
  | some j :: r, i, h => by
    simp only [takesC, Bool.and_eq_true] at h
    have := takesC_len (js := r) (i := i + 1) h.2
    simp only [List.length_cons]; omega
theorem takesC_at {N Nc : List Str} {scope : Scope} : ∀ {js : List (Option Nat)} {i k j : Nat}, takesC N Nc scope js i = true → js[k]? = some (some j) → ∃ x, Nc[i + k]? = some x ∧ N[j]? = some x ∧ scope.names.lookup x = some .free
  | [], i, k, j, h, e => by simp at e
  | none :: r, i, 0, j, h, e => by simp at e
  | none :: r, i, k + 1, j, h, e => by
    obtain ⟨x, h1, h2, h3⟩ := takesC_at (js := r) (i := i + 1) (k := k) (j := j) (by simpa [takesC] using h) (by simpa using e)
    exact ⟨x, by rw [← h1]; congr 1; omega, h2, h3⟩
  | some j0 :: r, i, 0, j, h, e => by
    simp only [takesC, Bool.and_eq_true] at h
    simp only [List.getElem?_cons_zero, Option.some.injEq] at e
    subst e
    cases e1 : Nc[i]? with
    | none => rw [e1] at h; simp at h
    | some x =>
      cases e2 : N[j0]? with
      | none => rw [e1, e2] at h; simp at h
      | some y =>
        rw [e1, e2] at h
        simp only [Bool.and_eq_true, beq_iff_eq] at h
        exact ⟨x, by simpa using e1, by rw [h.1.1], h.1.2⟩
  | some j0 :: r, i, k + 1, j, h, e => by
    simp only [takesC, Bool.and_eq_true] at h
    obtain ⟨x, h1, h2, h3⟩ := takesC_at (js := r) (i := i + 1) (k := k) (j := j) h.2 (by simpa using e)
    exact ⟨x, by rw [← h1]; congr 1; omega, h2, h3⟩

section
variable {X : Cx}
theorem lookup_mem {names : List (Str × NameKind)} {x : Str} {k : NameKind} (h : names.lookup x = some k) : (x, k) ∈ names := PySem.mem_of_lookup h


theorem codeAny_compLoop_all {prog : Program} {w : World} {A : Around} {R : Result → Shared → Prop} {s : Shared} {elt target iter : Expr} {ifs : List Expr} {scope : Scope} {pos : Pos} {it acc : Value} {env : Env} (I : Nat → Shared → Prop)
    (turn : ∀ n s, I n s → wpAny (model prog w) A (pyNext it) (fun r s₁ => match r with
      | none => R (.ok .next) s₁
      | some v => wpAny (model prog w) A (letOwnedTupleGo target it v) (fun _ s₁ => wpAny (model prog w) A (assign target env v) (fun _ s₂ =>
          wpAny (model prog w) A (forIn ifs true fun c r => if r = true then do let ok ← isTrue c env (eval c env); pure (ForInStep.yield ok) else pure (ForInStep.yield r)) (fun ok s₃ =>
            if ok = true then wpAny (model prog w) A (eval elt env) (fun x s₄ =>
              wpAny (model prog w) A (call (.builtin "list.append") [acc, x]) (fun _ s₅ => ∃ m, m < n ∧ I m s₅) (fun _ _ => False) s₄) (fun _ _ => False) s₃
            else ∃ m, m < n ∧ I m s₃) (fun _ _ => False) s₂) (fun _ _ => False) s₁) (fun _ _ => False) s₁) (fun _ _ => False) s)
    (n : Nat) (h : I n s) :
    codeAny (model prog w) A (.compLoop (.ListComp elt [⟨target, iter, ifs, 0⟩] scope pos) 0 it acc env) R s := by
  refine codeAny_loop rfl I (fun n s hI => ?_) n h
  show wpAny _ A ((compTurn (.ListComp elt [⟨target, iter, ifs, 0⟩] scope pos) 0 it acc env).onRaise (fun x => do noteFrame x env; theTreesLotGoes x)) _ _ s
  refine wpAny_noted ?_
  rw [compTurn_list]
  refine wpAny_bind (wpAny_standAt (wpAny_bind (wpAny_mono (turn n s hI) (fun r s₁ h₁ => ?_) fun _ _ h' => h'.elim)))
  cases r with
  | none => exact wpAny_pure h₁
  | some v =>
    refine wpAny_bind (wpAny_mono h₁ (fun _ s₁' h₁ => ?_) fun _ _ h' => h'.elim)
    refine wpAny_bind (wpAny_mono h₁ (fun _ s₂ h₂ => wpAny_bind (wpAny_mono h₂ (fun ok s₃ h₃ => ?_) fun _ _ h' => h'.elim)) fun _ _ h' => h'.elim)
    cases ok with
    | false => exact wpAny_pure ⟨rfl, h₃⟩
    | true =>
      exact wpAny_bind (wpAny_bind (wpAny_mono h₃ (fun x s₄ h₄ => wpAny_bind (wpAny_mono h₄ (fun _ s₅ h₅ => wpAny_pure (wpAny_pure ⟨rfl, h₅⟩)) fun _ _ h' => h'.elim)) fun _ _ h' => h'.elim))


def PIfs (X : Cx) (ifs : List Expr) (t : TT) : Prop :=
  ∀ (pins : List (Addr × Obj)) (s : Shared) (σ : St) (H : Hp) (Q : Bool → Hp → Prop), Inv X pins σ H s → t σ H Q →
    wpAny (model X.prog X.w) X.A (forIn ifs true fun c r => if r = true then do let ok ← isTrue c X.env (eval c X.env); pure (ForInStep.yield ok) else pure (ForInStep.yield r)) (TP X pins σ Q) X.xe s
def tYes : TT := fun _ H Q => Q true H
theorem pifs_nil : PIfs X [] tYes := fun pins s σ H Q I h => wpAny_tests_nil ⟨H, I, h⟩
theorem pifs_one {c : Expr} {t : TT} (h : PT X c t) : PIfs X [c] t := fun pins s σ H Q I hq => wpAny_tests_one (h pins s σ H Q I hq)


def KeepOn (L : List Nat) (σ σ' : St) : Prop := σ'.length = σ.length ∧ ∀ k, k ∉ L → σ'[k]? = σ[k]?
def OnlyG (g : TG) (L : List Nat) : Prop := ∀ v σ H (Q Q' : St → Hp → Prop), (∀ σ' H', KeepOn L σ σ' → Q σ' H' → Q' σ' H') → g v σ H Q → g v σ H Q'
theorem KeepOn.refl {L : List Nat} {σ : St} : KeepOn L σ σ := ⟨rfl, fun _ _ => rfl⟩
theorem KeepOn.trans {L L' : List Nat} {a b c : St} (x : KeepOn L a b) (y : KeepOn L' b c) : KeepOn (L ++ L') a c :=
  ⟨y.1.trans x.1, fun k hk => (y.2 k fun z => hk (List.mem_append_right _ z)).trans (x.2 k fun z => hk (List.mem_append_left _ z))⟩
theorem only_name {i : Nat} : OnlyG (gName i) [i] := fun v σ H Q Q' hq h => hq _ _ ⟨by simp, fun k hk => by
  rw [List.getElem?_set_ne]
  intro z; subst z; exact hk (by simp)⟩ h
def tComp (wi : TI) (g : TG) (tt : TT) (te : TE) (js : List (Option Nat)) : TE := fun σ H Q => wi σ H fun J H1 => ∃ W : Nat → Nat → List V → Hp → Prop, (∃ m, W 0 m [] H1) ∧ ∀ i m acc H, W i m acc H →
  (J.stop i H ∧ acc.length ≤ sizeLine ∧ ∀ p, H p = none → Q (.ref p) (upd H p (.lst acc))) ∨
  (J.go i H ∧ acc.length < sizeLine ∧ ∀ x H', J.yld i H x H' → g x (iniC js σ) H' fun σ2 H2 => tt σ2 H2 fun b H3 => if b = true then te σ2 H3 fun v H4 => ∃ m', m' < m ∧ W (i + 1) m' (acc ++ [v]) H4 else ∃ m', m' < m ∧ W (i + 1) m' acc H3)


theorem sameBut_refl {C : Addr} {h : Heap} : Heap.SameBut C h h := by
  first | exact Heap.SameBut.refl | exact ⟨rfl, fun _ _ => rfl⟩

end
end L2


set_option Elab.async false
set_option linter.all false
set_option maxRecDepth 100000
set_option maxHeartbeats 1000000
namespace L2
open PySem PySem.Spec PyProof.Rows PySem.W PySem.Builtin.ObjectAttr PySem.Builtin.Getset_descriptor


def ExAt (x C : Addr) (h : Heap) : Prop := ∃ o, h.get? x = some o ∧ o.cls = .ref C

structure ExK (K : Frag) (C : Addr) : Prop where
  dk : hasDictIn K C = true
  ga : findIn K (.ref C) "__getattribute__" = some (some (.builtin "BaseException.__getattribute__"))
  gt : findIn K (.ref C) "__getattr__" = some none
  cl : findIn K (.ref C) "__class__" = some (some (.builtin "object.__class__"))
  gg : specialIn K (.builtin "object.__class__") "__get__" = some (some (.builtin "getset_descriptor.__get__"))
  tk : takesIn K (.builtin "object.__class__") = some true
  mo : mroIn K C (.type "object") = some true
  mb : mroIn K C (.type "BaseException") = some true
section
variable {K : Frag} {x C : Addr}
theorem ExAt.type {M : Model} {h : Heap} (I : ExAt x C h) : Looks M h (typeOf (.ref x)) (.ref C) := by
  obtain ⟨o, e, c⟩ := I
  exact c ▸ (Looks.ld e).andThen .now
theorem exa_find {M : Model} {h : Heap} (X : K.In h) (Z : ExK K C) : Looks M h (find (.ref x) (.ref C) "__class__") (.bind (.builtin "getset_descriptor.__get__") (.builtin "object.__class__")) := by
  have L3 := looks_takesIn (M := M) X Z.tk
  exact (looks_findIn (M := M) X Z.cl).andThen ((looks_specialIn X Z.gg).andThen
    ((show Looks M h (dataDescriptor? (some (.builtin "object.__class__")) (some (.builtin "getset_descriptor.__get__"))) (some (.builtin "getset_descriptor.__get__", .builtin "object.__class__")) from L3.andThen .now).andThen (Looks.tag .now)))
theorem exa_get {prog : Program} {w : World} {A : Around} {R : Result → Shared → Prop} {s : Shared} {tp : Value} (X : K.In s.heap) (I : ExAt x C s.heap) (Z : ExK K C) (hR : R (.ok (.ret (.ref C))) s) :
    codeAny (model prog w) A (.call (.builtin "getset_descriptor.__get__") ⟨[.builtin "object.__class__", .ref x, tp], []⟩) R s := by
  obtain ⟨hp, gn, dw, tk, os⟩ := s
  have L0 := I.type (M := model prog w)
  have L1 := looks_mroIn (M := model prog w) X Z.mo
  refine codeAny_call_builtin KF.slot_gs.plain KF.entry_gs (KF.slot_gs.check _ _ _ _ _ _ _ _ KF.type_class (KF.args_gs _ _ _) ?_)
  unfold Builtin.«getset_descriptor.__get__» descrGet; rw [dga_obj]; refine wpAny_bind (wpAny_pure ?_)
  unfold descrGetter descrCheckInstance descrNameAndClass isInstance; simp only [KF.owner_class]
  repeat lk
  refine ⟨Code.quiet_builtin _ (by decide +kernel), codeAny_builtin KF.entry_class ?_⟩; unfold Builtin.«object.__class__» shownTypeOf
  repeat lk
  exact hR
theorem exa_entry {prog : Program} {w : World} {A : Around} {E : Value → Shared → Prop} {s : Shared} {tk : Tok} {Q : Fin → Shared → Prop} (X : K.In s.heap) (I : ExAt x C s.heap) (Z : ExK K C) (hQ : Q (.done (.ret (.ref C))) s) :
    wpAny (model prog w) A (Builtin.«object.__getattribute__» ⟨[.ref x, .str "__class__" tk], []⟩) Q E s := by
  obtain ⟨hp, gn, dw, t, os⟩ := s
  have L0 := I.type (M := model prog w)
  have L2 := exa_find (M := model prog w) (x := x) X Z
  unfold Builtin.«object.__getattribute__»
  refine wpAny_bind (wpAny_pure (wpAny_bind (wpAny_pure (wpAny_bind (L0.at (wpAny_bind (L2.at ?_)))))))
  show wpAny _ _ (holding _ (call _ _) >>= ret) _ _ _
  exact wpAny_bind (wpAny_holding (wpAny_call (exa_get (s := ⟨hp, gn, dw, t, os⟩) X I Z (wpAny_pure hQ))))
theorem exa_check {M : Model} {A : Around} {E : Value → Shared → Prop} {s : Shared} {nameV : Value} {Q : Unit → Shared → Prop} (X : K.In s.heap) (I : ExAt x C s.heap) (Z : ExK K C) (hq : Q () s) :
    wpAny M A (checkBuiltinCall "BaseException.__getattribute__" ⟨[.ref x, nameV], []⟩) Q E s := by
  obtain ⟨hp, gn, dw, t, os⟩ := s
  have hk : builtinKind "BaseException.__getattribute__" = some .slot := by decide +kernel
  have hsplit : splitId "BaseException.__getattribute__" = some ("BaseException", "__getattribute__") := by decide +kernel
  have L0 := I.type (M := M)
  have L1 := looks_mroIn (M := M) X Z.mb
  have ha := F.args_bexc_ga (.ref x) nameV
  simp only [checkBuiltinCall, hk, hsplit]
  refine wpAny_bind ?_
  unfold isInstance
  refine wpAny_bind (L0.at (L1.at ?_))
  repeat (first | assumption | wp_step)
theorem exa_class {prog : Program} {w : World} {A : Around} {E : Value → Shared → Prop} {s : Shared} {Q : Option Value → Shared → Prop} (X : K.In s.heap) (I : ExAt x C s.heap) (Z : ExK K C) (hQ : Q (some (.ref C)) { s with toks := s.toks + 1 }) :
    wpAny (model prog w) A (getAttr? (.ref x) "__class__") Q E s := by
  obtain ⟨hp, gn, dw, tk, os⟩ := s
  have L0 := I.type (M := model prog w)
  have L1 := looks_findIn (M := model prog w) X Z.ga
  have L3 := looks_findIn (M := model prog w) X Z.gt
  have hb := (F.attrBase_ValueError.ga).bind (.ref x)
  unfold getAttr? getAttrBy? getAttrBy; refine wpAny_bind (wpAny_mkText (wpAny_bind (wpAny_attempt (wpAny_holding (wpAny_bind (L0.at (wpAny_bind (L1.at ?_))))))))
  show wpAny _ _ (getAttrByItsOwn _ _ _ _ _ _) _ _ _
  unfold getAttrByItsOwn hookBefore
  refine wpAny_bind (L3.at ?_)
  refine wpAny_bind (wpAny_attempt (wpAny_holding ?_))
  unfold callGetattribute
  show wpAny _ _ (boundAndCalled _ _ _) _ _ _
  unfold boundAndCalled
  rw [hb]
  refine wpAny_bind (wpAny_pure ?_)
  refine wpAny_call ?_
  refine codeAny_call_builtin F.attrBase_ValueError.ga.plain F.entry_bexc_ga (exa_check (s := ⟨hp, gn, dw, tk + 1, os⟩) X I Z (exa_entry (s := ⟨hp, gn, dw, tk + 1, os⟩) X I Z ?_))
  exact handed_on rfl (wpAny_pure hQ)
theorem exa_kit (Z : ExK K C) : KitX K (.ref x) (.ref C) (ExAt x C) where
  ty := fun _ _ _ I => I.type
  it := fun _ _ X _ => by
    obtain ⟨cdD, hcD, _⟩ := any_some Z.dk
    unfold clsIn at hcD
    split at hcD
    · rename_i c' d' cd' sl' ho
      intro A' Q' E' s' k q
      unfold isType loadHead; exact wpAny_bind (wpAny_loadPart (k _ _ (X _ _ ho)) (wpAny_pure q))
    · cases hcD
  ne := fun h tp dd its n sl X htp => by
    obtain ⟨cdD, hcD, _⟩ := any_some Z.dk
    refine Bool.eq_false_iff.mpr fun q => ?_
    have e : C = tp := Value.ref.inj (beq_iff_eq.mp q); subst e
    unfold clsIn at hcD
    split at hcD
    · rename_i c' d' cd' sl' ho
      have z := (X _ _ ho).symm.trans htp; cases z
    · cases hcD
  ca := fun X I k => exa_class X I Z k
end


def ExcO (e C : Addr) : HO := .ext (ExAt e C)

def tyIs (K : Frag) (H : Hp) (x : V) (c : Value) (b : Bool) : Prop :=
  (∃ t, TyOf K H x t ∧ kitOne K t c = some b) ∨ ∃ e C, x = .ref e ∧ H e = some (ExcO e C) ∧ ExK K C ∧ kitOne K (.ref C) c = some b

def cOf : V → Option Value
  | .ref a => some (.ref a)
  | .ty n => some (.type n)
  | _ => none
section
variable {X : Cx}
def rIsi (K : Frag) : List V → Hp → VK → Prop := fun xs H Q => ∃ x v c b, xs = [x, v] ∧ cOf v = some c ∧ tyIs K H x c b ∧ Q (.bl b) H
theorem call_isi : CallR X (.builtin "isinstance") (rIsi X.K) := by
  intro pins s σ H xs us Q I r h
  obtain ⟨x, v, c, b, rfl, hc, ht, q⟩ := h
  obtain ⟨u, u2, rfl, ru, ru2⟩ := r.two
  have e2 : u2 = c := by
    cases v with
    | ref a => have := (show u2 = Value.ref a from ru2); cases hc; exact this
    | ty n => have := (show u2 = Value.type n from ru2); cases hc; exact this
    | _ => cases hc
  subst e2
  have fin : ∀ tk, EP X pins σ Q (.bool b) { s with toks := tk } := fun tk => ⟨.bl b, H, I.tok tk, rfl, q⟩
  rcases ht with ⟨t, ty, e⟩ | ⟨e, C, rfl, hH, Z, e1⟩
  · exact isinst_ok I ru ty e fin
  · cases (show u = Value.ref e from ru)
    obtain ⟨p, _, _⟩ := (show ObjOk X.prog X.w H s.heap e (ExcO e C) from I.hok e _ hH)
    exact kia_one (exa_kit Z) I.kIn p e1 (fun z => nomatch z) fin
end
end L2


set_option Elab.async false
set_option linter.all false
set_option maxRecDepth 100000
set_option maxHeartbeats 1000000
namespace L2
open PySem PySem.Spec PyProof.Rows


theorem ObjOk.has {P : Program} {w : World} {H : Hp} {h : Heap} {a : Addr} {o : HO} (x : ObjOk P w H h a o) : ∃ u, h.get? a = some u := by
  induction o with
  | lst xs => obtain ⟨_, _, _, _, e⟩ := x; exact ⟨_, e⟩
  | tup xs => obtain ⟨_, _, _, o, e, _⟩ := x; exact ⟨_, e⟩
  | dK kvs => obtain ⟨_, _, _, _, o, _, _, e, _⟩ := x; exact ⟨_, e⟩
  | dT kvs => obtain ⟨_, _, _, _, o, _, _, e, _⟩ := x; exact ⟨_, e⟩
  | set S n => obtain ⟨o, _, _, _, e, _⟩ := x; exact ⟨_, e⟩
  | ins C dx fs => obtain ⟨_, _, _, e, _⟩ := x; exact ⟨_, e⟩
  | own y => exact x
  | xd fs => obtain ⟨_, ⟨_, _, _, e, _⟩, _⟩ := x; exact ⟨_, e⟩
  | rng lo hi => obtain ⟨_, _, _, e⟩ := x; exact ⟨_, e⟩
  | frz ob u _ => obtain ⟨e, _⟩ := x; exact ⟨_, e⟩
  | tbl ps => exact ⟨_, x⟩
  | met f y => exact ⟨_, x⟩
  | ext φ => obtain ⟨_, e, _⟩ := x; exact e


structure Fly (P : Program) (w : World) (outer : List Env) (H : Hp) (s : Shared) (H' : Hp) (B : Heap) (e : Addr) (C a0 : Value) (s' : Shared) : Prop where
  os : s'.os = s.os
  bare : AllBare s'.gens
  fly : Heap.FlyingW B outer e C a0 s'.heap
  hok : HOk P w H' B
  keep : ∀ b o, s.heap.get? b = some o → H b = none → b ∉ frs outer → B.get? b = some o
  slot : ∀ b o, s.heap.get? b = some o → b ∈ frs outer → (∀ vs, o.data ≠ .fields vs) → ∃ sl, s'.heap.get? b = some { o with slots := sl }
  free : ∀ b o, s.heap.get? b = some o → H b = none → H' b = none
  there : ∀ b o, s.heap.get? b = some o → b ∉ frs outer → ∃ o', B.get? b = some o'
  tups : ∀ b xs, H b = some (.tup xs) → H' b = some (.tup xs)
  frzs : ∀ b o u, H b = some (.frz o u) → H' b = some (.frz o u)
  tbls : ∀ b ps, H b = some (.tbl ps) → ∃ more, H' b = some (.tbl (ps ++ more))
def CXE (P : Program) (w : World) : CXT := fun outer H s E ev s' => ∃ e C a0 H' B, ev = .ref e ∧ Fly P w outer H s H' B e C a0 s' ∧ E C none H'
theorem passE {P : Program} {w : World} {X : Cx} : Passes (CXE P w) X E0 := fun _ _ _ _ _ _ _ ⟨_, _, _, _, _, _, _, z⟩ => z.elim

section
variable {P : Program} {w : World} {K : PySem.W.Frag} {mg : Str → Option Value} {base : Heap} {N : List Str} {qual : Str} {scope : Scope} {f : Addr} {cd : Value} {A : Around} {outer : List Env} {s : Shared} {H : Hp} {E : XK}

end


section
variable {X : Cx}
def tRaise (C : Addr) (E : XK) (t : TA) : TS := fun _ σ H => t σ H fun vs H1 => vs.length ≤ sizeLine ∧ E (.ref C) none H1
end
end L2


set_option Elab.async false
set_option linter.all false
set_option maxRecDepth 100000
set_option maxHeartbeats 1000000
namespace L2
open PySem PySem.Spec PyProof.Rows



section
variable {X : Cx}
def tCallX (sp : Sp) (E : St → XK) (t : TA) : TE := fun σ H Q => t σ H fun vs H1 => sp vs H1 Q (E σ)
end


section
variable {P : Program} {w : World} {K : PySem.W.Frag} {mg : Str → Option Value} {base : Heap}
theorem Fun.okX {x qual : Str} {st : Stmt} {f : Addr} {fd : FuncData} {N ps : List Str} {k : Nat} {sp : Sp} (F : Fun K x qual st f fd) (S : FnScope N ps (defScope st)) (len : ∀ vs H Q E, sp vs H Q E → vs.length = ps.length)
    (hbody : ∀ (cdv : Value) (A : Around) (outer : List Env) (s : Shared) (H : Hp) (vs : List V) (Q : VK) (E : XK), Room k (A.deeper (envOfC qual (defScope st) s.heap.objs.size f cdv)) → sp vs H Q E →
      ∃ t, PSs (cxOf (CXE P w) P w K mg base N qual (defScope st) f cdv A outer s H E) (defBody st) t ∧ t { nx := fun _ H' => Q .non H', rt := Q } (start N vs) H) : FnOk P w K mg base (CXE P w) (k + 1) f fd ps sp := by
  obtain ⟨oc, od, kV, doc, pm, an, cdv, ct, osl, rfl, lk, hcd⟩ := F.ex
  exact fn_of lk hcd S len fun A outer s H vs Q E hr hsp => hbody cdv A outer s H vs Q E hr hsp
end
end L2


set_option Elab.async false
set_option linter.all false
set_option maxRecDepth 100000
set_option maxHeartbeats 1000000
namespace L2
open PySem PySem.Spec PyProof.Rows PySem.W



section
variable {X : Cx}
theorem op_mulX : OpR X (binaryOp .Mult) (rI IntMulOk fun i j => .int (i * j)) := opI fun _ _ _ _ _ _ _ hc q => mul_int q hc
def rSum (K : Frag) : List V → Hp → VK → Prop := fun xs H Q => ∃ (p : Addr) (ns : List Int), xs = [.ref p] ∧ SqL K H p (ns.map V.int) ∧ Q (.int ns.sum) H
def rCount : V → List V → Hp → VK → Prop := fun x vs H Q => ∃ l xs y, x = .ref l ∧ vs = [y] ∧ H l = some (.lst xs) ∧ (∃ b, y = .bl b) ∧ (∀ z ∈ xs, ∃ b, z = .bl b) ∧ Q (.int (xs.countP fun z => decide (z = y))) H
def Itv (K : Frag) (a : Addr) (n : Nat) : It :=
  ⟨fun i H => i < n ∧ ∃ xs, SqL K H a xs ∧ xs.length = n, fun i H x H' => H' = H ∧ ∀ xs, SqL K H a xs → xs[n - 1 - i]? = some x, fun i _ => n ≤ i⟩
def iRev (K : Frag) (ta : TA) : TI := fun σ H R => ta σ H fun vs H1 => ∃ a xs, vs = [.ref a] ∧ SqL K H1 a xs ∧ R (Itv K a xs.length) H1
end
end L2


set_option Elab.async false
set_option linter.all false
set_option maxRecDepth 100000
set_option maxHeartbeats 1000000
namespace L2
open PySem PySem.Spec PyProof.Rows PySem.W


def Callee (P : Program) (w : World) (K : Frag) (mg : Str → Option Value) (base : Heap) (x : Str) (k : Nat) (ps : List Str) (sp : Sp) : Prop :=
  ∃ f fd, mg x = some (.ref f) ∧ keepIn K (.ref f) = true ∧ Binds K fd ps [] ∧ FnOk P w K mg base (CXE P w) k f fd ps sp
section
variable {X : Cx}
theorem ps_nox {st : Stmt} {t : TS} (h : PS X.nox st t) : PS X st t := fun pins s σ H D I hw =>
  wpAny_mono (h pins s σ H D (I.wish _) hw) (fun _ _ q => q.unwish) fun _ _ z => False.elim z
theorem pe_callF {x : Str} {k : Nat} {ps : List Str} {sp : Sp} {E : XK} {e : Expr} {es : List Expr} {t : TA} {p pos : Pos} (C : Callee X.prog X.w X.K X.mg X.base x k ps sp) (hr : Room k X.A) (hg : Gl X x) (hx : Passes (CXE X.prog X.w) X E)
    (ha : PA X (e :: es) t) (hdb : (x == ("__debug__" : Str)) = false := by decide) (he : starEach (e :: es) X.env = (false, eval e X.env) :: starEach es X.env := by rfl) (hpl : (backTo pos (starEach es X.env)).any (·.1) = false := by rfl) :
    PE X (.Call (.Name x p) (e :: es) [] pos) (tCall sp [] E t) := by
  obtain ⟨f, fd, hm, hk, hb, F⟩ := C
  exact pe_call F hr hg hm hk hb .nil hx ha hdb he hpl
end
theorem bt_max : bootBuiltins "max" = some (.builtin "max") := by decide +kernel
theorem bt_min : bootBuiltins "min" = some (.builtin "min") := by decide +kernel
theorem bt_isinstance : bootBuiltins "isinstance" = some (.builtin "isinstance") := by decide +kernel
theorem bt_list : bootBuiltins "list" = some (.type "list") := by decide +kernel
theorem bt_tuple : bootBuiltins "tuple" = some (.type "tuple") := by decide +kernel
theorem bt_bool : bootBuiltins "bool" = some (.type "bool") := by decide +kernel
end L2


set_option Elab.async false
set_option linter.all false
set_option maxRecDepth 100000
set_option maxHeartbeats 1000000
namespace L2
open PySem PySem.Spec PyProof.Rows PySem.W


section
variable {X : Cx} {pins : List (Addr × Obj)} {σ : St} {H : Hp} {s : Shared} {h' : Heap}

def Itz (K : Frag) (a b : Addr) : It :=
  ⟨fun i H => ∃ xs ys x y, SqL K H a xs ∧ SqL K H b ys ∧ xs[i]? = some x ∧ ys[i]? = some y,
   fun i H v H' => ∃ p x y, H p = none ∧ v = .ref p ∧ H' = upd H p (.tup [x, y]) ∧ (∀ xs, SqL K H a xs → xs[i]? = some x) ∧ ∀ ys, SqL K H b ys → ys[i]? = some y,
   fun i H => ∃ xs ys, SqL K H a xs ∧ SqL K H b ys ∧ (xs.length ≤ i ∨ ys.length ≤ i)⟩
def iZip (K : Frag) (ta : TA) : TI := fun σ H R => ta σ H fun vs H1 => ∃ a b xs ys, vs = [.ref a, .ref b] ∧ SqL K H1 a xs ∧ SqL K H1 b ys ∧ R (Itz K a b) H1
end
end L2


set_option Elab.async false
set_option linter.all false
set_option maxRecDepth 100000
set_option maxHeartbeats 1000000
namespace L2
open PySem PySem.Spec PyProof.Rows PySem.W


theorem cxK {CX : CXT} {P : Program} {w : World} {K : Frag} {mg : Str → Option Value} {base : Heap} {N : List Str} {qual : Str} {scope : Scope} {f : Addr} {cd : Value} {A : Around} {outer : List Env} {s : Shared} {H : Hp} {E : XK} :
    (cxOf CX P w K mg base N qual scope f cd A outer s H E).K = K := rfl
theorem Same.upd {H H1 : Hp} {p : Addr} {o : HO} (h : H p = none) (e : Same H H1) : Same H (upd H1 p o) := fun b u z => by
  rw [upd_ne (ne_of_none z h)]; exact e b u z
theorem Same.upd' {H H1 : Hp} {p : Addr} {o : HO} (e : Same H H1) (h : H1 p = none) : Same H (L2.upd H1 p o) := e.upd (e.free h)
def LoopR (J : It) (g : TG) (tb : TS) (D : Ends) (σ : St) (H1 : Hp) : Prop := ∃ W : Nat → Nat → St → Hp → Prop, (∃ m, W 0 m σ H1) ∧ ∀ i m σ H, W i m σ H →
  (J.stop i H ∧ D.nx σ H) ∨ (J.go i H ∧ ∃ N : St → Hp → Prop, (∀ σ' H', N σ' H' → ∃ m', m' < m ∧ W (i + 1) m' σ' H') ∧ ∀ x H', J.yld i H x H' → g x σ H' fun σ2 H2 => tb { D with nx := N, ct := N, bk := D.nx } σ2 H2)
theorem tFor_eq {wi : TI} {g : TG} {tb : TS} {D : Ends} {σ : St} {H : Hp} : tFor wi g tb D σ H = wi σ H fun J H1 => LoopR J g tb D σ H1 := rfl
def WhileR (c : TT) (tb : TS) (D : Ends) (σ : St) (H : Hp) : Prop := tWhile c tb D σ H
theorem tWhile_eq {c : TT} {tb : TS} {D : Ends} {σ : St} {H : Hp} : tWhile c tb D σ H = WhileR c tb D σ H := rfl
def CompR (J : It) (g : TG) (tt : TT) (te : TE) (σ0 : St) (Q : VK) (H1 : Hp) : Prop := ∃ W : Nat → Nat → List V → Hp → Prop, (∃ m, W 0 m [] H1) ∧ ∀ i m acc H, W i m acc H →
  (J.stop i H ∧ acc.length ≤ sizeLine ∧ ∀ p, H p = none → Q (.ref p) (upd H p (.lst acc))) ∨
  (J.go i H ∧ acc.length < sizeLine ∧ ∀ x H', J.yld i H x H' → g x σ0 H' fun σ2 H2 => tt σ2 H2 fun b H3 => if b = true then te σ2 H3 fun v H4 => ∃ m', m' < m ∧ W (i + 1) m' (acc ++ [v]) H4 else ∃ m', m' < m ∧ W (i + 1) m' acc H3)
theorem tComp_eq {wi : TI} {g : TG} {tt : TT} {te : TE} {js : List (Option Nat)} {σ : St} {H : Hp} {Q : VK} : tComp wi g tt te js σ H Q = wi σ H fun J H1 => CompR J g tt te (iniC js σ) Q H1 := rfl

def CW (n : Nat) (vals : Nat → V) (H1 : Hp) (i m : Nat) (acc : List V) (H : Hp) : Prop := m = n - i ∧ i ≤ n ∧ acc = (List.range i).map vals ∧ Same H1 H
theorem CW.next {n : Nat} {vals : Nat → V} {H1 H : Hp} {i : Nat} {v : V} (hi : i < n) (hv : v = vals i) (s : Same H1 H) : ∃ m', m' < n - i ∧ CW n vals H1 (i + 1) m' ((List.range i).map vals ++ [v]) H :=
  ⟨n - (i + 1), by omega, rfl, hi, by rw [List.range_succ, List.map_append, hv]; rfl, s⟩
theorem comp_map {J : It} {n : Nat} {H1 : Hp} {g : TG} {tt : TT} {te : TE} {σ0 : St} {Q : VK} (vals : Nat → V) (hn : n < sizeLine) (hgo : ∀ i H, Same H1 H → i < n → J.go i H) (hstop : ∀ H, Same H1 H → J.stop n H)
    (hb : ∀ i x H H', i < n → Same H1 H → J.yld i H x H' → g x σ0 H' fun σ2 H2 => tt σ2 H2 fun b H3 => if b = true then te σ2 H3 fun v H4 => ∃ m', m' < n - i ∧ CW n vals H1 (i + 1) m' ((List.range i).map vals ++ [v]) H4 else ∃ m', m' < n - i ∧ CW n vals H1 (i + 1) m' ((List.range i).map vals) H3)
    (hk : ∀ l H', Same H1 H' → H' l = none → Q (.ref l) (upd H' l (.lst ((List.range n).map vals)))) :
    CompR J g tt te σ0 Q H1 := by
  refine ⟨CW n vals H1, ⟨n, rfl, Nat.zero_le _, rfl, Same.refl _⟩, ?_⟩
  rintro i m acc H ⟨rfl, hi, rfl, s⟩
  by_cases h : i < n
  · refine .inr ⟨hgo i H s h, by simpa using Nat.lt_trans h hn, fun x H' y => hb i x H H' h s y⟩
  · have e : i = n := by omega
    subst e
    exact .inl ⟨hstop H s, by simpa using Nat.le_of_lt hn, fun p hp => hk p H s hp⟩
theorem atI_at {α : Type} {xs : List α} {i : Int} {j : Nat} (h : i = (j : Int)) (hj : j < xs.length) : atI xs i = some xs[j] := by
  subst h
  unfold atI ixN
  rw [if_pos (by omega), if_pos (by omega)]
  simp
theorem atI_all {α : Type} {xs : List α} {i : Int} (C : α → Prop) (h0 : 0 ≤ i) (h1 : i < xs.length) (h : ∀ x ∈ xs, C x) : ∃ v, atI xs i = some v ∧ C v := by
  obtain ⟨j, rfl⟩ := Int.eq_ofNat_of_zero_le h0
  have hj : j < xs.length := by omega
  exact ⟨xs[j], atI_at rfl hj, h _ (List.getElem_mem hj)⟩
theorem mul_r {a b : Int} (h1 : -(2 ^ 64) < b) (h2 : b < 2 ^ 64) : IntMulOk a b := IntMulOk.of_right (intBits_le_64 h1 h2)
theorem mul_l {a b : Int} (h1 : -(2 ^ 64) < a) (h2 : a < 2 ^ 64) : IntMulOk a b := IntMulOk.of_left (intBits_le_64 h1 h2)
theorem big_mul {a b : Int} (ha : Builtin.Int.intBits a ≤ 2 ^ 20) (hb : Builtin.Int.intBits b ≤ 2 ^ 20) : IntMulOk a b := IntMulOk.of_bits ha hb
theorem cp64 : CPow 10 64 := by unfold CPow; decide
theorem cp18 : CPow 10 18 := by unfold CPow; decide
theorem cp9 : CPow 10 9 := by unfold CPow; decide
theorem cp8 : CPow 10 8 := by unfold CPow; decide
theorem cp59 : CPow 10 59 := by unfold CPow; decide
theorem pm1 : IntMulOk (10 ^ Int.toNat 64) (10 ^ Int.toNat 64) := big_mul (by decide +kernel) (by decide +kernel)
theorem pm2 : IntMulOk (10 ^ Int.toNat 64 * 10 ^ Int.toNat 64) (10 ^ Int.toNat 64) := big_mul (by decide +kernel) (by decide +kernel)
theorem pm3 : IntMulOk (10 ^ Int.toNat 64 * 10 ^ Int.toNat 64 * 10 ^ Int.toNat 64) (10 ^ Int.toNat 64) := big_mul (by decide +kernel) (by decide +kernel)
theorem pm4 : (0 : Int) < 10 ^ Int.toNat 64 * 10 ^ Int.toNat 64 * 10 ^ Int.toNat 64 * 10 ^ Int.toNat 64 := by decide +kernel
theorem pm5 : (0 : Int) < 2147483629 := by decide
theorem pm6 : (0 : Int) < 2147483647 := by decide
theorem pm7 : 0 + 1 + 1 ≤ sizeLine := by decide

def PoolAt (H : Hp) (p : Addr) : Prop := ∃ x y : Int, H p = some (.lst [.int x, .int y]) ∧ 0 ≤ x ∧ 0 ≤ y ∧ y < 2147483647
def Exc (p : Addr) (H H' : Hp) : Prop := ∀ b o, b ≠ p → H b = some o → H' b = some o
theorem Same.exc {H H1 H2 : Hp} {p : Addr} (s : Same H H1) (h : H p = none) (e : Exc p H1 H2) : Same H H2 := fun b o z => e b o (ne_of_none z h) (s b o z)
theorem Same.toExc {H H' : Hp} {p : Addr} (s : Same H H') : Exc p H H' := fun b o _ z => s b o z
theorem Exc.upd {H : Hp} {p : Addr} {o : HO} : Exc p H (L2.upd H p o) := fun b u n z => by rw [upd_ne n]; exact z
theorem PoolAt.ne {H : Hp} {p q : Addr} (P : PoolAt H p) (h : H q = none) : q ≠ p := by
  obtain ⟨x, y, e, _⟩ := P
  exact (ne_of_none e h).symm
theorem PoolAt.same {H H' : Hp} {p : Addr} (P : PoolAt H p) (s : Same H H') : PoolAt H' p := by
  obtain ⟨x, y, e, r⟩ := P
  exact ⟨x, y, s _ _ e, r⟩
theorem PoolAt.upd {H : Hp} {p q : Addr} {o : HO} (P : PoolAt H p) (h : H q = none) : PoolAt (L2.upd H q o) p := P.same ((Same.refl H).upd h)
theorem tyV_list {K : Frag} {H : Hp} {p : Addr} {xs : List V} (h : H p = some (.lst xs)) : tyV K "list" (.ref p) H := .inl ⟨rfl, _, SqL.of h⟩
theorem scal_ii {i j : Int} : scal (.int i) (.int j) = true := rfl
theorem scal_bb {i j : Bool} : scal (.bl i) (.bl j) = true := rfl
theorem scal_ss {i j : Str} : scal (.str i) (.str j) = true := rfl
theorem scal_nn : scal .non .non = true := rfl
theorem scal_ni {i : Int} : scal .non (.int i) = true := rfl
theorem scal_in {i : Int} : scal (.int i) .non = true := rfl
section
variable {X : Cx}
def rLen (K : Frag) : List V → Hp → VK → Prop := fun xs H Q => ∃ p ys, xs = [.ref p] ∧ (SqL K H p ys ∨ SqT K H p ys) ∧ Q (.int ys.length) H
theorem call_lenK {K : Frag} (hK : X.K = K) : CallR X (.builtin "len") (rLen K) := by subst hK; exact call_len_seq
def rLof (K : Frag) : List V → Hp → VK → Prop := fun xs H Q => ∃ p ys, xs = [.ref p] ∧ (SqL K H p ys ∨ SqT K H p ys) ∧ ∀ l, H l = none → Q (.ref l) (upd H l (.lst ys))
theorem call_listK {K : Frag} (hK : X.K = K) : CallR X (.type "list") (rLof K) := by subst hK; exact call_list_of
def rTof (K : Frag) : List V → Hp → VK → Prop := fun xs H Q => ∃ p ys, xs = [.ref p] ∧ ((SqL K H p ys ∧ ∀ l, H l = none → Q (.ref l) (upd H l (.tup ys))) ∨ (SqT K H p ys ∧ Q (.ref p) H))
theorem call_tupK {K : Frag} (hK : X.K = K) : CallR X (.type "tuple") (rTof K) := by subst hK; exact call_tuple_of
theorem call_isiK {K : Frag} (hK : X.K = K) : CallR X (.builtin "isinstance") (rIsi K) := by subst hK; exact call_isi
end
theorem cOf_ref {a : Addr} {x : Value} : (cOf (.ref a) = some x) = (.ref a = x) := by simp [cOf]
theorem cOf_ty {n : String} {x : Value} : (cOf (.ty n) = some x) = (.type n = x) := by simp [cOf]
end L2


set_option Elab.async false
set_option linter.all false
set_option maxRecDepth 100000
set_option maxHeartbeats 1000000
namespace L2
open PySem PySem.Spec PyProof.Rows PySem.W


section
variable {X : Cx} {e st : Expr} {te ts : TE} {pos p2 : Pos}
def tRev (K : Frag) (te ts : TE) : TE := fun σ H Q => te σ H fun x H1 => ts σ H1 fun z H2 => ∃ a xs, x = .ref a ∧ z = .int (-1) ∧ SqL K H2 a xs ∧ ∀ p, H2 p = none → Q (.ref p) (upd H2 p (.lst xs.reverse))
end
end L2


set_option Elab.async false
set_option linter.all false
set_option maxRecDepth 100000
set_option maxHeartbeats 1000000
namespace L2
open PySem PySem.Spec PyProof.Rows PySem.W


def Rows (H : Hp) (l : Addr) (rs : List (List Int)) : Prop := ∃ as : List Addr, H l = some (.lst (as.map V.ref)) ∧ l ∉ as ∧ as.length = rs.length ∧ ∀ i (h1 : i < as.length) (h2 : i < rs.length), H as[i] = some (.lst (rs[i].map V.int))
theorem Rows.same {H H' : Hp} {l : Addr} {rs : List (List Int)} (R : Rows H l rs) (s : Same H H') : Rows H' l rs := by
  obtain ⟨as, e, n, hl, h⟩ := R
  exact ⟨as, s _ _ e, n, hl, fun i h1 h2 => s _ _ (h i h1 h2)⟩
theorem Rows.at {K : Frag} {H : Hp} {l : Addr} {rs : List (List Int)} (R : Rows H l rs) {i : Nat} (h : i < rs.length) : ∃ xs a, SqL K H l xs ∧ atI xs (i : Int) = some (.ref a) ∧ H a = some (.lst (rs[i].map V.int)) := by
  obtain ⟨as, e, n, hl, hh⟩ := R
  have hi : i < as.length := by omega
  refine ⟨_, as[i], SqL.of e, ?_, hh i hi h⟩
  rw [atI_at rfl (by simpa using hi)]; simp
theorem Rows.push {H : Hp} {l p : Addr} {rs : List (List Int)} {r : List Int} {as : List Addr} (e : H l = some (.lst (as.map V.ref))) (n : l ∉ as) (hl : as.length = rs.length) (h : ∀ i (h1 : i < as.length) (h2 : i < rs.length), H as[i] = some (.lst (rs[i].map V.int)))
    (hp : H p = some (.lst (r.map V.int))) (np : p ≠ l) : Rows (upd H l (.lst (as.map V.ref ++ [.ref p]))) l (rs ++ [r]) := by
  refine ⟨as ++ [p], by rw [upd_same]; simp, ?_, by simp [hl], fun i h1 h2 => ?_⟩
  · simp only [List.mem_append, List.mem_singleton, not_or]
    exact ⟨n, fun z => np z.symm⟩
  · by_cases hi : i < as.length
    · have e1 : (as ++ [p])[i] = as[i] := List.getElem_append_left hi
      have e2 : (rs ++ [r])[i] = rs[i]'(by omega) := List.getElem_append_left (by omega)
      rw [e1, e2, upd_ne]
      · exact h i hi (by omega)
      · intro z; exact n (z ▸ List.getElem_mem hi)
    · have e1 : (as ++ [p])[i] = p := by rw [List.getElem_append_right (by omega)]; simp
      have e2 : (rs ++ [r])[i] = r := by rw [List.getElem_append_right (by omega)]; simp
      rw [e1, e2, upd_ne np]; exact hp
end L2


set_option Elab.async false
set_option linter.all false
set_option maxRecDepth 100000
set_option maxHeartbeats 1000000
namespace L2
open PySem PySem.Spec PyProof.Rows PySem.W


inductive EqD (K : Frag) (H : Hp) : Nat → V → V → Bool → Prop
  | flat {n : Nat} {x y : V} (fx : flatV x = true) (fy : flatV y = true) : EqD K H n x y (eqV x y)
  | lst {n : Nat} {a b : Addr} {xs ys : List V} (e : Nat → Bool) (hx : SqL K H a xs) (hy : SqL K H b ys) (hl : xs.length = ys.length) (h : ∀ j x y, xs[j]? = some x → ys[j]? = some y → EqD K H n x y (e j)) : EqD K H (n + 1) (.ref a) (.ref b) ((List.range xs.length).all e)
  | len {n : Nat} {a b : Addr} {xs ys : List V} (hx : SqL K H a xs) (hy : SqL K H b ys) (hl : xs.length ≠ ys.length) : EqD K H (n + 1) (.ref a) (.ref b) false
  | tup {n : Nat} {a b : Addr} {xs ys : List V} (e : Nat → Bool) (hx : SqT K H a xs) (hy : SqT K H b ys) (h : ∀ j x y, xs[j]? = some x → ys[j]? = some y → EqD K H n x y (e j)) : EqD K H (n + 1) (.ref a) (.ref b) ((List.range (min xs.length ys.length)).all e && xs.length == ys.length)
theorem eqV_refl {x : V} (h : flatV x = true) : eqV x x = true := by
  cases x <;> first
    | rfl
    | (simp [eqV]; done)
    | cases h
section
variable {X : Cx} {pins : List (Addr × Obj)} {σ : St} {H : Hp} {s : Shared}
theorem eqd_refl (I : Inv X pins σ H s) {n : Nat} {x y : V} {b : Bool} (h : EqD X.K H n x y b) : x = y → b = true := by
  induction h with
  | flat fx fy => rintro rfl; exact eqV_refl fx
  | lst e hx hy hl h ih =>
    intro z
    cases z
    have := I.list_inj hx hy
    subst this
    refine List.all_eq_true.mpr fun j hj => ?_
    have hj' := List.mem_range.mp hj
    exact ih j _ _ (List.getElem?_eq_getElem hj') (List.getElem?_eq_getElem hj') rfl
  | len hx hy hl =>
    intro z
    cases z
    have := I.list_inj hx hy
    subst this
    exact absurd rfl hl
  | tup e hx hy h ih =>
    intro z
    cases z
    have := I.tuple_inj hx hy
    subst this
    rw [Nat.min_self]
    have : (List.range _).all e = true := List.all_eq_true.mpr fun j hj => by
      have hj' := List.mem_range.mp hj
      exact ih j _ _ (List.getElem?_eq_getElem hj') (List.getElem?_eq_getElem hj') rfl
    rw [this]; simp
theorem eqd_at (I : Inv X pins σ H s) {n : Nat} {x y : V} {b : Bool} (h : EqD X.K H n x y b) : ∀ (A : Around) (u v : Value), A.units + n < cLine → RelV x u → RelV y v → SeqAt.EqAt A s u v b := by
  induction h with
  | flat fx fy => intro A u v _ ru rv; exact eqAt_V ru rv fx fy
  | @lst n a b xs ys e hx hy hl h ih =>
    intro A u v hu ru rv
    have hb := eqd_refl I (.lst e hx hy hl h)
    cases ru
    cases rv
    by_cases hab : a = b
    · subst hab
      rw [hb rfl]; exact SeqAt.EqAt.same _
    · obtain ⟨is1, r1, p1, _⟩ := I.list hx
      obtain ⟨is2, r2, p2, _⟩ := I.list hy
      have e1 := r1.length
      have e2 := r2.length
      have key := SeqAt.RcAt.lists (A := A) (s := s) (e := e) p1.isList p2.isList (by simp; omega) (by omega) fun j h1 h2 => by
        have h1' : j < xs.length := by simpa [e1] using h1
        have h2' : j < ys.length := by simpa [e2] using h2
        obtain ⟨u, hu1, ru⟩ := r1.get (List.getElem?_eq_getElem h1')
        obtain ⟨v, hv1, rv⟩ := r2.get (List.getElem?_eq_getElem h2')
        have eu : is1.toArray[j] = u := by simpa using (List.getElem?_eq_some_iff.mp hu1).2
        have ev : is2.toArray[j] = v := by simpa using (List.getElem?_eq_some_iff.mp hv1).2
        rw [eu, ev]
        exact ih j _ _ (List.getElem?_eq_getElem h1') (List.getElem?_eq_getElem h2') A.in1 u v (by show A.units + 1 + n < cLine; omega) ru rv
      have e3 : is1.toArray.size = xs.length := by simp [e1]
      rw [e3] at key
      exact SeqAt.EqAt.of_refs hab key
  | @len n a b xs ys hx hy hl =>
    intro A u v hu ru rv
    cases ru
    cases rv
    have hab : a ≠ b := fun z => by subst z; exact hl (congrArg List.length (I.list_inj hx hy))
    obtain ⟨is1, r1, p1, _⟩ := I.list hx
    obtain ⟨is2, r2, p2, _⟩ := I.list hy
    have e1 := r1.length
    have e2 := r2.length
    exact SeqAt.EqAt.of_refs hab (SeqAt.RcAt.lists_lengths p1.isList p2.isList (by simp; omega) (by omega))
  | @tup n a b xs ys e hx hy h ih =>
    intro A u v hu ru rv
    have hb := eqd_refl I (.tup e hx hy h)
    cases ru
    cases rv
    by_cases hab : a = b
    · subst hab
      rw [hb rfl]; exact SeqAt.EqAt.same _
    · obtain ⟨is1, r1, p1, _⟩ := I.tuple hx
      obtain ⟨is2, r2, p2, _⟩ := I.tuple hy
      have e1 := r1.length
      have e2 := r2.length
      have key := SeqAt.RcAt.tuples (A := A) (s := s) (e := e) p1 p2 (by omega) fun j h1 h2 => by
        have h1' : j < xs.length := by simpa [e1] using h1
        have h2' : j < ys.length := by simpa [e2] using h2
        obtain ⟨u, hu1, ru⟩ := r1.get (List.getElem?_eq_getElem h1')
        obtain ⟨v, hv1, rv⟩ := r2.get (List.getElem?_eq_getElem h2')
        have eu : is1.toArray[j] = u := by simpa using (List.getElem?_eq_some_iff.mp hu1).2
        have ev : is2.toArray[j] = v := by simpa using (List.getElem?_eq_some_iff.mp hv1).2
        rw [eu, ev]
        exact ih j _ _ (List.getElem?_eq_getElem h1') (List.getElem?_eq_getElem h2') A.in1 u v (by show A.units + 1 + n < cLine; omega) ru rv
      have e3 : is1.toArray.size = xs.length := by simp [e1]
      have e4 : is2.toArray.size = ys.length := by simp [e2]
      rw [e3, e4] at key
      exact SeqAt.EqAt.of_refs hab key
end
def rEqD (K : Frag) (neg : Bool) : R2 := fun x y H Q => ∃ a b k, x = .ref a ∧ y = .ref b ∧ EqD K H 3 x y k ∧ Q (.bl (if neg then !k else k)) H
section
variable {X : Cx}
theorem op_eqD {K : Frag} (hK : X.K = K) {k : Nat} (hr : Room k X.A) : OpR X (compareOp .Eq) (rEqD K false) := by
  subst hK
  have hu0 := hr.un
  intro pins s σ H x y v u Q I rx ry h
  obtain ⟨a, b, k, rfl, rfl, h, q⟩ := h
  cases rx
  cases ry
  cases h with
  | flat fx fy => cases fx
  | @lst n _ _ xs ys e hx hy hl h =>
    obtain ⟨is1, r1, p1, _⟩ := I.list hx
    obtain ⟨is2, r2, p2, _⟩ := I.list hy
    have e1 := r1.length
    have e2 := r2.length
    have e3 : is1.toArray.size = xs.length := by simp [e1]
    refine SeqAt.eq_listAt (e := e) p1.isList p2.isList (by simp; omega) (by omega) (fun j h1 h2 => ?_) ⟨.bl _, H, I, rfl, by rw [e3]; exact q⟩
    have h1' : j < xs.length := by simpa [e1] using h1
    have h2' : j < ys.length := by simpa [e2] using h2
    obtain ⟨u, hu1, ru⟩ := r1.get (List.getElem?_eq_getElem h1')
    obtain ⟨v, hv1, rv⟩ := r2.get (List.getElem?_eq_getElem h2')
    have eu : is1.toArray[j] = u := by simpa using (List.getElem?_eq_some_iff.mp hu1).2
    have ev : is2.toArray[j] = v := by simpa using (List.getElem?_eq_some_iff.mp hv1).2
    rw [eu, ev]
    exact eqd_at I (h j _ _ (List.getElem?_eq_getElem h1') (List.getElem?_eq_getElem h2')) X.A.in1 u v (by show X.A.units + 1 + 2 < cLine; omega) ru rv
  | @len n _ _ xs ys hx hy hl =>
    obtain ⟨is1, r1, p1, _⟩ := I.list hx
    obtain ⟨is2, r2, p2, _⟩ := I.list hy
    have e1 := r1.length
    have e2 := r2.length
    exact SeqAt.eq_list_lengthsAt p1.isList p2.isList (by simp; omega) (by omega) ⟨.bl _, H, I, rfl, q⟩
  | @tup n _ _ xs ys e hx hy h =>
    obtain ⟨is1, r1, p1, _⟩ := I.tuple hx
    obtain ⟨is2, r2, p2, _⟩ := I.tuple hy
    have e1 := r1.length
    have e2 := r2.length
    have e3 : is1.toArray.size = xs.length := by simp [e1]
    have e4 : is2.toArray.size = ys.length := by simp [e2]
    refine SeqAt.eq_tupleAt (e := e) p1 p2 (by omega) (fun j h1 h2 => ?_) ⟨.bl _, H, I, rfl, by rw [e3, e4]; exact q⟩
    have h1' : j < xs.length := by simpa [e1] using h1
    have h2' : j < ys.length := by simpa [e2] using h2
    obtain ⟨u, hu1, ru⟩ := r1.get (List.getElem?_eq_getElem h1')
    obtain ⟨v, hv1, rv⟩ := r2.get (List.getElem?_eq_getElem h2')
    have eu : is1.toArray[j] = u := by simpa using (List.getElem?_eq_some_iff.mp hu1).2
    have ev : is2.toArray[j] = v := by simpa using (List.getElem?_eq_some_iff.mp hv1).2
    rw [eu, ev]
    exact eqd_at I (h j _ _ (List.getElem?_eq_getElem h1') (List.getElem?_eq_getElem h2')) X.A.in1 u v (by show X.A.units + 1 + 2 < cLine; omega) ru rv
theorem op_neD {K : Frag} (hK : X.K = K) {k : Nat} (hr : Room k X.A) : OpR X (compareOp .NotEq) (rEqD K true) := by
  subst hK
  have hu0 := hr.un
  intro pins s σ H x y v u Q I rx ry h
  obtain ⟨a, b, k, rfl, rfl, h, q⟩ := h
  cases rx
  cases ry
  cases h with
  | flat fx fy => cases fx
  | @lst n _ _ xs ys e hx hy hl h =>
    obtain ⟨is1, r1, p1, _⟩ := I.list hx
    obtain ⟨is2, r2, p2, _⟩ := I.list hy
    have e1 := r1.length
    have e2 := r2.length
    have e3 : is1.toArray.size = xs.length := by simp [e1]
    refine SeqAt.RcNeAt.lists (e := e) p1.isList p2.isList (by simp; omega) (by omega) (fun j h1 h2 => ?_) _ _ _ _ ⟨.bl _, H, I, rfl, by rw [e3]; exact q⟩
    have h1' : j < xs.length := by simpa [e1] using h1
    have h2' : j < ys.length := by simpa [e2] using h2
    obtain ⟨u, hu1, ru⟩ := r1.get (List.getElem?_eq_getElem h1')
    obtain ⟨v, hv1, rv⟩ := r2.get (List.getElem?_eq_getElem h2')
    have eu : is1.toArray[j] = u := by simpa using (List.getElem?_eq_some_iff.mp hu1).2
    have ev : is2.toArray[j] = v := by simpa using (List.getElem?_eq_some_iff.mp hv1).2
    rw [eu, ev]
    exact eqd_at I (h j _ _ (List.getElem?_eq_getElem h1') (List.getElem?_eq_getElem h2')) X.A.in1 u v (by show X.A.units + 1 + 2 < cLine; omega) ru rv
  | @len n _ _ xs ys hx hy hl =>
    obtain ⟨is1, r1, p1, _⟩ := I.list hx
    obtain ⟨is2, r2, p2, _⟩ := I.list hy
    have e1 := r1.length
    have e2 := r2.length
    exact SeqAt.RcNeAt.lists_lengths p1.isList p2.isList (by simp; omega) (by omega) _ _ _ _ ⟨.bl _, H, I, rfl, q⟩
  | @tup n _ _ xs ys e hx hy h =>
    obtain ⟨is1, r1, p1, _⟩ := I.tuple hx
    obtain ⟨is2, r2, p2, _⟩ := I.tuple hy
    have e1 := r1.length
    have e2 := r2.length
    have e3 : is1.toArray.size = xs.length := by simp [e1]
    have e4 : is2.toArray.size = ys.length := by simp [e2]
    refine SeqAt.RcNeAt.tuples (e := e) p1 p2 (by omega) (fun j h1 h2 => ?_) _ _ _ _ ⟨.bl _, H, I, rfl, by rw [e3, e4]; exact q⟩
    have h1' : j < xs.length := by simpa [e1] using h1
    have h2' : j < ys.length := by simpa [e2] using h2
    obtain ⟨u, hu1, ru⟩ := r1.get (List.getElem?_eq_getElem h1')
    obtain ⟨v, hv1, rv⟩ := r2.get (List.getElem?_eq_getElem h2')
    have eu : is1.toArray[j] = u := by simpa using (List.getElem?_eq_some_iff.mp hu1).2
    have ev : is2.toArray[j] = v := by simpa using (List.getElem?_eq_some_iff.mp hv1).2
    rw [eu, ev]
    exact eqd_at I (h j _ _ (List.getElem?_eq_getElem h1') (List.getElem?_eq_getElem h2')) X.A.in1 u v (by show X.A.units + 1 + 2 < cLine; omega) ru rv
end

def IsI (v : V) (i : Int) : Prop := v = .int i
def IsL (K : Frag) (H : Hp) {α : Type} (P : V → α → Prop) (v : V) (as : List α) : Prop := ∃ a xs, v = .ref a ∧ SqL K H a xs ∧ xs.length = as.length ∧ ∀ (j : Nat) (x : V) (y : α), xs[j]? = some x → as[j]? = some y → P x y
def EqP (K : Frag) (H : Hp) (n : Nat) {α : Type} [DecidableEq α] (P : V → α → Prop) : Prop := ∀ x y a b, P x a → P y b → EqD K H n x y (decide (a = b))
theorem eqp_int {K : Frag} {H : Hp} {n : Nat} : EqP K H n IsI := by
  rintro x y a b rfl rfl
  have := EqD.flat (K := K) (H := H) (n := n) (x := .int a) (y := .int b) rfl rfl
  have e : eqV (.int a) (.int b) = decide (a = b) := by simp [eqV, Bool.beq_eq_decide_eq]
  rw [← e]; exact this
theorem all_eq {α : Type} [DecidableEq α] (as bs : List α) (h : as.length = bs.length) : (List.range as.length).all (fun j => decide (as[j]? = bs[j]?)) = decide (as = bs) := by
  rw [Bool.eq_iff_iff, List.all_eq_true, decide_eq_true_iff]
  constructor
  · intro q
    refine List.ext_getElem? fun j => ?_
    by_cases hj : j < as.length
    · simpa using q j (List.mem_range.mpr hj)
    · rw [List.getElem?_eq_none (by omega), List.getElem?_eq_none (by omega)]
  · rintro rfl j _; simp
theorem eqp_lst {K : Frag} {H : Hp} {n : Nat} {α : Type} [DecidableEq α] {P : V → α → Prop} (h : EqP K H n P) : EqP K H (n + 1) (IsL K H P) := by
  rintro x y as bs ⟨a, xs, rfl, hx, lx, px⟩ ⟨b, ys, rfl, hy, ly, py⟩
  by_cases hl : as.length = bs.length
  · rw [← all_eq as bs hl, ← lx]
    refine .lst _ hx hy (by omega) fun j x y h1 h2 => ?_
    have j1 := (List.getElem?_eq_some_iff.mp h1).1
    have j2 := (List.getElem?_eq_some_iff.mp h2).1
    have ha : as[j]? = some as[j] := List.getElem?_eq_getElem (by omega)
    have hb : bs[j]? = some bs[j] := List.getElem?_eq_getElem (by omega)
    have := h x y _ _ (px j _ _ h1 ha) (py j _ _ h2 hb)
    rw [ha, hb]
    simpa using this
  · have e : decide (as = bs) = false := by simp; intro z; exact hl (congrArg List.length z)
    rw [e]
    exact .len hx hy (by omega)
theorem isL_ints {K : Frag} {H : Hp} {a : Addr} {ns : List Int} (h : SqL K H a (ns.map V.int)) : IsL K H IsI (.ref a) ns := ⟨a, _, rfl, h, by simp, fun j x y h1 h2 => by
  rw [List.getElem?_map, h2] at h1
  exact (Option.some.inj h1).symm⟩
end L2


set_option Elab.async false
set_option linter.all false
set_option maxRecDepth 100000
set_option maxHeartbeats 1000000
namespace L2
open PySem PySem.Spec PyProof.Rows PySem.W


section
variable {X : Cx}
def tRngV (ta : TA) : TE := fun σ H Q => ta σ H fun vs H1 => ∃ j : Int, vs = [.int j] ∧ -(2 ^ 62) ≤ j ∧ j < 2 ^ 62 ∧ ∀ p, H1 p = none → Q (.ref p) (upd H1 p (.rng 0 j))
theorem pe_range1 {a : Expr} {ta : TA} {p pos : Pos} (hg : Gl X "range") (hm : X.mg "range" = none) (ha : PA X [a] ta) (hs : starEach [a] X.env = [(false, eval a X.env)] := by rfl) : PE X (.Call (.Name "range" p) [a] [] pos) (tRngV ta) := by
  intro pins s σ H Q I h
  refine wpAny_Call_Name_kw (ld_blt I hg hm boot_range (PyProof.Rows.callWith_type1 (thn (ha pos pins s σ H _ I h) fun us s1 ⟨vs, H1, I1, r1, q1⟩ => ?_) hs rfl))
  obtain ⟨j, e, q1, q2, q⟩ := q1
  subst e
  obtain ⟨u, rfl, ru⟩ := r1.one
  obtain ⟨t, rfl⟩ := ru
  refine call_range_1 ⟨.ref s1.heap.objs.size, _, I1.laid (fun b o e => Heap.get?_push_of_some _ e) (Nat.le_refl _) ?_, rfl, q _ (I1.hok.fresh (Nat.le_refl _))⟩
  exact ⟨_, _, _, Heap.get?_push_size _ rfl⟩
def rLstR : List V → Hp → VK → Prop := fun xs H Q => ∃ p j, xs = [.ref p] ∧ H p = some (.rng 0 j) ∧ 0 ≤ j ∧ j ≤ 1000 ∧ ∀ l, H l = none → Q (.ref l) (upd H l (.lst ((List.range j.toNat).map fun (i : Nat) => V.int (i : Int))))
theorem vals_of {g : Nat → V} {P : Nat → Value → Prop} (hP : ∀ i v, P i v → RelV (g i) v) : ∀ (n : Nat) (us : List Value), us.length = n → (∀ (j : Nat) (v : Value), us[j]? = some v → P j v) → Vals ((List.range n).map g) us := by
  intro n
  induction n with
  | zero =>
    intro us hl _
    cases us with
    | nil => exact .nil
    | cons _ _ => cases hl
  | succ n ih =>
    intro us hl h
    have hne : us ≠ [] := fun z => by rw [z] at hl; cases hl
    rw [List.range_succ, List.map_append, ← List.dropLast_concat_getLast hne]
    have hl2 : us.dropLast.length = n := by rw [List.length_dropLast, hl]; rfl
    refine (ih us.dropLast hl2 fun j v hj => ?_).append (.cons ?_ .nil)
    · have hj2 := (List.getElem?_eq_some_iff.mp hj).1
      refine h j v ?_
      rw [List.getElem?_dropLast] at hj
      split at hj
      · exact hj
      · cases hj
    · refine hP n _ (h n _ ?_)
      rw [List.getLast_eq_getElem]
      rw [List.getElem?_eq_some_iff]
      refine ⟨by omega, ?_⟩
      congr 1
      omega
theorem call_list_rng (hc : X.calm = true) : CallR X (.type "list") rLstR := by
  intro pins s σ H xs us Q I r h
  obtain ⟨p, j, rfl, hp, h0, h1, q⟩ := h
  obtain ⟨u, rfl, ru⟩ := r.one
  cases (show u = Value.ref p from ru)
  obtain ⟨t, u, v, hob⟩ := (show ∃ t u v, s.heap.get? p = some { cls := .type "range", data := .fields #[.int 0 t, .int j u, .int 1 v] } from I.hok p _ hp)
  refine call_list_range (n := j.toNat) (I.ok.hd hc) hob (small_one (by omega) (by omega) (by omega) (by omega)) (by rw [rangeSize_one]; split <;> omega) (by omega) fun h' tk acc' c' kp hn hacc => ?_
  have hv : Vals ((List.range j.toNat).map fun (i : Nat) => V.int (i : Int)) acc'.toList := by
    exact vals_of (g := fun (i : Nat) => V.int (i : Int)) (P := fun (i : Nat) v => ∃ t, v = .int (0 + (i : Int) * 1) t) (fun i v h => by obtain ⟨t, e⟩ := h; exact ⟨t, by rw [e]; simp⟩) _ _ (by rw [Array.length_toList]; exact hacc.1) fun k v hk => hacc.2 k v (by simpa using hk)
  refine ⟨.ref s.heap.objs.size, _, I.laid kp (Nat.le_refl _) ?_, rfl, q _ (I.hok.fresh (Nat.le_refl _))⟩
  exact ⟨by rw [List.length_map, List.length_range]; exact Nat.le_trans (show j.toNat ≤ 1000 by omega) (by decide), _, c', hv, hn⟩
def rAll (K : Frag) : List V → Hp → VK → Prop := fun xs H Q => ∃ (p : Addr) (bs : List Bool), xs = [.ref p] ∧ SqL K H p (bs.map V.bl) ∧ Q (.bl (bs.all id)) H
def rAny (K : Frag) : List V → Hp → VK → Prop := fun xs H Q => ∃ (p : Addr) (bs : List Bool), xs = [.ref p] ∧ SqL K H p (bs.map V.bl) ∧ Q (.bl (bs.any id)) H
def ipM : TIp := fun x y H Q => ∃ i j, x = .int i ∧ y = .int j ∧ IntMulOk i j ∧ Q (.int (i * j)) H
theorem ip_mul : PIp X .Mult ipM := by
  intro pins s σ H x y v u Q I r1 r2 h
  obtain ⟨i, j, e1, e2, hm, q⟩ := h
  subst e1; subst e2
  obtain ⟨t, rfl⟩ := r1
  obtain ⟨t', rfl⟩ := r2
  exact imul_int ⟨.int _, H, I.tok _, ⟨_, rfl⟩, q⟩ hm

def rIxQ (K : Frag) : R2 := fun x y H Q => ∃ p xs i v, x = .ref p ∧ y = .int i ∧ (SqL K H p xs ∨ SqT K H p xs) ∧ atI xs i = some v ∧ Q v H
theorem ix_q {K : Frag} (hK : X.K = K) : IxR X (rIxQ K) := by
  subst hK
  intro value slice pins s σ H x y v u Q I rx ry h hs
  refine (ix_list.or ix_tup) (value := value) (slice := slice) pins s σ H x y v u Q I rx ry ?_ hs
  obtain ⟨p, xs, i, v, rfl, rfl, hq, ha, q⟩ := h
  rcases hq with hq | hq
  · exact .inl ⟨p, xs, i, v, rfl, rfl, hq, ha, q⟩
  · exact .inr ⟨p, xs, i, v, rfl, rfl, hq, ha, q⟩
end
end L2


set_option Elab.async false
set_option linter.all false
set_option maxRecDepth 100000
set_option maxHeartbeats 1000000
namespace L2
open PySem PySem.Spec PyProof.Rows PySem.W


def IsLow (f : Nat → Int) (a b p : Nat) : Prop := a ≤ p ∧ p ≤ b ∧ (∀ q, a ≤ q → q < p → f p < f q) ∧ ∀ q, p < q → q ≤ b → f p ≤ f q
theorem IsLow.unique {f : Nat → Int} {a b p q : Nat} (h : IsLow f a b p) (k : IsLow f a b q) : p = q := by
  obtain ⟨h1, h2, h3, h4⟩ := h
  obtain ⟨k1, k2, k3, k4⟩ := k
  rcases Nat.lt_trichotomy p q with z | z | z
  · have := k3 p h1 z
    have := h4 q z k2
    omega
  · exact z
  · have := h3 q k1 z
    have := k4 p z h2
    omega
theorem IsLow.join {f : Nat → Int} {a m a' b p q : Nat} (h : IsLow f a m p) (k : IsLow f a' b q) (h1 : a ≤ a') (h2 : a' ≤ m + 1) (h3 : m ≤ b) : IsLow f a b (if f q < f p then q else p) := by
  obtain ⟨p1, p2, p3, p4⟩ := h
  obtain ⟨q1, q2, q3, q4⟩ := k
  have pm : ∀ r, a ≤ r → r ≤ m → f p ≤ f r := fun r r1 r2 => by
    rcases Nat.lt_trichotomy r p with z | z | z
    · exact Int.le_of_lt (p3 r r1 z)
    · rw [z]; exact Int.le_refl _
    · exact p4 r z r2
  have qm : ∀ r, a' ≤ r → r ≤ b → f q ≤ f r := fun r r1 r2 => by
    rcases Nat.lt_trichotomy r q with z | z | z
    · exact Int.le_of_lt (q3 r r1 z)
    · rw [z]; exact Int.le_refl _
    · exact q4 r z r2
  split
  · rename_i hlt
    refine ⟨by omega, q2, fun r r1 r2 => ?_, fun r r1 r2 => qm r (by omega) r2⟩
    by_cases z : a' ≤ r
    · exact q3 r z r2
    · have := pm r r1 (by omega); omega
  · rename_i hle
    refine ⟨p1, by omega, p3, fun r r1 r2 => ?_⟩
    by_cases z : r ≤ m
    · exact p4 r r1 z
    · have := qm r (by omega) r2; omega
def lowF (f : Nat → Int) (a : Nat) : Nat → Nat
  | 0 => a
  | c + 1 => if f (a + c + 1) < f (lowF f a c) then a + c + 1 else lowF f a c
theorem isLow_one (f : Nat → Int) (a : Nat) : IsLow f a a a := ⟨Nat.le_refl _, Nat.le_refl _, fun q h1 h2 => by omega, fun q h1 h2 => by omega⟩
theorem lowF_is (f : Nat → Int) (a c : Nat) : IsLow f a (a + c) (lowF f a c) := by
  induction c with
  | zero => exact isLow_one f a
  | succ c ih =>
    rw [lowF]
    exact ih.join (isLow_one f (a + c + 1)) (by omega) (by omega) (by omega)
theorem lowF_join (f : Nat → Int) (a w : Nat) (hw : 0 < w) : (if f (lowF f (a + w) (w - 1)) < f (lowF f a (w - 1)) then lowF f (a + w) (w - 1) else lowF f a (w - 1)) = lowF f a (2 * w - 1) := by
  have h1 := lowF_is f a (w - 1)
  have h2 := lowF_is f (a + w) (w - 1)
  have h := h1.join h2 (by omega) (by omega) (by omega)
  have e : a + w + (w - 1) = a + (2 * w - 1) := by omega
  rw [e] at h
  exact h.unique (lowF_is f a (2 * w - 1))
def nth (ns : List Int) (i : Nat) : Int := ns.getD i 0
theorem nth_at {ns : List Int} {i : Nat} (h : i < ns.length) : atI (ns.map V.int) (i : Int) = some (V.int (nth ns i)) := by
  rw [atI_at rfl (by simpa using h)]
  simp [nth, List.getD_eq_getElem?_getD, h]
theorem lowF_lt (f : Nat → Int) (a c : Nat) : a ≤ lowF f a c ∧ lowF f a c ≤ a + c := ⟨(lowF_is f a c).1, (lowF_is f a c).2.1⟩

def rungF (ns : List Int) (k : Nat) : List Int := (List.range (ns.length + 1 - 2 ^ k)).map fun a => (lowF (nth ns) a (2 ^ k - 1) : Int)
theorem rungF_length (ns : List Int) (k : Nat) : (rungF ns k).length = ns.length + 1 - 2 ^ k := by simp [rungF]
theorem rungF_at {ns : List Int} {k a : Nat} (h : a + 2 ^ k ≤ ns.length) : atI ((rungF ns k).map V.int) (a : Int) = some (V.int (lowF (nth ns) a (2 ^ k - 1) : Int)) := by
  rw [atI_at rfl (by rw [List.length_map, rungF_length]; omega)]
  simp [rungF]
def ladF (ns : List Int) (i : Nat) : List (List Int) := (List.range i).map (rungF ns)

def Tall (n i : Nat) : Prop := n < 2 ^ i ∧ ∀ j, j < i → 2 ^ j ≤ n
theorem Tall.unique {n i j : Nat} (h : Tall n i) (k : Tall n j) : i = j := by
  rcases Nat.lt_trichotomy i j with z | z | z
  · have := k.2 i z; have := h.1; omega
  · exact z
  · have := h.2 j z; have := k.1; omega

def WI (N : Nat) (Pv : Nat → St → Hp → Prop) (m : Nat) (σ : St) (H : Hp) : Prop := ∃ i, m = N - i ∧ i ≤ N ∧ Pv i σ H
theorem WI.next {N : Nat} {Pv : Nat → St → Hp → Prop} {i : Nat} : ∀ σ' H', (i + 1 ≤ N ∧ Pv (i + 1) σ' H') → ∃ m', m' < N - i ∧ WI N Pv m' σ' H' := fun σ' H' h => ⟨N - (i + 1), by omega, i + 1, rfl, h.1, h.2⟩
theorem while_i {c : TT} {tb : TS} {D : Ends} {σ : St} {H : Hp} (N : Nat) (Pv : Nat → St → Hp → Prop) (h0 : Pv 0 σ H)
    (hs : ∀ i σ H, i ≤ N → Pv i σ H → c σ H fun b H1 => if b = true then ∃ Nx : St → Hp → Prop, (∀ σ' H', Nx σ' H' → ∃ m', m' < N - i ∧ WI N Pv m' σ' H') ∧ tb { D with nx := Nx, ct := Nx, bk := D.nx } σ H1 else D.nx σ H1) : WhileR c tb D σ H := by
  refine ⟨WI N Pv, ⟨N, 0, rfl, Nat.zero_le _, h0⟩, ?_⟩
  rintro m σ H ⟨i, rfl, hi, p⟩
  exact hs i σ H hi p
theorem Same.seqT {K : Frag} {H H' : Hp} {a : Addr} {xs : List V} (e : Same H H') (h : SqT K H a xs) : SqT K H' a xs := by
  rcases h with (h | ⟨o, h⟩) | h
  · exact .inl (.inl (e _ _ h))
  · exact .inl (.inr ⟨o, e _ _ h⟩)
  · exact .inr h
theorem Same.q {K : Frag} {H H' : Hp} {a : Addr} {xs : List V} (e : Same H H') (h : SqL K H a xs ∨ SqT K H a xs) : SqL K H' a xs ∨ SqT K H' a xs := h.imp e.seq e.seqT
theorem Exc.trans {p : Addr} {H H1 H2 : Hp} (a : Exc p H H1) (b : Exc p H1 H2) : Exc p H H2 := fun c o n z => b c o n (a c o n z)
theorem Exc.free {p q : Addr} {H H' : Hp} (e : Exc p H H') (n : q ≠ p) (h : H' q = none) : H q = none := by
  cases z : H q with
  | none => rfl
  | some o => rw [e q o n z] at h; cases h
theorem Exc.updN {p q : Addr} {H H' : Hp} {o : HO} (e : Exc p H H') (h : H q = none) : Exc p H (L2.upd H' q o) := fun b u n z => by
  rw [upd_ne (ne_of_none z h)]; exact e b u n z
theorem Exc.same {p : Addr} {H H1 H2 : Hp} (a : Exc p H H1) (s : Same H1 H2) : Exc p H H2 := a.trans s.toExc

def RowsN (H0 H : Hp) (l : Addr) (rs : List (List Int)) : Prop := ∃ as : List Addr, H l = some (.lst (as.map V.ref)) ∧ l ∉ as ∧ as.length = rs.length ∧ (∀ i (h1 : i < as.length) (h2 : i < rs.length), H as[i] = some (.lst (rs[i].map V.int))) ∧ H0 l = none ∧ ∀ a ∈ as, H0 a = none
theorem RowsN.rows {H0 H : Hp} {l : Addr} {rs : List (List Int)} (R : RowsN H0 H l rs) : Rows H l rs := by
  obtain ⟨as, h1, h2, h3, h4, _⟩ := R
  exact ⟨as, h1, h2, h3, h4⟩
theorem RowsN.same {H0 H H' : Hp} {l : Addr} {rs : List (List Int)} (R : RowsN H0 H l rs) (s : Same H H') : RowsN H0 H' l rs := by
  obtain ⟨as, e, n, hl, h, z⟩ := R
  exact ⟨as, s _ _ e, n, hl, fun i h1 h2 => s _ _ (h i h1 h2), z⟩
theorem RowsN.from {H0 H1 H : Hp} {l : Addr} {rs : List (List Int)} (R : RowsN H1 H l rs) (s : Same H0 H1) : RowsN H0 H l rs := by
  obtain ⟨as, e, n, hl, h, z1, z2⟩ := R
  exact ⟨as, e, n, hl, h, s.free z1, fun a ha => s.free (z2 a ha)⟩
theorem RowsN.push {H0 H : Hp} {l p : Addr} {rs : List (List Int)} {r : List Int} {as : List Addr} (e : H l = some (.lst (as.map V.ref))) (n : l ∉ as) (hl : as.length = rs.length) (h : ∀ i (h1 : i < as.length) (h2 : i < rs.length), H as[i] = some (.lst (rs[i].map V.int)))
    (z1 : H0 l = none) (z2 : ∀ a ∈ as, H0 a = none) (hp : H p = some (.lst (r.map V.int))) (np : p ≠ l) (zp : H0 p = none) : RowsN H0 (upd H l (.lst (as.map V.ref ++ [.ref p]))) l (rs ++ [r]) := by
  obtain ⟨bs, q1, q2, q3, q4⟩ := Rows.push e n hl h hp np
  rw [upd_same] at q1
  have e2 : bs = as ++ [p] := by
    have q1' : (as ++ [p]).map V.ref = bs.map V.ref := by
      have := HO.lst.inj (Option.some.inj q1)
      simpa using this
    have inj : ∀ (u v : List Addr), u.map V.ref = v.map V.ref → u = v := by
      intro u
      induction u with
      | nil => intro v hv; cases v with | nil => rfl | cons _ _ => cases hv
      | cons x u ih =>
        intro v hv
        cases v with
        | nil => cases hv
        | cons y v =>
          rw [List.map_cons, List.map_cons] at hv
          injection hv with h1 h2
          injection h1 with h1
          rw [h1, ih v h2]
    exact (inj _ _ q1').symm
  subst e2
  refine ⟨as ++ [p], upd_same.trans (by simp), q2, q3, q4, z1, fun a ha => ?_⟩
  rcases List.mem_append.mp ha with ha | ha
  · exact z2 a ha
  · have : a = p := by simpa using ha
    rw [this]; exact zp
theorem RowsN.nil {H : Hp} {p : Addr} (hp : H p = none) : RowsN H (upd H p (.lst [])) p [] := ⟨[], upd_same, by simp, rfl, fun i h1 h2 => absurd h1 (by simp), hp, fun a ha => nomatch ha⟩
theorem Rows.isL {K : Frag} {H : Hp} {l : Addr} {rs : List (List Int)} (R : Rows H l rs) : IsL K H (IsL K H IsI) (.ref l) rs := by
  obtain ⟨as, e, n, hl, h⟩ := R
  refine ⟨l, _, rfl, SqL.of e, by simpa using hl, fun j x y h1 h2 => ?_⟩
  have j2 := (List.getElem?_eq_some_iff.mp h2)
  obtain ⟨j2, e2⟩ := j2
  have j1 : j < as.length := by omega
  rw [List.getElem?_map, List.getElem?_eq_getElem j1] at h1
  have h1' : x = V.ref as[j] := (Option.some.inj h1).symm
  rw [h1', ← e2]
  exact isL_ints (SqL.of (h j j1 j2))
end L2


set_option Elab.async false
set_option linter.all false
set_option maxRecDepth 100000
set_option maxHeartbeats 1000000
namespace L2
open PySem PySem.Spec PyProof.Rows PySem.W


section
variable {X : Cx} {a b c d : Expr} {ta tb tc td : TE} {pos : Pos}
def tChain3 (r r' r'' : R2) (ta tb tc td : TE) : TE := fun σ H Q => ta σ H fun x H1 => tb σ H1 fun y H2 => r x y H2 fun z H3 => ∃ k, z = .bl k ∧
  (if k = true then tc σ H3 fun y' H4 => r' y y' H4 fun z' H5 => ∃ k', z' = .bl k' ∧ (if k' = true then td σ H5 fun y'' H6 => r'' y' y'' H6 Q else Q (.bl false) H5) else Q (.bl false) H3)
def rBits : V → List V → Hp → VK → Prop := fun x vs H Q => ∃ i, x = .int i ∧ vs = [] ∧ Q (.int (Builtin.Int.intBits i : Nat)) H
def iSeq (K : Frag) (tl : TE) : TI := fun σ H R => tl σ H fun x H1 => ∃ a, x = .ref a ∧ (((∃ xs, SqL K H1 a xs) ∧ R (Itl K a) H1) ∨ ((∃ xs, SqT K H1 a xs) ∧ R (Itt K a) H1))
theorem pi_seq {tg l : Expr} {tl : TE} {K : Frag} (hK : X.K = K) (hl : PE X l tl) : PI X tg l (iSeq K tl) := by
  subst hK
  intro pins s σ H R I h
  refine thn (hl pins s σ H _ I h) fun v s1 ⟨x, H1, I1, r1, q1⟩ => ?_
  obtain ⟨a, e, q1⟩ := q1
  subst e
  cases r1
  rcases q1 with ⟨⟨xs, hq⟩, q⟩ | ⟨⟨xs, hq⟩, q⟩
  · obtain ⟨its, rv, p, hz⟩ := I1.list hq
    refine wpAny_pyIter_list p.isList ?_
    refine ⟨s1.heap.objs.size, [s1.heap.objs.size], _, _, H1, rfl, I1.kept (t' := s1.toks) fun b o e => Heap.get?_push_of_some _ e, turn_list a _, ⟨_, Heap.get?_push_size _ rfl, rfl, rfl⟩, fun b hb => ?_, q⟩
    have e : b = s1.heap.objs.size := by simpa using hb
    subst e
    exact I1.fpOk (Nat.le_refl _) (I1.hok.fresh (Nat.le_refl _))
  · obtain ⟨its, rv, p, hz⟩ := I1.tuple hq
    refine wpAny_pyIter_tuple (show s1.heap.IsTuple a its.toArray from p) ?_
    refine ⟨s1.heap.objs.size, [s1.heap.objs.size], _, _, H1, rfl, I1.kept (t' := s1.toks) fun b o e => Heap.get?_push_of_some _ e, turn_tuple a _, ⟨_, Heap.get?_push_size _ rfl, rfl, rfl⟩, fun b hb => ?_, q⟩
    have e : b = s1.heap.objs.size := by simpa using hb
    subst e
    exact I1.fpOk (Nat.le_refl _) (I1.hok.fresh (Nat.le_refl _))
end

def CA (n : Nat) (Pv : Nat → List V → Hp → Prop) (i m : Nat) (acc : List V) (H : Hp) : Prop := m = n - i ∧ i ≤ n ∧ acc.length ≤ i ∧ Pv i acc H
theorem CA.take {n : Nat} {Pv : Nat → List V → Hp → Prop} {i : Nat} {acc : List V} {v : V} {H : Hp} (hi : i < n) (hl : acc.length ≤ i) (h : Pv (i + 1) (acc ++ [v]) H) : ∃ m', m' < n - i ∧ CA n Pv (i + 1) m' (acc ++ [v]) H := ⟨n - (i + 1), by omega, rfl, hi, by simp; omega, h⟩
theorem CA.skip {n : Nat} {Pv : Nat → List V → Hp → Prop} {i : Nat} {acc : List V} {H : Hp} (hi : i < n) (hl : acc.length ≤ i) (h : Pv (i + 1) acc H) : ∃ m', m' < n - i ∧ CA n Pv (i + 1) m' acc H := ⟨n - (i + 1), by omega, rfl, hi, by omega, h⟩
theorem comp_inv {J : It} {n : Nat} {H1 : Hp} {g : TG} {tt : TT} {te : TE} {σ0 : St} {Q : VK} (Pv : Nat → List V → Hp → Prop) (hn : n < sizeLine) (h0 : Pv 0 [] H1) (hgo : ∀ i acc H, Pv i acc H → i < n → J.go i H) (hstop : ∀ acc H, Pv n acc H → J.stop n H)
    (hb : ∀ i x acc H H', i < n → acc.length ≤ i → Pv i acc H → J.yld i H x H' → g x σ0 H' fun σ2 H2 => tt σ2 H2 fun b H3 => if b = true then te σ2 H3 fun v H4 => ∃ m', m' < n - i ∧ CA n Pv (i + 1) m' (acc ++ [v]) H4 else ∃ m', m' < n - i ∧ CA n Pv (i + 1) m' acc H3)
    (hk : ∀ l acc H', Pv n acc H' → acc.length ≤ n → H' l = none → Q (.ref l) (upd H' l (.lst acc))) : CompR J g tt te σ0 Q H1 := by
  refine ⟨CA n Pv, ⟨n, rfl, Nat.zero_le _, Nat.le_refl _, h0⟩, ?_⟩
  rintro i m acc H ⟨rfl, hi, hl, p⟩
  by_cases h : i < n
  · exact .inr ⟨hgo i acc H p h, by omega, fun x H' y => hb i x acc H H' h hl p y⟩
  · have e : i = n := by omega
    subst e
    exact .inl ⟨hstop acc H p, by omega, fun q hq => hk q acc H p hl hq⟩

def IsQ (K : Frag) (H : Hp) {α : Type} (P : V → α → Prop) (v : V) (as : List α) : Prop := ∃ a xs, v = .ref a ∧ (SqL K H a xs ∨ SqT K H a xs) ∧ xs.length = as.length ∧ ∀ (j : Nat) (x : V) (y : α), xs[j]? = some x → as[j]? = some y → P x y
theorem IsQ.mono {K : Frag} {H H' : Hp} {α : Type} {P P' : V → α → Prop} {v : V} {as : List α} (h : IsQ K H P v as) (s : Same H H') (hp : ∀ x y, P x y → P' x y) : IsQ K H' P' v as := by
  obtain ⟨a, xs, e, q, l, r⟩ := h
  exact ⟨a, xs, e, s.q q, l, fun j x y h1 h2 => hp _ _ (r j x y h1 h2)⟩
theorem isQ_ints {K : Frag} {H : Hp} {a : Addr} {ns : List Int} (h : SqL K H a (ns.map V.int) ∨ SqT K H a (ns.map V.int)) : IsQ K H IsI (.ref a) ns := ⟨a, _, rfl, h, by simp, fun j x y h1 h2 => by
  rw [List.getElem?_map, h2] at h1
  exact (Option.some.inj h1).symm⟩
theorem IsI.list {xs : List V} {ns : List Int} (hl : xs.length = ns.length) (h : ∀ (j : Nat) (x : V) (y : Int), xs[j]? = some x → ns[j]? = some y → IsI x y) : xs = ns.map V.int := by
  refine List.ext_getElem (by simpa using hl) fun j h1 h2 => ?_
  have h2' : j < ns.length := by simpa using h2
  rw [List.getElem_map]
  exact h j _ _ (List.getElem?_eq_getElem h1) (List.getElem?_eq_getElem h2')
theorem IsQ.ints {K : Frag} {H : Hp} {v : V} {ns : List Int} (h : IsQ K H IsI v ns) : ∃ a, v = .ref a ∧ (SqL K H a (ns.map V.int) ∨ SqT K H a (ns.map V.int)) := by
  obtain ⟨a, xs, e, q, l, r⟩ := h
  rw [IsI.list l r] at q
  exact ⟨a, e, q⟩
theorem Rows.isQ {K : Frag} {H : Hp} {l : Addr} {rs : List (List Int)} (R : Rows H l rs) : IsQ K H (IsQ K H IsI) (.ref l) rs := by
  obtain ⟨as, e, n, hl, h⟩ := R
  refine ⟨l, _, rfl, .inl (SqL.of e), by simpa using hl, fun j x y h1 h2 => ?_⟩
  obtain ⟨j2, e2⟩ := List.getElem?_eq_some_iff.mp h2
  have j1 : j < as.length := by omega
  rw [List.getElem?_map, List.getElem?_eq_getElem j1] at h1
  have h1' : x = V.ref as[j] := (Option.some.inj h1).symm
  rw [h1', ← e2]
  exact isQ_ints (.inl (SqL.of (h j j1 j2)))
theorem IsQ.at {K : Frag} {H : Hp} {α : Type} {P : V → α → Prop} {a : Addr} {as : List α} (h : IsQ K H P (.ref a) as) {j : Nat} (hj : j < as.length) : ∃ xs x, (SqL K H a xs ∨ SqT K H a xs) ∧ atI xs (j : Int) = some x ∧ P x as[j] := by
  obtain ⟨b, xs, e, q, l, r⟩ := h
  cases e
  have hj' : j < xs.length := by omega
  exact ⟨xs, xs[j], q, atI_at rfl hj', r j _ _ (List.getElem?_eq_getElem hj') (List.getElem?_eq_getElem hj)⟩

def ItemsOf2 (F : List V → HO) (H : Hp) (rs : List (List Int)) (acc : List V) : Prop := acc.length = rs.length ∧ ∀ (j : Nat) (x : V) (ns : List Int), acc[j]? = some x → rs[j]? = some ns → ∃ a, x = .ref a ∧ H a = some (F (ns.map V.int))
theorem comp_copy {K : Frag} {J : It} {H1 : Hp} {Q : VK} {rs : List (List Int)} {te : TE} (F : List V → HO)
    (hte : ∀ (x : V) (ns : List Int) (H : Hp) (R : VK), ((∃ a, x = .ref a ∧ H a = some (.lst (ns.map V.int))) ∨ (IsQ K H IsI x ns ∧ F = HO.lst)) → (∀ l, H l = none → R (.ref l) (upd H l (F (ns.map V.int)))) → te [some x] H R)
    (hn : rs.length < sizeLine) (hgo : ∀ i H, Same H1 H → i < rs.length → J.go i H) (hstop : ∀ H, Same H1 H → J.stop rs.length H)
    (hy : ∀ i x H H' (h : i < rs.length), Same H1 H → J.yld i H x H' → H' = H ∧ ((∃ a, x = .ref a ∧ H a = some (.lst (rs[i].map V.int))) ∨ (IsQ K H IsI x rs[i] ∧ F = HO.lst)))
    (hk : ∀ l acc H', Same H1 H' → H1 l = none → ItemsOf2 F H' rs acc → (∀ x ∈ acc, ∃ a, x = V.ref a ∧ H1 a = none) → H' l = some (.lst acc) → Q (.ref l) H') : CompR J (gName 0) tYes te [none] Q H1 := by
  refine comp_inv (n := rs.length) (fun j acc Hx => Same H1 Hx ∧ acc.length = j ∧ ∀ (i : Nat) (x : V) (ns : List Int), acc[i]? = some x → rs[i]? = some ns → ∃ a, x = .ref a ∧ Hx a = some (F (ns.map V.int)) ∧ H1 a = none) hn ⟨Same.refl H1, rfl, fun i x ns h => by simp at h⟩ (fun i acc H h hi => hgo i H h.1 hi) (fun acc H h => hstop H h.1) ?_ ?_
  · rintro i x acc H H' hi hl ⟨s, hlen, hacc⟩ y
    obtain ⟨e, hx⟩ := hy i x H H' hi s y
    subst e
    show te [some x] H' _
    refine hte x rs[i] H' _ hx fun l hl' => CA.take hi hl ⟨s.upd' hl', by simp [hlen], fun j z ns h1 h2 => ?_⟩
    by_cases hj : j < acc.length
    · rw [List.getElem?_append_left hj] at h1
      obtain ⟨a, e1, e2, e3⟩ := hacc j z ns h1 h2
      exact ⟨a, e1, ((Same.refl H').upd hl') _ _ e2, e3⟩
    · have hjl : j < (acc ++ [V.ref l]).length := (List.getElem?_eq_some_iff.mp h1).1
      have ej : j = i := by simp at hjl; omega
      subst ej
      rw [List.getElem?_append_right (by omega)] at h1
      have ez : z = V.ref l := by
        have : j - acc.length = 0 := by omega
        rw [this] at h1; simpa using h1.symm
      rw [List.getElem?_eq_getElem hi] at h2
      cases h2
      exact ⟨l, ez, upd_same, s.free hl'⟩
  · rintro l acc H' ⟨s, hlen, hacc⟩ _ hl
    refine hk l acc _ (s.upd' hl) (s.free hl) ⟨hlen, fun j x ns h1 h2 => ?_⟩ (fun x hx => ?_) upd_same
    · obtain ⟨a, e1, e2, _⟩ := hacc j x ns h1 h2
      exact ⟨a, e1, ((Same.refl H').upd hl) _ _ e2⟩
    · obtain ⟨j, hj, rfl⟩ := List.getElem_of_mem hx
      obtain ⟨a, e1, _, e3⟩ := hacc j _ _ (List.getElem?_eq_getElem hj) (List.getElem?_eq_getElem (show j < rs.length by omega))
      exact ⟨a, e1, e3⟩
theorem te_list {K : Frag} (x : V) (ns : List Int) (H : Hp) (R : VK) (h : (∃ a, x = .ref a ∧ H a = some (.lst (ns.map V.int))) ∨ (IsQ K H IsI x ns ∧ HO.lst = HO.lst)) (k : ∀ l, H l = none → R (.ref l) (upd H l (.lst (ns.map V.int)))) : tCB (rLof K) (tCons (tVar 0) tNil) [some x] H R := by
  rcases h with ⟨a, rfl, h⟩ | ⟨h, _⟩
  · exact ⟨_, rfl, a, _, rfl, .inl (SqL.of h), k⟩
  · obtain ⟨a, rfl, q⟩ := h.ints
    exact ⟨_, rfl, a, _, rfl, q, k⟩
theorem te_tup {K : Frag} (x : V) (ns : List Int) (H : Hp) (R : VK) (h : (∃ a, x = .ref a ∧ H a = some (.lst (ns.map V.int))) ∨ (IsQ K H IsI x ns ∧ HO.tup = HO.lst)) (k : ∀ l, H l = none → R (.ref l) (upd H l (.tup (ns.map V.int)))) : tCB (rTof K) (tCons (tVar 0) tNil) [some x] H R := by
  rcases h with ⟨a, rfl, h⟩ | ⟨_, z⟩
  · exact ⟨_, rfl, a, _, rfl, .inl ⟨SqL.of h, k⟩⟩
  · have := congrFun z []
    cases this
theorem Rows.walk {K : Frag} {H1 : Hp} {d : Addr} {rs : List (List Int)} (R : Rows H1 d rs) : (∀ i H, Same H1 H → i < rs.length → (Itl K d).go i H) ∧ (∀ H, Same H1 H → (Itl K d).stop rs.length H) ∧
    ∀ i x H H' (h : i < rs.length), Same H1 H → (Itl K d).yld i H x H' → H' = H ∧ ∃ a, x = .ref a ∧ H a = some (.lst (rs[i].map V.int)) := by
  obtain ⟨as, e, n, hl, hh⟩ := R
  refine ⟨fun i H s hi => ⟨_, V.ref (as[i]'(by omega)), SqL.of (s _ _ e), by simp [show i < as.length by omega]⟩, fun H s => ⟨_, SqL.of (s _ _ e), by simp [hl]⟩, fun i x H H' hi s y => ?_⟩
  obtain ⟨e1, y⟩ := y
  have h1 := y _ (SqL.of (s _ _ e))
  have hia : i < as.length := by omega
  rw [List.getElem?_map, List.getElem?_eq_getElem hia] at h1
  exact ⟨e1, as[i], (Option.some.inj h1).symm, s _ _ (hh i hia hi)⟩
theorem ItemsOf2.isL {K : Frag} {H : Hp} {rs : List (List Int)} {acc : List V} {l : Addr} (h : ItemsOf2 HO.lst H rs acc) (hl : H l = some (.lst acc)) : IsL K H (IsL K H IsI) (.ref l) rs :=
  ⟨l, acc, rfl, SqL.of hl, h.1, fun j x y h1 h2 => by obtain ⟨a, rfl, e⟩ := h.2 j x y h1 h2; exact isL_ints (SqL.of e)⟩
theorem ItemsOf2.isQ {K : Frag} {H : Hp} {rs : List (List Int)} {acc : List V} {l : Addr} (h : ItemsOf2 HO.lst H rs acc) (hl : H l = some (.lst acc)) : IsQ K H (IsQ K H IsI) (.ref l) rs :=
  ⟨l, acc, rfl, .inl (SqL.of hl), h.1, fun j x y h1 h2 => by obtain ⟨a, rfl, e⟩ := h.2 j x y h1 h2; exact isQ_ints (.inl (SqL.of e))⟩
theorem ItemsOf2.isQT {K : Frag} {H H' : Hp} {rs : List (List Int)} {acc : List V} {l : Addr} (h : ItemsOf2 HO.tup H rs acc) (s : Same H H') (hl : H' l = some (.tup acc)) : IsQ K H' (IsQ K H' IsI) (.ref l) rs :=
  ⟨l, acc, rfl, .inr (SqT.of hl), h.1, fun j x y h1 h2 => by obtain ⟨a, rfl, e⟩ := h.2 j x y h1 h2; exact isQ_ints (.inr (SqT.of (s _ _ e)))⟩
theorem IsQ.same {K : Frag} {H H' : Hp} {v : V} {rs : List (List Int)} (h : IsQ K H (IsQ K H IsI) v rs) (s : Same H H') : IsQ K H' (IsQ K H' IsI) v rs := h.mono s fun x y q => q.mono s fun _ _ z => z

theorem IsQ.walk {K : Frag} {H1 : Hp} {l : Addr} {rs : List (List Int)} {R : It → Hp → Prop} (h : IsQ K H1 (IsQ K H1 IsI) (.ref l) rs)
    (hk : ∀ J : It, (∀ i H, Same H1 H → i < rs.length → J.go i H) → (∀ H, Same H1 H → J.stop rs.length H) → (∀ i x H H' (h : i < rs.length), Same H1 H → J.yld i H x H' → H' = H ∧ IsQ K H IsI x rs[i]) → R J H1) :
    ((∃ xs, SqL K H1 l xs) ∧ R (Itl K l) H1) ∨ ((∃ xs, SqT K H1 l xs) ∧ R (Itt K l) H1) := by
  obtain ⟨b, xs, e, q, hl, r⟩ := h
  cases e
  rcases q with q | q
  · refine .inl ⟨⟨_, q⟩, hk _ (fun i H s hi => ⟨xs, xs[i]'(by omega), s.seq q, List.getElem?_eq_getElem (by omega)⟩) (fun H s => ⟨xs, s.seq q, by omega⟩) fun i x H H' hi s y => ?_⟩
    obtain ⟨e1, y⟩ := y
    exact ⟨e1, (r i x _ (y _ (s.seq q)) (List.getElem?_eq_getElem hi)).mono s fun _ _ z => z⟩
  · refine .inr ⟨⟨_, q⟩, hk _ (fun i H s hi => ⟨xs, xs[i]'(by omega), s.seqT q, List.getElem?_eq_getElem (by omega)⟩) (fun H s => ⟨xs, s.seqT q, by omega⟩) fun i x H H' hi s y => ?_⟩
    obtain ⟨e1, y⟩ := y
    exact ⟨e1, (r i x _ (y _ (s.seqT q)) (List.getElem?_eq_getElem hi)).mono s fun _ _ z => z⟩

theorem ItemsOf2.same {F : List V → HO} {H H' : Hp} {rs : List (List Int)} {acc : List V} (h : ItemsOf2 F H rs acc) (s : Same H H') : ItemsOf2 F H' rs acc := ⟨h.1, fun j x ns h1 h2 => by obtain ⟨a, e1, e2⟩ := h.2 j x ns h1 h2; exact ⟨a, e1, s _ _ e2⟩⟩
theorem PoolAt.some {H : Hp} {p : Addr} (P : PoolAt H p) : H p ≠ none := fun z => by obtain ⟨x, y, e, _⟩ := P; rw [z] at e; cases e
end L2


set_option Elab.async false
set_option linter.all false
set_option maxRecDepth 100000
set_option maxHeartbeats 1000000
namespace L2
open PySem PySem.Spec PyProof.Rows PySem.W


section
variable {X : Cx}
def rInsert : V → List V → Hp → VK → Prop := fun x vs H Q => ∃ l xs i y, x = .ref l ∧ vs = [.int i, y] ∧ H l = some (.lst xs) ∧ 0 ≤ i ∧ i < 2 ^ 62 ∧ xs.length < sizeLine ∧ Q .non (upd H l (.lst (xs.take i.toNat ++ y :: xs.drop i.toNat)))
theorem Vals.takeN : ∀ {xs : List V} {us : List Value} (k : Nat), Vals xs us → Vals (xs.take k) (us.take k)
  | _, _, 0, _ => by simp; exact .nil
  | _, _, _ + 1, .nil => .nil
  | _, _, k + 1, .cons r h => .cons r (Vals.takeN k h)
theorem Vals.dropN : ∀ {xs : List V} {us : List Value} (k : Nat), Vals xs us → Vals (xs.drop k) (us.drop k)
  | _, _, 0, h => by simpa using h
  | _, _, _ + 1, .nil => .nil
  | _, _, k + 1, .cons _ h => Vals.dropN k h
theorem mt_insert : MtM X "list.insert" rInsert := by
  intro pins s σ H x vs v us Q I rx rv h
  obtain ⟨l, xs, i, y, rfl, rfl, hH, h1, h2, hz, q⟩ := h
  cases rx
  obtain ⟨u, u2, rfl, ru, ru2⟩ := rv.two
  obtain ⟨t, rfl⟩ := ru
  obtain ⟨z, its, n, r, hl, e⟩ := I.lstM hH
  have hf : ¬ (!Builtin.List.listFitsIndex i) = true := by
    unfold Builtin.List.listFitsIndex
    have a1 : decide (-(2 ^ 63 : Int) ≤ i) = true := decide_eq_true (by omega)
    have a2 : decide (i < (2 ^ 63 : Int)) = true := decide_eq_true (by omega)
    rw [a1, a2]; decide
  refine call_meets F.slot_list_insert ⟨_, e, rfl⟩ F.entry_list_insert (F.args_list_insert_3 _ _ _) (AutoListH.list_insert_list_int_val_1 l its.toArray n i t u2 hf (by rw [List.size_toArray]; omega)) ⟨e, ?_⟩
  refine ⟨.non, _, I.lset (its' := its.take i.toNat ++ u2 :: its.drop i.toNat) (ys := xs.take i.toNat ++ y :: xs.drop i.toNat) hH e ?_ ((r.takeN _).append (.cons ru2 (r.dropN _))) ?_, rfl, q⟩
  · show ((its.toArray.extract 0 (if i < 0 then (i + ((its.toArray.size : Nat) : Int)).toNat else min i.toNat its.toArray.size)).push u2 ++ its.toArray.extract (if i < 0 then (i + ((its.toArray.size : Nat) : Int)).toNat else min i.toNat its.toArray.size)) = _
    rw [if_neg (by omega)]
    have e1 : its.take (min i.toNat its.length) = its.take i.toNat := by
      by_cases hh : i.toNat ≤ its.length
      · rw [Nat.min_eq_left hh]
      · rw [Nat.min_eq_right (by omega), List.take_of_length_le (by omega), List.take_of_length_le (by omega)]
    have e2 : its.drop (min i.toNat its.length) = its.drop i.toNat := by
      by_cases hh : i.toNat ≤ its.length
      · rw [Nat.min_eq_left hh]
      · rw [Nat.min_eq_right (by omega), List.drop_of_length_le (by omega), List.drop_of_length_le (by omega)]
    apply Array.ext'
    simp [e1, e2]
    exact List.take_of_length_le (by rw [List.length_drop]; omega)
  · rw [List.length_append, List.length_cons, List.length_take, List.length_drop]; omega
def rIndex (K : Frag) : V → List V → Hp → VK → Prop := fun x vs H Q => ∃ (l : Addr) (ns : List Int) (k : Int), x = .ref l ∧ vs = [.int k] ∧ SqL K H l (ns.map V.int) ∧ ns.length ≤ 100000 ∧ k ∈ ns ∧ Q (.int (ns.idxOf k : Nat)) H
end
def rIntB : List V → Hp → VK → Prop := fun xs H Q => ∃ k, xs = [.bl k] ∧ Q (.int (if k = true then 1 else 0)) H
def PotAt (H : Hp) (p : Addr) : Prop := ∃ x : Int, H p = some (.lst [.int x]) ∧ 0 ≤ x
theorem PotAt.ne {H : Hp} {p q : Addr} (P : PotAt H p) (h : H q = none) : q ≠ p := by
  obtain ⟨x, e, _⟩ := P
  exact (ne_of_none e h).symm
theorem PotAt.same {H H' : Hp} {p : Addr} (P : PotAt H p) (s : Same H H') : PotAt H' p := by
  obtain ⟨x, e, r⟩ := P
  exact ⟨x, s _ _ e, r⟩
theorem PotAt.upd {H : Hp} {p q : Addr} {o : HO} (P : PotAt H p) (h : H q = none) : PotAt (L2.upd H q o) p := P.same ((Same.refl H).upd h)
theorem PotAt.updN {H : Hp} {p q : Addr} {o : HO} (P : PotAt H p) (h : q ≠ p) : PotAt (L2.upd H q o) p := by
  obtain ⟨x, e, r⟩ := P
  exact ⟨x, by rw [upd_ne h.symm]; exact e, r⟩
theorem PotAt.some {H : Hp} {p : Addr} (P : PotAt H p) : H p ≠ none := fun z => by obtain ⟨x, e, _⟩ := P; rw [z] at e; cases e
end L2


set_option Elab.async false
set_option linter.all false
set_option maxRecDepth 100000
set_option maxHeartbeats 1000000
namespace L2


def IsPrev (f : Nat → Int) (p q : Nat) : Prop := q < p ∧ f q ≤ f p ∧ ∀ r, q < r → r < p → f p < f r
def IsNext (f : Nat → Int) (n p r : Nat) : Prop := p < r ∧ r < n ∧ f r < f p ∧ ∀ s, p < s → s < r → f p ≤ f s
def NoPrev (f : Nat → Int) (p : Nat) : Prop := ∀ q, q < p → f p < f q
def NoNext (f : Nat → Int) (n p : Nat) : Prop := ∀ r, p < r → r < n → f p ≤ f r

def ElderIs (f : Nat → Int) (n p : Nat) (e : Int) : Prop :=
  (NoPrev f p ∧ NoNext f n p ∧ e = -1) ∨ (∃ q, IsPrev f p q ∧ NoNext f n p ∧ e = q) ∨ (∃ r, NoPrev f p ∧ IsNext f n p r ∧ e = r) ∨
  ∃ q r, IsPrev f p q ∧ IsNext f n p r ∧ e = if f q ≤ f r then (r : Int) else q
theorem exists_last {P : Nat → Prop} [DecidablePred P] (i : Nat) : ∀ d r, r + d = i → P r → ∃ t, r ≤ t ∧ t ≤ i ∧ P t ∧ ∀ s, t < s → s ≤ i → ¬ P s := by
  intro d
  induction d with
  | zero => intro r e h; exact ⟨r, Nat.le_refl _, by omega, h, fun s h1 h2 => by omega⟩
  | succ d ih =>
    intro r e h
    by_cases hx : ∃ t, r < t ∧ t ≤ i ∧ P t
    · obtain ⟨t, h1, h2, h3⟩ := hx
      -- step to r + 1 by cases
      by_cases h4 : P (r + 1)
      · obtain ⟨u, u1, u2, u3, u4⟩ := ih (r + 1) (by omega) h4
        exact ⟨u, by omega, u2, u3, u4⟩
      · -- go on from the next one
        have gen : ∀ k t, t + k = i → r < t → P t → ∃ u, r ≤ u ∧ u ≤ i ∧ P u ∧ ∀ s, u < s → s ≤ i → ¬ P s := by
          intro k
          induction k with
          | zero => intro t e h1 h3; exact ⟨t, by omega, by omega, h3, fun s h1 h2 => by omega⟩
          | succ k ihk =>
            intro t e h1 h3
            by_cases hy : ∃ s, t < s ∧ s ≤ i ∧ P s
            · -- the last one of the rest
              have key : ∀ m, m ≤ i → (∃ s, t < s ∧ s ≤ m ∧ P s) → ∃ u, t < u ∧ u ≤ m ∧ P u ∧ ∀ s, u < s → s ≤ m → ¬ P s := by
                intro m
                induction m with
                | zero => rintro _ ⟨s, h5, h6, _⟩; omega
                | succ m ihm =>
                  rintro hm ⟨s, h5, h6, h7⟩
                  by_cases hp : P (m + 1)
                  · exact ⟨m + 1, by omega, Nat.le_refl _, hp, fun s h1 h2 => by omega⟩
                  · have hs : s ≤ m := by
                      rcases Nat.lt_or_ge m s with z | z
                      · have : s = m + 1 := by omega
                        rw [this] at h7; exact absurd h7 hp
                      · exact z
                    obtain ⟨u, u1, u2, u3, u4⟩ := ihm (by omega) ⟨s, h5, hs, h7⟩
                    refine ⟨u, u1, by omega, u3, fun s' h1 h2 => ?_⟩
                    by_cases e : s' = m + 1
                    · rw [e]; exact hp
                    · exact u4 s' h1 (by omega)
              obtain ⟨u, u1, u2, u3, u4⟩ := key i (Nat.le_refl _) hy
              exact ⟨u, by omega, u2, u3, u4⟩
            · exact ⟨t, by omega, by omega, h3, fun s h1 h2 h5 => hy ⟨s, h1, h2, h5⟩⟩
        exact gen (i - t) t (by omega) h1 h3
    · exact ⟨r, Nat.le_refl _, by omega, h, fun s h1 h2 h3 => hx ⟨s, h1, h2, h3⟩⟩

theorem last_below {P : Nat → Prop} [DecidablePred P] {n r : Nat} (hr : r < n) (h : P r) : ∃ t, r ≤ t ∧ t < n ∧ P t ∧ ∀ s, t < s → s < n → ¬ P s := by
  obtain ⟨t, h1, h2, h3, h4⟩ := exists_last (P := P) (n - 1) (n - 1 - r) r (by omega) h
  exact ⟨t, h1, by omega, h3, fun s a b => h4 s a (by omega)⟩
def Spine (f : Nat → Int) (i : Nat) (sp : List Nat) : Prop := sp.Pairwise (· < ·) ∧ ∀ q, q ∈ sp ↔ q < i ∧ ∀ r, q < r → r < i → f q ≤ f r
theorem prev_or (f : Nat → Int) (p : Nat) : NoPrev f p ∨ ∃ q, IsPrev f p q := by
  by_cases h : ∃ q, q < p ∧ f q ≤ f p
  · obtain ⟨q, h1, h2⟩ := h
    obtain ⟨t, _, t2, t3, t4⟩ := last_below (P := fun q => f q ≤ f p) h1 h2
    exact .inr ⟨t, t2, t3, fun r a b => by have := t4 r a b; omega⟩
  · exact .inl fun q hq => by
      have : ¬ (f q ≤ f p) := fun z => h ⟨q, hq, z⟩
      omega

end L2


set_option Elab.async false
set_option linter.all false
set_option maxRecDepth 100000
set_option maxHeartbeats 1000000
namespace L2
open PySem PySem.Spec PyProof.Rows PySem.W


section
variable {X : Cx} {e st : Expr} {te ts : TE} {pos pos1 p2 : Pos}
def tDelT (te ts : TE) : TS := fun D σ H => te σ H fun x H1 => ts σ H1 fun z H2 => ∃ (l : Addr) (xs : List V) (k : Nat), x = .ref l ∧ z = .int k ∧ H2 l = some (.lst xs) ∧ k ≤ xs.length ∧ D.nx σ (upd H2 l (.lst (xs.take k)))
end
end L2


set_option Elab.async false
set_option linter.all false
set_option maxRecDepth 100000
set_option maxHeartbeats 1000000
namespace L2
open PySem PySem.Spec PyProof.Rows PySem.W


theorem IsPrev.unique {f : Nat → Int} {p q q' : Nat} (h : IsPrev f p q) (k : IsPrev f p q') : q = q' := by
  rcases Nat.lt_trichotomy q q' with z | z | z
  · have := h.2.2 q' z k.1; have := k.2.1; omega
  · exact z
  · have := k.2.2 q z h.1; have := h.2.1; omega
theorem IsNext.unique {f : Nat → Int} {n p r r' : Nat} (h : IsNext f n p r) (k : IsNext f n p r') : r = r' := by
  rcases Nat.lt_trichotomy r r' with z | z | z
  · have := k.2.2.2 r h.1 z; have := h.2.2.1; omega
  · exact z
  · have := h.2.2.2 r' k.1 z; have := k.2.2.1; omega
theorem IsPrev.no {f : Nat → Int} {p q : Nat} (h : IsPrev f p q) (k : NoPrev f p) : False := by have := k q h.1; have := h.2.1; omega
theorem IsNext.no {f : Nat → Int} {n p r : Nat} (h : IsNext f n p r) (k : NoNext f n p) : False := by have := k r h.1 h.2.1; have := h.2.2.1; omega
theorem ElderIs.unique {f : Nat → Int} {n p : Nat} {e e' : Int} (h : ElderIs f n p e) (k : ElderIs f n p e') : e = e' := by
  rcases h with ⟨h1, h2, h3⟩ | ⟨q, h1, h2, h3⟩ | ⟨r, h1, h2, h3⟩ | ⟨q, r, h1, h2, h3⟩ <;>
  rcases k with ⟨k1, k2, k3⟩ | ⟨q', k1, k2, k3⟩ | ⟨r', k1, k2, k3⟩ | ⟨q', r', k1, k2, k3⟩
  · rw [h3, k3]
  · exact (k1.no h1).elim
  · exact (k2.no h2).elim
  · exact (k1.no h1).elim
  · exact (h1.no k1).elim
  · rw [h3, k3, h1.unique k1]
  · exact (h1.no k1).elim
  · exact (k2.no h2).elim
  · exact (h2.no k2).elim
  · exact (k1.no h1).elim
  · rw [h3, k3, h2.unique k2]
  · exact (k1.no h1).elim
  · exact (h1.no k1).elim
  · exact (h2.no k2).elim
  · exact (h1.no k1).elim
  · rw [h3, k3, h1.unique k1, h2.unique k2]
def TreeIs (ns : List Int) (es : List Int) : Prop := es.length = ns.length ∧ ∀ p, p < ns.length → ElderIs (nth ns) ns.length p (es.getD p 0)
theorem TreeIs.unique {ns es es' : List Int} (h : TreeIs ns es) (k : TreeIs ns es') : es = es' := by
  refine List.ext_getElem (by rw [h.1, k.1]) fun j h1 h2 => ?_
  have hj : j < ns.length := by rw [← h.1]; exact h1
  have := (h.2 j hj).unique (k.2 j hj)
  simpa [List.getD_eq_getElem?_getD, h1, h2] using this

def StackAt (H : Hp) (l : Addr) (st : List (Int × Int × Int)) : Prop := ∃ qs : List Addr, H l = some (.lst (qs.map V.ref)) ∧ qs.length = st.length ∧ ∀ (j : Nat) (q : Addr) (x : Int × Int × Int), qs[j]? = some q → st[j]? = some x → H q = some (.tup [.int x.1, .int x.2.1, .int x.2.2])
theorem StackAt.same {H H' : Hp} {l : Addr} {st : List (Int × Int × Int)} (S : StackAt H l st) (s : Same H H') : StackAt H' l st := by
  obtain ⟨qs, h1, h2, h3⟩ := S
  exact ⟨qs, s _ _ h1, h2, fun j q x a b => s _ _ (h3 j q x a b)⟩
theorem StackAt.other {H : Hp} {l e : Addr} {st : List (Int × Int × Int)} {zs : List V} {o : HO} (S : StackAt H l st) (hne : e ≠ l) (he : H e = some (.lst zs)) : StackAt (upd H e o) l st := by
  obtain ⟨qs, h1, h2, h3⟩ := S
  refine ⟨qs, by rw [upd_ne hne.symm]; exact h1, h2, fun j q x a b => ?_⟩
  have h := h3 j q x a b
  rw [upd_ne]
  · exact h
  · intro z; subst z; rw [he] at h; cases h
theorem StackAt.pop {H : Hp} {l : Addr} {st : List (Int × Int × Int)} {x : Int × Int × Int} (S : StackAt H l (st ++ [x])) : ∃ qs q, H l = some (.lst ((qs ++ [q]).map V.ref)) ∧ qs.length = st.length ∧ H q = some (.tup [.int x.1, .int x.2.1, .int x.2.2]) ∧ q ≠ l ∧ StackAt (upd H l (.lst (qs.map V.ref))) l st := by
  obtain ⟨qs0, h1, h2, h3⟩ := S
  have hne : qs0 ≠ [] := fun z => by rw [z] at h2; simp at h2
  obtain ⟨q, qs, rfl⟩ : ∃ q qs, qs0 = qs ++ [q] := ⟨qs0.getLast hne, qs0.dropLast, (List.dropLast_concat_getLast hne).symm⟩
  have hlen : qs.length = st.length := by simpa using h2
  have hq : H q = some (.tup [.int x.1, .int x.2.1, .int x.2.2]) := by
    refine h3 st.length _ x ?_ (by simp)
    rw [List.getElem?_append_right (by omega), hlen]; simp
  have hql : q ≠ l := fun z => by rw [z, h1] at hq; cases hq
  refine ⟨qs, q, h1, hlen, hq, hql, qs, upd_same, hlen, fun j p y a b => ?_⟩
  have hj : j < st.length := (List.getElem?_eq_some_iff.mp b).1
  have h := h3 j p y (by rw [List.getElem?_append_left (by omega)]; exact a) (by rw [List.getElem?_append_left hj]; exact b)
  rw [upd_ne]
  · exact h
  · intro z; rw [z, h1] at h; cases h
theorem StackAt.push {H : Hp} {l q : Addr} {st : List (Int × Int × Int)} {x : Int × Int × Int} (S : StackAt H l st) (hq : H q = some (.tup [.int x.1, .int x.2.1, .int x.2.2])) : ∃ xs : List V, H l = some (.lst xs) ∧ xs.length = st.length ∧ StackAt (upd H l (.lst (xs ++ [V.ref q]))) l (st ++ [x]) := by
  obtain ⟨qs, h1, h2, h3⟩ := S
  have ql : q ≠ l := fun z => by rw [z, h1] at hq; cases hq
  refine ⟨_, h1, by simp [h2], qs ++ [q], by rw [upd_same]; simp, by simp [h2], fun j p y a b => ?_⟩
  by_cases hj : j < qs.length
  · rw [List.getElem?_append_left hj] at a
    rw [List.getElem?_append_left (by omega)] at b
    have h := h3 j p y a b
    rw [upd_ne]
    · exact h
    · intro z; rw [z, h1] at h; cases h
  · have hjl := (List.getElem?_eq_some_iff.mp a).1
    have e : j = qs.length := by simp at hjl; omega
    subst e
    rw [List.getElem?_append_right (Nat.le_refl _)] at a
    rw [h2, List.getElem?_append_right (Nat.le_refl _)] at b
    simp at a b
    rw [← a, ← b, upd_ne ql]; exact hq
end L2


set_option Elab.async false
set_option linter.all false
set_option maxRecDepth 100000
set_option maxHeartbeats 1000000
namespace L2


def Over (f : Nat → Int) (o p : Nat) : Prop := (o < p ∧ ∀ r, o < r → r ≤ p → f o ≤ f r) ∨ (p < o ∧ ∀ r, p ≤ r → r < o → f o < f r)
theorem Over.irrefl {f : Nat → Int} {p : Nat} : ¬ Over f p p := by rintro (⟨h, _⟩ | ⟨h, _⟩) <;> omega
theorem Over.ne {f : Nat → Int} {o p : Nat} (h : Over f o p) : o ≠ p := fun z => Over.irrefl (z ▸ h)
theorem Over.trans {f : Nat → Int} {o e p : Nat} (h : Over f o e) (k : Over f e p) : Over f o p := by
  rcases h with ⟨h1, h2⟩ | ⟨h1, h2⟩ <;> rcases k with ⟨k1, k2⟩ | ⟨k1, k2⟩
  · refine .inl ⟨by omega, fun r r1 r2 => ?_⟩
    by_cases z : r ≤ e
    · exact h2 r r1 z
    · have := k2 r (by omega) r2; have := h2 e h1 (Nat.le_refl _); omega
  · have he := h2 e h1 (Nat.le_refl _)
    rcases Nat.lt_trichotomy o p with z | z | z
    · exact .inl ⟨z, fun r r1 r2 => h2 r r1 (by omega)⟩
    · have := k2 p (Nat.le_refl _) k1; subst z; omega
    · exact .inr ⟨z, fun r r1 r2 => by have := k2 r r1 (by omega); omega⟩
  · have he := h2 e (Nat.le_refl _) h1
    rcases Nat.lt_trichotomy o p with z | z | z
    · exact .inl ⟨z, fun r r1 r2 => by have := k2 r (by omega) r2; omega⟩
    · have := k2 p k1 (Nat.le_refl _); subst z; omega
    · exact .inr ⟨z, fun r r1 r2 => h2 r (by omega) r2⟩
  · refine .inr ⟨by omega, fun r r1 r2 => ?_⟩
    by_cases z : r < e
    · have := k2 r r1 z; have := h2 e (Nat.le_refl _) h1; omega
    · exact h2 r (by omega) r2
def wayF (T : List Int) : Nat → Int → List Nat
  | 0, _ => []
  | k + 1, at_ => if 0 ≤ at_ ∧ at_ < T.length then at_.toNat :: wayF T k (nth T at_.toNat) else []
inductive StT (T : Nat → Int) : Int → Int → Int → Prop
  | nil {a b e : Int} : b < a → StT T a b e
  | node {a b e : Int} (h : Nat) : a ≤ h → (h : Int) ≤ b → T h = e → (∀ q : Nat, a ≤ q → (q : Int) ≤ b → T q = e → q = h) → StT T a ((h : Int) - 1) h → StT T ((h : Int) + 1) b h → StT T a b e
inductive StG (T g : Nat → Int) : Int → Int → Int → Int → Prop
  | nil {a b e m : Int} : b < a → StG T g a b e m
  | node {a b e m : Int} (h : Nat) : a ≤ h → (h : Int) ≤ b → T h = e → g h = m → StG T g a ((h : Int) - 1) h (m + 1) → StG T g ((h : Int) + 1) b h (m + 1) → StG T g a b e m
theorem StG.congr {T g g' : Nat → Int} {a b e m : Int} (S : StG T g a b e m) : (∀ q : Nat, a ≤ q → (q : Int) ≤ b → g q = g' q) → StG T g' a b e m := by
  induction S with
  | nil z => intro _; exact .nil z
  | node h h1 h2 h3 h4 _ _ ih1 ih2 =>
    intro k
    exact .node h h1 h2 h3 (by rw [← k h h1 h2]; exact h4) (ih1 fun q q1 q2 => k q q1 (by omega)) (ih2 fun q q1 q2 => k q (by omega) q2)
theorem StT.row {T : Nat → Int} {a b e : Int} (S : StT T a b e) : ∀ m, ∃ g, StG T g a b e m := by
  induction S with
  | nil z => intro m; exact ⟨fun _ => 0, .nil z⟩
  | node h h1 h2 h3 h4 _ _ ih1 ih2 =>
    intro m
    obtain ⟨g1, k1⟩ := ih1 (m + 1)
    obtain ⟨g2, k2⟩ := ih2 (m + 1)
    refine ⟨fun q => if q < h then g1 q else if q = h then m else g2 q, .node h h1 h2 h3 ?_ (k1.congr fun q q1 q2 => ?_) (k2.congr fun q q1 q2 => ?_)⟩
    · show (if h < h then g1 h else if h = h then m else g2 h) = m
      rw [if_neg (by omega), if_pos rfl]
    · show g1 q = if q < h then g1 q else if q = h then m else g2 q
      rw [if_pos (by omega)]
    · show g2 q = if q < h then g1 q else if q = h then m else g2 q
      rw [if_neg (by omega), if_neg (by omega)]
end L2


set_option Elab.async false
set_option linter.all false
set_option maxRecDepth 100000
set_option maxHeartbeats 1000000
namespace L2
open PySem PySem.Spec PyProof.Rows PySem.W
theorem ixN_nat {n j : Nat} (h : j < n) : ixN n (j : Int) = some j := by
  unfold ixN
  rw [if_pos (by omega), if_pos (by omega)]; simp
end L2


set_option Elab.async false
set_option linter.all false
set_option maxRecDepth 100000
set_option maxHeartbeats 1000000
namespace L2
open PySem PySem.Spec PyProof.Rows PySem.W
section
variable {X : Cx}

def tRngV2 (ta : TA) : TE := fun σ H Q => ta σ H fun vs H1 => ∃ i j : Int, vs = [.int i, .int j] ∧ -(2 ^ 62) ≤ i ∧ i < 2 ^ 62 ∧ -(2 ^ 62) ≤ j ∧ j < 2 ^ 62 ∧ ∀ p, H1 p = none → Q (.ref p) (upd H1 p (.rng i j))
def rLstR2 : List V → Hp → VK → Prop := fun xs H Q => ∃ p i j, xs = [.ref p] ∧ H p = some (.rng i j) ∧ -(2 ^ 62) ≤ i ∧ i < 2 ^ 62 ∧ -(2 ^ 62) ≤ j ∧ j < 2 ^ 62 ∧ j - i ≤ 1000 ∧ ∀ l, H l = none → Q (.ref l) (upd H l (.lst ((List.range (j - i).toNat).map fun (k : Nat) => V.int (i + (k : Int)))))
end
end L2


set_option Elab.async false
set_option linter.all false
set_option maxRecDepth 100000
set_option maxHeartbeats 1000000
namespace L2
open PySem PySem.Spec PyProof.Rows PySem.W

section
variable {X : Cx}
end
end L2


set_option Elab.async false
set_option linter.all false
set_option maxRecDepth 100000
set_option maxHeartbeats 1000000
namespace L2
open PySem PySem.Spec PyProof.Rows PySem.W

section
variable {prog : Program} {w : World} {A : Around} {E : Value → Shared → Prop} {s : Shared}
end
section
variable {X : Cx}
def gSubSl (to tl tu : TE) : TG := fun v σ H Q => to σ H fun x H1 => tl σ H1 fun y H2 => tu σ H2 fun z H3 => ∃ (l b : Addr) (xs ys : List V) (a c : Int), x = .ref l ∧ v = .ref b ∧ y = .int a ∧ z = .int c ∧ H3 l = some (.lst xs) ∧ H3 b = some (.lst ys) ∧ l ≠ b ∧ 0 ≤ a ∧ a ≤ c ∧ a ≤ xs.length ∧ xs.length + ys.length ≤ sizeLine ∧ Q σ (upd H3 l (.lst (xs.take a.toNat ++ ys ++ xs.drop c.toNat)))
end
end L2


set_option Elab.async false
set_option linter.all false
set_option maxRecDepth 100000
set_option maxHeartbeats 1000000
namespace L2
open PySem PySem.Spec PyProof.Rows PySem.W

theorem seqR {a b : TS} {D : Ends} {σ : St} {H : Hp} (Mid : St → Hp → Prop) (h1 : ∀ R : St → Hp → Prop, (∀ σ' H', Mid σ' H' → R σ' H') → a { D with nx := R } σ H) (h2 : ∀ σ' H', Mid σ' H' → b D σ' H') : tSeq a b D σ H := h1 _ h2
theorem ty_bb {K : Frag} {H : Hp} {b : Bool} : tyIs K H (.bl b) (.type "bool") true := .inl ⟨_, .bl b, by with_unfolding_all rfl⟩
end L2


set_option Elab.async false
set_option linter.all false
set_option maxRecDepth 100000
set_option maxHeartbeats 1000000
namespace L2
open PySem PySem.Spec PyProof.Rows


structure CellsOf (cl : List (Str × Addr)) (n0 : Nat) (cs : List (Str × Addr)) (h0 h : Heap) (done : List (Str × NameKind)) : Prop where
  old : ∀ b o, h0.get? b = some o → h.get? b = some o
  sz : n0 ≤ h.objs.size
  mem : ∀ p ∈ cs, p ∈ cl ∨ (n0 ≤ p.2 ∧ p.2 < h.objs.size ∧ h.IsCell p.2 none)
  inj : ∀ p ∈ cs, ∀ q ∈ cs, n0 ≤ p.2 → p.2 = q.2 → p.1 = q.1
  own : ∀ y ∈ done, y.2 = .cell → ∃ c, cs.lookup y.1 = some c ∧ n0 ≤ c
  oth : ∀ x, (∀ y ∈ done, y.2 = .cell → y.1 ≠ x) → cs.lookup x = cl.lookup x
theorem cells_run {M : Model} {A : Around} {E : Value → Shared → Prop} {cl : List (Str × Addr)} {n0 : Nat} {h0 : Heap} (hcl : ∀ p ∈ cl, p.2 < n0) : ∀ (names : List (Str × NameKind)) (cs : List (Str × Addr)) (done : List (Str × NameKind)) (s : Shared), CellsOf cl n0 cs h0 s.heap done →
    wpAny M A (forIn names cs fun (x : Str × NameKind) (r : List (Str × Addr)) => (match x with
      | (name, kind) => if (kind == NameKind.cell) = true then do
          let a ← alloc { cls := .type "cell", data := .cell none }
          pure (ForInStep.yield ((name, a) :: r))
        else pure (ForInStep.yield r) : Sem (ForInStep (List (Str × Addr))))) (fun cs' s' => ∃ h', s' = { s with heap := h' } ∧ CellsOf cl n0 cs' h0 h' (done ++ names)) E s
  | [], cs, done, s, I => by
    rw [List.forIn_nil, List.append_nil]
    exact wpAny_pure ⟨s.heap, rfl, I⟩
  | (n, k) :: r, cs, done, s, I => by
    rw [List.forIn_cons]
    by_cases hk : k = .cell
    · subst hk
      simp only [beq_self_eq_true, if_true]
      refine wpAny_bind (wpAny_bind (wpAny_alloc (wpAny_pure ?_)))
      have hget : (s.heap.push { cls := .type "cell", data := .cell none }).get? s.heap.objs.size = some { cls := .type "cell", data := .cell none } := Heap.get?_push_size _ rfl
      have I' : CellsOf cl n0 ((n, s.heap.objs.size) :: cs) h0 (s.heap.push { cls := .type "cell", data := .cell none }) (done ++ [(n, .cell)]) := by
        refine ⟨fun b o e => Heap.get?_push_of_some _ (I.old b o e), by rw [Heap.size_push]; exact Nat.le_succ_of_le I.sz, fun p hp => ?_, fun p hp q hq hn e => ?_, fun y hy hc => ?_, fun x hx => ?_⟩
        · rcases List.mem_cons.mp hp with z | z
          · subst z
            exact .inr ⟨I.sz, by rw [Heap.size_push]; exact Nat.lt_succ_self _, _, hget, rfl⟩
          · rcases I.mem p z with w | ⟨w1, w2, o, w3, w4⟩
            · exact .inl w
            · exact .inr ⟨w1, by rw [Heap.size_push]; exact Nat.lt_succ_of_lt w2, o, Heap.get?_push_of_some _ w3, w4⟩
        · have lt : ∀ p ∈ cs, p.2 < s.heap.objs.size := fun p hp => by
            rcases I.mem p hp with w | w
            · exact Nat.lt_of_lt_of_le (hcl p w) I.sz
            · exact w.2.1
          rcases List.mem_cons.mp hp with z | z <;> rcases List.mem_cons.mp hq with z' | z'
          · rw [z, z']
          · subst z; exact absurd (show s.heap.objs.size < s.heap.objs.size from (show s.heap.objs.size = q.2 from e) ▸ lt q z') (Nat.lt_irrefl _)
          · subst z'; exact absurd (show s.heap.objs.size < s.heap.objs.size from (show p.2 = s.heap.objs.size from e) ▸ lt p z) (Nat.lt_irrefl _)
          · exact I.inj p z q z' hn e
        · rcases List.mem_append.mp hy with z | z
          · obtain ⟨c, e1, e2⟩ := I.own y z hc
            by_cases hx : y.1 = n
            · exact ⟨s.heap.objs.size, by rw [hx]; simp, I.sz⟩
            · have hb : (y.1 == n) = false := by simpa using hx
              exact ⟨c, by simp only [List.lookup_cons, hb]; exact e1, e2⟩
          · have : y = (n, .cell) := by simpa using z
            subst this
            exact ⟨s.heap.objs.size, by simp, I.sz⟩
        · have hxn : n ≠ x := hx (n, .cell) (by simp) rfl
          have hb : (x == n) = false := by simpa using hxn.symm
          simp only [List.lookup_cons, hb]
          exact I.oth x fun y hy => hx y (List.mem_append_left _ hy)
      refine thn (cells_run hcl r _ _ { s with heap := s.heap.push { cls := .type "cell", data := .cell none } } I') fun cs' s' ⟨h', e1, e2⟩ => ⟨h', e1, ?_⟩
      rw [List.append_assoc] at e2
      exact e2
    · have e1 : (k == NameKind.cell) = false := by cases k <;> first | rfl | exact absurd rfl hk
      simp only [e1, Bool.false_eq_true, if_false]
      refine wpAny_bind (wpAny_pure ?_)
      have I' : CellsOf cl n0 cs h0 s.heap (done ++ [(n, k)]) := by
        refine ⟨I.old, I.sz, I.mem, I.inj, fun y hy hc => ?_, fun x hx => I.oth x fun y hy => hx y (List.mem_append_left _ hy)⟩
        rcases List.mem_append.mp hy with z | z
        · exact I.own y z hc
        · have : y = (n, k) := by simpa using z
          subst this
          exact absurd hc hk
      refine thn (cells_run hcl r _ _ s I') fun cs' s' ⟨h', e1, e2⟩ => ⟨h', e1, ?_⟩
      rw [List.append_assoc] at e2
      exact e2
theorem newEnv_own {M : Model} {A : Around} {E : Value → Shared → Prop} {s : Shared} {scope : Scope} {globals : Addr} {cl : List (Str × Addr)} {qual : Str} {around : Env} {Q : Env → Shared → Prop} (hcl : ∀ p ∈ cl, p.2 < s.heap.objs.size)
    (h : ∀ cs h', CellsOf cl (s.heap.objs.size + 1) cs (s.heap.push { cls := .type "dict", data := .dict #[] }) h' scope.names → Q { scope := scope, locals := s.heap.objs.size, globals := globals, cells := cs, qual := qual, func := none, code := around.code, frame := around.frame, builtins := around.builtins } { s with heap := h' }) :
    wpAny M A (newFunctionEnv scope globals cl [] qual none .none (some around)) Q E s := by
  unfold newFunctionEnv
  refine wpAny_bind (wpAny_alloc ?_)
  refine wpAny_bind (thn (cells_run (cl := cl) (n0 := s.heap.objs.size + 1) (h0 := s.heap.push { cls := .type "dict", data := .dict #[] }) (fun p hp => Nat.lt_succ_of_lt (hcl p hp)) scope.names cl [] { s with heap := s.heap.push { cls := .type "dict", data := .dict #[] } } ⟨fun b o e => e, by rw [Heap.size_push]; exact Nat.le_refl _, fun p hp => .inl hp, fun p hp q hq hn e => absurd (hcl p hp) (Nat.not_lt_of_le (Nat.le_of_succ_le hn)), fun y hy => (nomatch hy), fun x hx => rfl⟩) fun cs s' ⟨h', e1, e2⟩ => ?_)
  subst e1
  rw [List.nil_append] at e2
  exact wpAny_bind (wpAny_pure (wpAny_pure (h cs h' e2)))

def compOkN (around scope : Scope) : Bool :=
  scope.kind == .function && around.kind == .function && scope.names.all fun y => match y.2 with
    | .local => scope.names.lookup y.1 == some .local
    | .cell => scope.names.lookup y.1 == some .cell
    | .free => (scope.names.lookup y.1 == some .free) && (around.names.lookup y.1 == some .cell || around.names.lookup y.1 == some .free)
    | _ => true
theorem compOkN_kind {a s : Scope} (h : compOkN a s = true) : s.kind = .function := by
  simp only [compOkN, Bool.and_eq_true, beq_iff_eq] at h; exact h.1.1
theorem compOkN_at {a s : Scope} (h : compOkN a s = true) {y : Str × NameKind} (hy : y ∈ s.names) : (match y.2 with
    | .local => s.names.lookup y.1 == some .local
    | .cell => s.names.lookup y.1 == some .cell
    | .free => (s.names.lookup y.1 == some .free) && (a.names.lookup y.1 == some .cell || a.names.lookup y.1 == some .free)
    | _ => true) = true := by
  simp only [compOkN, Bool.and_eq_true] at h
  exact List.all_eq_true.mp h.2 y hy
theorem compOkN_local {a s : Scope} (h : compOkN a s = true) : ∀ y ∈ s.names, y.2 = .local → s.names.lookup y.1 = some .local := fun y hy e => by
  have q := compOkN_at h hy
  rw [e] at q
  exact beq_iff_eq.mp q
theorem compOkN_cell {a s : Scope} (h : compOkN a s = true) : ∀ y ∈ s.names, y.2 = .cell → s.names.lookup y.1 = some .cell := fun y hy e => by
  have q := compOkN_at h hy
  rw [e] at q
  exact beq_iff_eq.mp q
theorem compOkN_free {a s : Scope} (h : compOkN a s = true) : ∀ y ∈ s.names, y.2 = .free → s.names.lookup y.1 = some .free ∧ (a.names.lookup y.1 = some .cell ∨ a.names.lookup y.1 = some .free) := fun y hy e => by
  have q := compOkN_at h hy
  rw [e] at q
  simp only [Bool.and_eq_true, Bool.or_eq_true, beq_iff_eq] at q
  exact q
def compCxN (X : Cx) (Nc : List Str) (scope : Scope) (cs : List (Str × Addr)) (C : Addr) (s2 : Shared) (H2 : Hp) (fp : List Addr) : Cx :=
  { compCx X Nc scope cs C s2 H2 fp with fn := fun x => scope.names.lookup x == some .cell }
theorem closure_ofN {env : Env} {scope : Scope} (h : ∀ y ∈ scope.names, y.2 = .free → ∃ c, env.cells.lookup y.1 = some c) :
    ∃ cl, closureFor scope env = pure cl ∧ (∀ p ∈ cl, env.cells.lookup p.1 = some p.2) ∧ (∀ y ∈ scope.names, y.2 = .free → ∃ c, cl.lookup y.1 = some c ∧ env.cells.lookup y.1 = some c) := by
  obtain ⟨cl, e, h1, h2, h3⟩ := closure_in (env := env) scope.names [] h
  have up : ∀ p ∈ cl, env.cells.lookup p.1 = some p.2 := fun p q => by
    rcases h1 _ q with z | z
    · cases z
    · exact z
  refine ⟨cl, ?_, up, fun y hy hf => ?_⟩
  · unfold closureFor
    simp only [bind_pure_comp] at e ⊢
    rw [e]
    exact pure_bind _ _
  · obtain ⟨c, hc⟩ := h3 y hy hf
    cases q : cl.lookup y.1 with
    | none => exact absurd (List.lookup_eq_none_iff.mp q _ hc) (by simp)
    | some c' => exact ⟨c', rfl, up _ (PySem.mem_of_lookup q)⟩
section
variable {X : Cx}

theorem comp_startN {pins : List (Addr × Obj)} {σ : St} {H2 : Hp} {s2 : Shared} {Nc : List Str} {js : List (Option Nat)} {scope : Scope} {cs : List (Str × Addr)} {fp : List Addr} {h1 : Heap} {tk : Nat} {D C : Addr} {oD : Obj} {m : Str → Option Value}
    (I : Inv X pins σ H2 s2) (hok : compOkN X.env.scope scope = true) (htk : takesC X.N Nc scope js 0 = true) (up : ∀ x c, cs.lookup x = some c → X.env.cells.lookup x = some c ∨ (C < c ∧ h1.IsCell c none)) (hinj : ∀ x y c, cs.lookup x = some c → cs.lookup y = some c → x = y) (hown : ∀ y ∈ scope.names, y.2 = .cell → ∃ c, cs.lookup y.1 = some c ∧ C < c) (hfr : ∀ y ∈ scope.names, y.2 = .free → ∃ c, cs.lookup y.1 = some c ∧ X.env.cells.lookup y.1 = some c)
    (hfp : ∀ b ∈ fp, FpOk X pins H2 b) (hfl : ∀ b ∈ fp, b < s2.heap.objs.size) (hD : D = s2.heap.objs.size) (hC : C = s2.heap.objs.size + 1) (old : ∀ b o, s2.heap.get? b = some o → h1.get? b = some o) (hns : h1.Ns C m) (hoD : h1.get? D = some oD) (hdD : ∀ v, oD.data ≠ .cell v) :
    Inv (compCxN X Nc scope cs C s2 H2 fp) [(D, oD)] (iniC js σ) H2 { s2 with heap := h1, toks := tk } := by
  have leC : s2.heap.objs.size ≤ C := by rw [hC]; exact Nat.le_succ _
  have leD : s2.heap.objs.size ≤ D := Nat.le_of_eq hD.symm
  have kf : ∀ x, ((compEnvC scope cs C X.env).kindOf x = some .cell ∨ (compEnvC scope cs C X.env).kindOf x = some .free) → ∃ c, cs.lookup x = some c := fun x hx => by
    have : ∃ k, (compEnvC scope cs C X.env).kindOf x = some k ∧ (k = .cell ∨ k = .free) := hx.elim (fun q => ⟨_, q, .inl rfl⟩) fun q => ⟨_, q, .inr rfl⟩
    obtain ⟨k, e, hk⟩ := this
    obtain ⟨k', h1, h2⟩ := lookup_relabel_inv (show (scope.names.map _).lookup x = some k from e)
    have hm := lookup_mem h1
    have : k' = .free ∨ k' = .cell := by
      rcases h2 with q | q
      · subst q
        exact hk.symm
      · exact .inl q.1
    rcases this with z | z
    · subst z
      obtain ⟨c, q, _⟩ := hfr _ hm rfl
      exact ⟨c, q⟩
    · subst z
      obtain ⟨c, q, _⟩ := hown _ hm rfl
      exact ⟨c, q⟩
  have nC : ∀ c x, X.env.cells.lookup x = some c → c < s2.heap.objs.size := fun c x e => by
    obtain ⟨v, q⟩ := I.cell x c e
    exact q.lt
  have noB : ∀ b, b ∈ fp → b ∉ frs X.stack := fun b hb q => by
    rcases List.mem_cons.mp (I.stkSub b q) with z | z
    · exact (hfp b hb).2.1 z
    · exact (hfp b hb).2.2.1 z
  have okX : (compCxN X Nc scope cs C s2 H2 fp).Ok := by
    refine ⟨I.ok.mod, (show scope.kind = .function from compOkN_kind hok), I.ok.glob, I.ok.blt, ?_, fun x y c e1 e2 => hinj x y c e1 e2, fun x hx => ?_, (fun x c e1 e2 => ?_), I.ok.hd, I.ok.frames, .inl rfl, fun b hb => ⟨?_, fun x c e => (up _ _ e).elim (fun z => (hfp b hb).2.2.2.2.1 x c z) fun z => Nat.ne_of_gt (Nat.lt_trans (Nat.lt_of_lt_of_le (hfl b hb) leC) z.1)⟩, I.bs, Nat.le_trans I.ok.bsz I.sz, fun b o e hb => ?_, fun b hb => noB b hb, I.stack, I.stkFree⟩
    · show s2.heap.objs.size ≤ C; exact leC
    · exact kf x hx
    · have hm := lookup_mem (beq_iff_eq.mp (show (scope.names.lookup x == some NameKind.cell) = true from e1))
      obtain ⟨c', q1, q2⟩ := hown _ hm rfl
      have : c = c' := Option.some.inj ((show cs.lookup x = some c from e2).symm.trans q1)
      rw [this]
      exact Nat.le_trans leC (Nat.le_of_lt q2)
    · exact Nat.ne_of_lt (Nat.lt_of_lt_of_le (hfl b hb) leC)
    · rcases (hfp b hb).2.2.2.1 with q | q
      · exact I.ok.noex b o e q
      · exact absurd (Nat.lt_of_lt_of_le (Heap.lt_size e) (Nat.le_trans I.ok.bsz q)) (Nat.lt_irrefl _)
  refine ⟨okX, rfl, I.bare, Un.kept old, ⟨m, hns, fun i x v e1 e2 e3 => ?_⟩, fun x c e => ?_, I.hok.fresh leC, fun x c e => (up _ _ e).elim (fun z => I.freeC x c z) fun z => I.hok.fresh (Nat.le_trans leC (Nat.le_of_lt z.1)), fun p hp => ?_, I.hok.kept old, ?_⟩
  · have e2' : (iniC js σ)[i]? = some (some v) := e2
    unfold iniC at e2'
    rw [List.getElem?_map] at e2'
    cases q : js[i]? with
    | none => rw [q] at e2'; cases e2'
    | some j0 =>
      cases j0 with
      | none => rw [q] at e2'; cases e2'
      | some j =>
        rw [q] at e2'
        simp only [Option.map_some, Option.some.injEq] at e2'
        have e4 : σ[j]? = some (some v) := by
          cases z : σ[j]? with
          | none => rw [z] at e2'; cases e2'
          | some o => rw [z] at e2'; simp only [Option.join_some] at e2'; rw [e2']
        obtain ⟨y, y1, y2, y3⟩ := takesC_at htk q
        rw [Nat.zero_add] at y1
        have : x = y := Option.some.inj ((show Nc[i]? = some x from e1).symm.trans y1)
        subst this
        have hm := lookup_mem y3
        obtain ⟨c, c1, c2⟩ := hfr _ hm rfl
        have hk := (compOkN_free hok _ hm rfl).2
        obtain ⟨m0, hn0, hl0⟩ := I.loc
        obtain ⟨u, r, l⟩ := hl0 j x v y2 e4 (hk.elim (fun z => .inr (.inl z)) fun z => .inr (.inr z))
        refine ⟨u, r, .inr ⟨?_, c, c1, ?_⟩⟩
        · rcases e3 with z | z | z
          · obtain ⟨k', w1, w2⟩ := lookup_relabel_inv (show (scope.names.map _).lookup x = some NameKind.local from z)
            rw [y3] at w1; cases w1
            rcases w2 with w | w
            · cases w
            · cases w.2
          · exact .inl z
          · exact .inr z
        · rcases l with ⟨lk, _⟩ | ⟨_, c', c3, c4⟩
          · rcases hk with z | z
            · rw [show X.env.kindOf x = some .cell from z] at lk; cases lk
            · rw [show X.env.kindOf x = some .free from z] at lk; cases lk
          · rw [c2] at c3; cases c3
            obtain ⟨oc, w1, w2⟩ := c4
            exact ⟨oc, old _ _ w1, w2⟩
  · rcases up _ _ e with z | z
    · obtain ⟨v, oc, w1, w2⟩ := I.cell x c z
      exact ⟨v, oc, old _ _ w1, w2⟩
    · exact ⟨_, z.2⟩
  · have : p = (D, oD) := by
      have hp' : p ∈ ([] ++ [(D, oD)] : List (Addr × Obj)) := hp
      simpa using hp'
    subst this
    refine ⟨hoD, I.hok.fresh leD, (by show D ≠ C; rw [hD, hC]; exact Nat.ne_of_lt (Nat.lt_succ_self _)), fun hb => ?_, hdD⟩
    have hb' : D ∈ frs X.stack := hb
    obtain ⟨_, o, ho, _⟩ := I.stack.mem hb'
    exact absurd (Nat.lt_of_lt_of_le (Heap.lt_size ho) leD) (Nat.lt_irrefl _)
  · have := takesC_len htk
    show (iniC js σ).length = Nc.length
    unfold iniC; rw [List.length_map]; omega


theorem comp_runN {pins : List (Addr × Obj)} {σ : St} {H : Hp} {s : Shared} {tg elt iter : Expr} {ifs : List Expr} {scope : Scope} {pos : Pos} {wi : TI} {g : TG} {tt : TT} {te : TE} {Nc : List Str} {js : List (Option Nat)} {use : Option (Value → Sem Unit)} {Q : VK} {QQ : Value → Shared → Prop}
    (hc : X.calm = true) (hok : compOkN X.env.scope scope = true) (htk : takesC X.N Nc scope js 0 = true) (hi : PI X tg iter wi)
    (hg : ∀ cl C s2 H2 fp, PG (compCxN X Nc scope cl C s2 H2 fp) tg g) (ht : ∀ cl C s2 H2 fp, PIfs (compCxN X Nc scope cl C s2 H2 fp) ifs tt) (he : ∀ cl C s2 H2 fp, PE (compCxN X Nc scope cl C s2 H2 fp) elt te)
    (hs : ∀ x, foldedSetIterable iter X.env x = pure x) {L : List Nat} (ho : OnlyG g L) (hL : (L.all fun k => js[k]? == some none) = true) (I : Inv X pins σ H s) (h : tComp wi g tt te js σ H Q)
    (fin : ∀ (D C : Addr) (H' H2 : Hp) (s2 s' : Shared) (xs : List V) (m : Str → Option Value), Inv X pins σ H2 s2 → H' C = none → C = D + 1 → D = s2.heap.objs.size → s'.heap.Ns C m → (∀ h', Heap.SameBut C s'.heap h' → Inv X pins σ (upd H' D (.lst xs)) { s' with heap := h' }) → Q (.ref D) (upd H' D (.lst xs)) →
      compPost (model X.prog X.w) X.A X.xe use QQ (.ref D) C (.ok .next) s') :
    wpAny (model X.prog X.w) X.A (comprehension (.ListComp elt [⟨tg, iter, ifs, 0⟩] scope pos) scope X.env (firstIterPos [⟨tg, iter, ifs, 0⟩] pos) (newList []) false (eval iter X.env) use) QQ X.xe s := by
  have hcells : ∀ y ∈ scope.names, y.2 = .free → ∃ c, X.env.cells.lookup y.1 = some c := fun y hy hf => I.ok.has y.1 (compOkN_free hok y hy hf).2
  obtain ⟨cl, hcl, upM, hfr0⟩ := closure_ofN hcells
  have hk := compOkN_kind hok
  refine wpAny_comprehension_free (use := use) rfl hs hcl hk (compOkN_local hok) (thn (hi pins s σ H _ I h) fun v s1 h1 => thn h1 fun itv s2 h2 => ?_)
  obtain ⟨it, fp, tn, J, H2, e, I2, T, st2, f2, W, ⟨m0, w0⟩, turn⟩ := h2
  subst e
  have clt : ∀ p ∈ cl, p.2 < s2.heap.objs.size := fun p hp => by
    obtain ⟨v, q⟩ := I2.cell p.1 p.2 (upM p hp)
    exact q.lt
  refine wpAny_newObj_type (newEnv_own (fun p hp => ?_) fun cs h₁ CO => ?_)
  · show p.2 < (s2.heap.push _).objs.size
    rw [Heap.size_push]; exact Nat.lt_succ_of_lt (clt p hp)
  dsimp only at CO ⊢
  generalize hH2 : s2.heap.push { cls := .type "list", dict := none, data := .seq ([] : List Value).toArray } = HH at CO ⊢
  have hC : HH.objs.size = s2.heap.objs.size + 1 := by rw [← hH2, Heap.size_push]
  have hcl' : ∀ p ∈ cl, p.2 < HH.objs.size := fun p hp => by rw [hC]; exact Nat.lt_succ_of_lt (clt p hp)
  have hns₁ : h₁.Ns HH.objs.size (fun _ => none) := ⟨_, #[], _, CO.old _ _ (Heap.get?_push_size _ rfl), rfl, fun e he => absurd he (by simp), fun n => rfl⟩
  have up : ∀ x c, cs.lookup x = some c → X.env.cells.lookup x = some c ∨ (HH.objs.size < c ∧ h₁.IsCell c none) := fun x c e => by
    rcases CO.mem _ (PySem.mem_of_lookup e) with z | z
    · exact .inl (upM _ z)
    · exact .inr ⟨z.1, z.2.2⟩
  have hinj : ∀ x y c, cs.lookup x = some c → cs.lookup y = some c → x = y := fun x y c e1 e2 => by
    have m1 := PySem.mem_of_lookup e1
    have m2 := PySem.mem_of_lookup e2
    rcases CO.mem _ m1 with z | z
    · rcases CO.mem _ m2 with z' | z'
      · exact I2.ok.inj x y c (upM _ z) (upM _ z')
      · exact absurd (hcl' _ z) (Nat.not_lt_of_le (Nat.le_of_succ_le z'.1))
    · exact CO.inj _ m1 _ m2 z.1 rfl
  have hfr : ∀ y ∈ scope.names, y.2 = .free → ∃ c, cs.lookup y.1 = some c ∧ X.env.cells.lookup y.1 = some c := fun y hy hf => by
    obtain ⟨c, q1, q2⟩ := hfr0 y hy hf
    refine ⟨c, ?_, q2⟩
    rw [CO.oth y.1 fun y' hy' hc' z => ?_]
    · exact q1
    · have w1 := compOkN_cell hok y' hy' hc'
      have w2 := (compOkN_free hok y hy hf).1
      rw [z, w2] at w1; cases w1
  have hfl : ∀ b ∈ fp, b < s2.heap.objs.size := fun b hb => by
    obtain ⟨o, ho, _⟩ := T.obj 0 _ st2 b hb
    exact Heap.lt_size ho
  have hDC : s2.heap.objs.size ≠ HH.objs.size := by rw [hC]; exact Nat.ne_of_lt (Nat.lt_succ_self _)
  have old : ∀ b o, s2.heap.get? b = some o → h₁.get? b = some o := fun b o e => CO.old b o (Heap.get?_push_of_some _ (hH2 ▸ Heap.get?_push_of_some _ e))
  have hacc : h₁.get? s2.heap.objs.size = some { cls := .type "list", dict := none, data := .seq ([] : List Value).toArray } := CO.old _ _ (Heap.get?_push_of_some _ (hH2 ▸ Heap.get?_push_size _ rfl))
  have I4 := comp_startN (Nc := Nc) (js := js) (tk := s2.toks) I2 hok htk up hinj (fun y hy hc => CO.own y hy hc) hfr f2 hfl rfl hC old hns₁ hacc (by intro v z; cases z)
  have st4 : tn 0 h₁ := T.keep _ _ _ st2 fun b _ o e => old b o e
  generalize hXc : compCxN X Nc scope cs HH.objs.size s2 H2 fp = Xc at I4
  have hXA : Xc.A = X.A := by rw [← hXc]; rfl
  have hXe : Xc.env = compEnvC scope cs HH.objs.size X.env := by rw [← hXc]; rfl
  have hXp : Xc.prog = X.prog := by rw [← hXc]; rfl
  have hXw : Xc.w = X.w := by rw [← hXc]; rfl
  have hXx : Xc.xe = fun _ _ => False := by rw [← hXc]; rfl
  have hXk : Xc.K = X.K := by rw [← hXc]; rfl
  have hXcalm : Xc.calm = true := by rw [← hXc]; exact hc
  have fpok : ∀ {pl : List (Addr × Obj)} {H' : Hp}, (∀ p ∈ pl, s2.heap.objs.size ≤ p.1) → (∀ b ∈ fp, H' b = none) → ∀ b ∈ fp, FpOk Xc pl H' b := fun {pl H'} hpl hn b hb => by
    have k1 : b ≠ HH.objs.size := Nat.ne_of_lt (by rw [hC]; exact Nat.lt_succ_of_lt (hfl b hb))
    have k2 : b ∉ frs X.stack := fun q => by
      rcases List.mem_cons.mp (I2.stkSub b q) with z | z
      · exact (f2 b hb).2.1 z
      · exact (f2 b hb).2.2.1 z
    rw [← hXc]
    refine ⟨hn b hb, k1, k2, .inl hb, fun x c e => (up _ _ e).elim (fun z => (f2 b hb).2.2.2.2.1 x c z) fun z => Nat.ne_of_gt (Nat.lt_trans (by rw [hC]; exact Nat.lt_succ_of_lt (hfl b hb)) z.1), fun p hp => ?_⟩
    have hp' : p ∈ pl := by simpa [compCxN, compCx] using hp
    exact Nat.ne_of_gt (Nat.lt_of_lt_of_le (hfl b hb) (hpl p hp'))
  have gX : PG Xc tg g := hXc ▸ hg cs HH.objs.size s2 H2 fp
  have tX : PIfs Xc ifs tt := hXc ▸ ht cs HH.objs.size s2 H2 fp
  have eX : PE Xc elt te := hXc ▸ he cs HH.objs.size s2 H2 fp
  have hs0 : Xc.s₀ = s2 := by rw [← hXc]; rfl
  have hh0 : Xc.H₀ = H2 := by rw [← hXc]; rfl
  have hfs : Xc.fs = frs X.stack := by rw [← hXc]; rfl
  have hex : Xc.ex = fp := by rw [← hXc]; rfl
  have loop : codeAny (model X.prog X.w) X.A (.compLoop (.ListComp elt [⟨tg, iter, ifs, 0⟩] scope pos) 0 (.ref it) (.ref s2.heap.objs.size) (compEnvC scope cs HH.objs.size X.env)) (compPost (model X.prog X.w) X.A X.xe use QQ (.ref s2.heap.objs.size) HH.objs.size)
      { s2 with heap := h₁, toks := s2.toks } := by
    refine codeAny_compLoop_all (fun n s' => ∃ i acc its nn H', Inv Xc [(s2.heap.objs.size, { cls := .type "list", dict := none, data := .seq (its : List Value).toArray nn })] (iniC js σ) H' s' ∧ Vals acc its ∧ acc.length ≤ sizeLine ∧ tn i s'.heap ∧ (∀ b ∈ fp, H' b = none) ∧ W i n acc H') ?_ m0
      ⟨0, [], [], 0, H2, I4, .nil, Nat.zero_le _, st4, fun b hb => (f2 b hb).1, w0⟩
    rintro n s3 ⟨i, acc, its, nn, H3, I3, va, hlen, st3, fr3, w3⟩
    have pg : ∀ p ∈ ([(s2.heap.objs.size, { cls := .type "list", dict := none, data := .seq its.toArray nn })] : List (Addr × Obj)), s2.heap.objs.size ≤ p.1 := fun p hp => by
      simp only [List.mem_cons, List.not_mem_nil, or_false] at hp
      subst hp; exact Nat.le_refl _
    rcases turn i n acc H3 w3 with ⟨stop, hl, qn⟩ | ⟨go, hl, step⟩
    · have q := T.done Xc hXp hXw hXk hXcalm i _ s3 (iniC js σ) H3 (fun _ _ => False) I3 (fpok pg fr3) st3 stop
      rw [hXA] at q
      refine thn q fun r s4 ⟨hr, I5⟩ => ?_
      subst hr
      have hpin := I5.pin _ (List.mem_append_right _ (.head _))
      obtain ⟨m5, hn5, _⟩ := I5.loc
      rw [hXe] at hn5
      refine fin _ _ H3 H2 s2 s4 acc m5 I2 (by have := I5.free; rw [hXe] at this; exact this) hC rfl hn5 (fun h' hsb => ?_) (qn _ hpin.2.1)
      have same : ∀ b o, b ≠ HH.objs.size → s4.heap.get? b = some o → h'.get? b = some o := fun b o hb e => hsb.extBut b o hb e
      have un := I5.base
      rw [hfs, hex, hh0, hs0] at un
      have lt : ∀ b o, s2.heap.get? b = some o → b < s2.heap.objs.size := fun b o e => Heap.lt_size e
      have neC : ∀ b o, s2.heap.get? b = some o → b ≠ HH.objs.size := fun b o e => Nat.ne_of_lt (by rw [hC]; exact Nat.lt_succ_of_lt (lt b o e))
      have neD : ∀ b o, s2.heap.get? b = some o → b ≠ s2.heap.objs.size := fun b o e => Nat.ne_of_lt (lt b o e)
      have trkC : ∀ b o, H3 b = some o → b ≠ HH.objs.size := fun b o e z => by
        have := I5.free; rw [hXe] at this; rw [z, show H3 HH.objs.size = none from this] at e; cases e
      refine I2.call' (s' := { s4 with heap := h' }) (ch := fp) (I5.os.trans (by rw [hs0])) ⟨fun b o e n hb hx => same _ _ (neC b o e) (un.keep b o e n hb hx), fun b o e n hb hx => ?_, fun b o e n hx => by rw [upd_ne (neD b o e)]; exact un.free b o e n hx, fun b o e hx => ?_, fun b xs e => ?_, fun b o u e => ?_, fun b ps e => ?_⟩ (fun a o e => ?_) I5.bare fun b hb => ⟨(f2 b hb).2.2.2.1, (f2 b hb).2.1, (f2 b hb).2.2.2.2.1, (f2 b hb).2.2.2.2.2⟩
      · obtain ⟨sl, z⟩ := un.slot b o e n hb hx
        exact ⟨sl, same _ _ (neC b o e) z⟩
      · obtain ⟨o', z⟩ := un.there b o e hx
        exact ⟨o', same _ _ (neC b o e) z⟩
      · rw [upd_ne (Nat.ne_of_lt (I2.hok.lt e))]; exact un.tups b xs e
      · rw [upd_ne (Nat.ne_of_lt (I2.hok.lt e))]; exact un.frzs b o u e
      · obtain ⟨more, z⟩ := un.tbls b ps e
        exact ⟨more, by rw [upd_ne (Nat.ne_of_lt (I2.hok.lt e))]; exact z⟩
      · by_cases ha : a = s2.heap.objs.size
        · subst ha
          rw [upd_same] at e; cases e
          exact ⟨hl, its, nn, va, same _ _ hDC hpin.1⟩
        · rw [upd_ne ha] at e
          have q := I5.hok a o e
          rw [hXp, hXw] at q
          refine q.stay (fun b u hb z => same b u ?_ z) (fun b z => by rw [upd_ne]; exact z; intro y; subst y; rw [hpin.2.1] at z; cases z) fun b xs z => by rw [upd_ne]; exact z; intro y; subst y; rw [hpin.2.1] at z; cases z
          rcases hb with hb | hb
          · subst hb; exact trkC _ _ e
          · exact trkC _ _ hb
    · have q := T.item Xc hXp hXw hXk hXcalm i _ s3 (iniC js σ) H3 (fun _ _ => False) I3 (fpok pg fr3) st3 go
      rw [hXA] at q
      refine thn q fun r s4 ⟨u, hr, h4⟩ => ?_
      subst hr
      refine thn h4 fun _ s5 ⟨x, H5, I5, r5, y5, st5, fr5⟩ => ?_
      have I5' := I5.pinned (fpok pg fr5) (T.obj _ _ st5)
      have again : ∀ {σ7 : St} {H7 : Hp} {s7 : Shared} {acc7 : List V} {its7 : List Value} {n7 : Nat} {m : Nat}, Inv Xc ([(s2.heap.objs.size, { cls := .type "list", dict := none, data := .seq its7.toArray n7 })] ++ pinsAt fp s5.heap) σ7 H7 s7 → Vals acc7 its7 → acc7.length ≤ sizeLine → W (i + 1) m acc7 H7 → σ7.length = (iniC js σ).length → (∀ (k : Nat) v, (iniC js σ)[k]? = some (some v) → σ7[k]? = some (some v)) →
          ∃ i acc its nn H', Inv Xc [(s2.heap.objs.size, { cls := .type "list", dict := none, data := .seq (its : List Value).toArray nn })] (iniC js σ) H' s7 ∧ Vals acc its ∧ acc.length ≤ sizeLine ∧ tn i s7.heap ∧ (∀ b ∈ fp, H' b = none) ∧ W i m acc H' := fun {σ7 H7 s7 acc7 its7 n7 m} I7 v7 l7 w7 hl7 hw7 => by
        refine ⟨i + 1, acc7, its7, n7, H7, (I7.weak hl7.symm hw7).unpinned, v7, l7, T.keep _ _ _ st5 fun b hb o e => (I7.pin (b, o) (List.mem_append_right _ (List.mem_append_right _ (mem_pinsAt hb e)))).1, fun b hb => ?_, w7⟩
        obtain ⟨o, e, d⟩ := T.obj _ _ st5 b hb
        exact (I7.pin (b, o) (List.mem_append_right _ (List.mem_append_right _ (mem_pinsAt hb e)))).2.1
      have keep : ∀ {σ6 : St}, KeepOn L (iniC js σ) σ6 → σ6.length = (iniC js σ).length ∧ ∀ (k : Nat) v, (iniC js σ)[k]? = some (some v) → σ6[k]? = some (some v) := fun {σ6} hk => ⟨hk.1, fun k v e => by
        rw [hk.2 k]
        · exact e
        · intro z
          have q := List.all_eq_true.mp hL k z
          simp only [beq_iff_eq] at q
          unfold iniC at e
          rw [List.getElem?_map, q] at e
          cases e⟩
      have q6 := gX _ s5 (iniC js σ) H5 x u _ I5' r5 (ho _ _ _ _ _ (fun σ' H' kk z => And.intro kk z) (step x H5 y5))
      rw [hXe, hXA, hXp, hXw, hXx] at q6
      refine thn q6 fun _ s6 ⟨σ6, H6, I6, k6, q6⟩ => ?_
      obtain ⟨kl, kv⟩ := keep k6
      have q7 := tX _ s6 σ6 H6 _ I6 q6
      rw [hXe, hXA, hXp, hXw, hXx] at q7
      refine thn q7 fun b s7 ⟨H7, I7, q7⟩ => ?_
      cases b with
      | false =>
        obtain ⟨m', hm, w7⟩ := q7
        exact ⟨m', hm, again I7 va hlen w7 kl kv⟩
      | true =>
        have q8 := eX _ s7 σ6 H7 _ I7 q7
        rw [hXe, hXA, hXp, hXw, hXx] at q8
        refine thn q8 fun y s8 ⟨v8, H8, I8, r8, m', hm, w8⟩ => ?_
        have pinD := I8.pin _ (List.mem_append_right _ (List.mem_append_left _ (.head _)))
        have hnf : ∀ p ∈ pinsAt fp s5.heap, p.1 ≠ s2.heap.objs.size := fun p hp => by
          obtain ⟨z, _⟩ := of_pinsAt hp
          exact Nat.ne_of_lt (hfl _ z)
        have va' := va.length
        refine call_meets F.slot_list_append ⟨_, pinD.1, rfl⟩ F.entry_list_append (F.args_list_append_2 _ _) (PySem.list_append s2.heap.objs.size its.toArray nn y (by rw [List.size_toArray]; omega)) ⟨pinD.1, ?_⟩
        have e9 := PySem.IsL.update pinD.1 (fun a => a.push y)
        have e9' : its.toArray.push y = (its ++ [y]).toArray := by simp
        dsimp only at e9
        rw [e9'] at e9
        have I8' : Inv Xc (pinsAt fp s5.heap) σ6 H8 s8 := I8.pins_of fun p hp => I8.pin p (List.mem_append_right _ (List.mem_append_right _ hp))
        have hXpn : Xc.pn = [] := by rw [← hXc]; rfl
        have hXs : s2.heap.objs.size ∉ frs X.stack := by rw [← hfs]; exact pinD.2.2.2.1
        have I9 := I8'.turned (t' := s8.toks) (it := s2.heap.objs.size) (h' := s8.heap.update s2.heap.objs.size (Obj.mapSeq fun a => a.push y)) (fun b o hb e => (Heap.get?_update_other s8.heap _ (Ne.symm hb)).trans e) pinD.2.1 pinD.2.2.1
          (.inr (by rw [hs0]; exact Nat.le_refl _)) (fun x c e => by
            rw [hXe] at e
            intro z
            rcases up _ _ e with y | y
            · obtain ⟨v, q⟩ := I2.cell x c y
              exact absurd q.lt (by rw [z]; exact Nat.lt_irrefl _)
            · have := y.1
              rw [z, hC] at this
              exact absurd this (Nat.not_lt_of_le (Nat.le_succ _))) (fun p hp => by rw [hXpn, List.nil_append] at hp; exact hnf p hp)
        have I10 := I9.pins_of (pins' := [(s2.heap.objs.size, { cls := .type "list", dict := none, data := .seq (its ++ [y]).toArray _ })] ++ pinsAt fp s5.heap) fun p hp => by
          rcases List.mem_append.mp hp with z | z
          · simp only [List.mem_cons, List.not_mem_nil, or_false] at z
            subst z
            exact ⟨e9, pinD.2.1, pinD.2.2.1, pinD.2.2.2.1, by intro v z; cases z⟩
          · exact I9.pin p (List.mem_append_right _ z)
        exact ⟨m', hm, again I10 (va.append (.cons r8 .nil)) (by rw [List.length_append, List.length_singleton]; omega) w8 kl kv⟩
  exact codeAny_compStart_list loop (T.self _ 0 _ _ _ st4 loop)

theorem pe_compN {tg elt iter : Expr} {ifs : List Expr} {scope : Scope} {pos : Pos} {wi : TI} {g : TG} {tt : TT} {te : TE} (Nc : List Str) (js : List (Option Nat)) {L : List Nat}
    (hc : X.calm = true) (hok : compOkN X.env.scope scope = true) (htk : takesC X.N Nc scope js 0 = true) (hi : PI X tg iter wi)
    (hg : ∀ cl C s2 H2 fp, PG (compCxN X Nc scope cl C s2 H2 fp) tg g) (ht : ∀ cl C s2 H2 fp, PIfs (compCxN X Nc scope cl C s2 H2 fp) ifs tt) (he : ∀ cl C s2 H2 fp, PE (compCxN X Nc scope cl C s2 H2 fp) elt te)
    (ho : OnlyG g L) (hL : (L.all fun k => js[k]? == some none) = true := by rfl) (hs : ∀ x, foldedSetIterable iter X.env x = pure x := by intro _; rfl) : PE X (.ListComp elt [⟨tg, iter, ifs, 0⟩] scope pos) (tComp wi g tt te js) := by
  intro pins s σ H Q I h
  rw [eval_ListComp]
  exact comp_runN (use := none) hc hok htk hi hg ht he hs ho hL I h fun D C H' H2 s2 s' xs m I2 hHC e1 e2 hn hI q => ⟨m, hn, fun h' hsb => ⟨.ref D, _, hI h' hsb, rfl, q⟩⟩


theorem ps_setCN {i : Nat} {x : Str} {pos' spos : Pos} {tg elt iter : Expr} {ifs : List Expr} {scope : Scope} {pos : Pos} {wi : TI} {g : TG} {tt : TT} {te : TE} (Nc : List Str) (js : List (Option Nat)) {L : List Nat}
    (hN : X.N.Nodup) (hxi : X.N[i]? = some x) (hx : Loc X.env.scope x)
    (hc : X.calm = true) (hok : compOkN X.env.scope scope = true) (htk : takesC X.N Nc scope js 0 = true) (hi : PI X tg iter wi)
    (hg : ∀ cl C s2 H2 fp, PG (compCxN X Nc scope cl C s2 H2 fp) tg g) (ht : ∀ cl C s2 H2 fp, PIfs (compCxN X Nc scope cl C s2 H2 fp) ifs tt) (he : ∀ cl C s2 H2 fp, PE (compCxN X Nc scope cl C s2 H2 fp) elt te)
    (ho : OnlyG g L) (hL : (L.all fun k => js[k]? == some none) = true := by rfl) (hs : ∀ x, foldedSetIterable iter X.env x = pure x := by intro _; rfl)
    (hsw : swapsWith (.ListComp elt [⟨tg, iter, ifs, 0⟩] scope pos) (some (.Name x pos')) spos.line X.env = pure true := by rfl)
    (hf : X.fn x = true ∨ X.env.scope.names.lookup x = some .local := by first | exact .inl rfl | exact .inr rfl | assumption) :
    PS X (.Assign [.Name x pos'] (.ListComp elt [⟨tg, iter, ifs, 0⟩] scope pos) spos) (tAsg (tComp wi g tt te js) (gName i)) := by
  intro pins s σ H D I h
  rw [exec_Assign_Name_used _ _ _ _ hsw]
  refine wpAny_bind (wpAny_standAt (wpAny_bind ?_))
  show wpAny _ _ (comprehension _ _ _ _ _ _ _ _ >>= _) _ _ _
  refine wpAny_bind (thn (Q := fun _ s' => ∃ σ' H', Inv X pins σ' H' s' ∧ D.nx σ' H') (comp_runN (Q := fun v H1 => gName i v σ H1 D.nx) (use := some (assign (.Name x pos') X.env)) hc hok htk hi hg ht he hs ho hL I h ?_) fun _ s' ⟨σ', H', I', q⟩ => wpAny_pure (wpAny_pure ⟨σ', H', I', q⟩))
  intro D' C H' H2 s2 s' xs m I2 hHC e1 e2 hn hI q
  obtain ⟨oC, es, ep, hoC, hdC, hrest⟩ := id hn
  have leC : s2.heap.objs.size ≤ C := by rw [e1, e2]; exact Nat.le_succ _
  have ltC : s2.heap.objs.size < C := by rw [e1, e2]; exact Nat.lt_succ_self _
  have neDC : C ≠ D' := by rw [e2]; exact Nat.ne_of_gt ltC
  have fresh : s2.heap.get? C = none := by
    cases e : s2.heap.get? C with
    | none => rfl
    | some o => exact absurd (Nat.lt_of_lt_of_le (Heap.lt_size e) leC) (Nat.lt_irrefl _)
  have neL : C ≠ X.env.locals := Nat.ne_of_gt (Nat.lt_of_lt_of_le I2.lt leC)
  have nfs : C ∉ X.fs := I2.nofs leC
  have ncl : ∀ x c, X.env.cells.lookup x = some c → c ≠ C := fun x c e z => by
    obtain ⟨v, q⟩ := I2.cell x c e
    exact absurd (Nat.lt_of_lt_of_le q.lt leC) (by rw [z]; exact Nat.lt_irrefl _)
  have npn : ∀ p ∈ X.pn ++ pins, p.1 ≠ C := fun p hp z => by
    have := (I2.pin p hp).1
    rw [z, fresh] at this; cases this
  have hH : (upd H' D' (HO.lst xs)) C = none := by rw [upd_ne neDC]; exact hHC
  have I0 := hI s'.heap sameBut_refl
  have I1 : Inv X (pins ++ [(C, oC)]) σ (upd H' D' (.lst xs)) s' := I0.pins_of fun p hp => by
    rcases List.mem_append.mp hp with z | z
    · exact I0.pin p (List.mem_append_right _ z)
    · simp only [List.mem_cons, List.not_mem_nil, or_false] at z
      subst z
      exact ⟨hoC, hH, neL, nfs, fun v z => by rw [hdC] at z; cases z⟩
  show wpAny _ _ _ _ _ _
  refine thn (pg_name (X := X) (i := i) hN hxi hx hf (pins ++ [(C, oC)]) s' σ _ (.ref D') (.ref D') _ I1 rfl q) fun _ s3 ⟨σ3, H3, I3, q3⟩ => ?_
  have pC := I3.pin (C, oC) (List.mem_append_right _ (List.mem_append_right _ (.head _)))
  refine ⟨m, ⟨oC, es, ep, pC.1, hdC, hrest⟩, fun h' hsb => ⟨σ3, H3, ?_, q3⟩⟩
  exact I3.unpinned.turned (t' := s3.toks) (it := C) (fun b o hb e => hsb.extBut b o hb e) pC.2.1 neL (.inr (Nat.le_trans I2.sz leC)) ncl npn
end
end L2


set_option Elab.async false
set_option linter.all false
set_option maxRecDepth 100000
set_option maxHeartbeats 1000000
namespace L2
open PySem PySem.Spec PyProof.Rows PySem.W

def CF (n : Nat) (P : Nat → Bool) (vals : Nat → V) (H1 : Hp) (i m : Nat) (acc : List V) (H : Hp) : Prop := m = n - i ∧ i ≤ n ∧ acc = ((List.range i).filter P).map vals ∧ Same H1 H
theorem CF.take {n : Nat} {P : Nat → Bool} {vals : Nat → V} {H1 H : Hp} {i : Nat} {v : V} (hi : i < n) (hP : P i = true) (hv : v = vals i) (s : Same H1 H) : ∃ m', m' < n - i ∧ CF n P vals H1 (i + 1) m' (((List.range i).filter P).map vals ++ [v]) H :=
  ⟨n - (i + 1), by omega, rfl, hi, by rw [List.range_succ, List.filter_append, List.map_append, hv]; simp [hP], s⟩
theorem CF.skip {n : Nat} {P : Nat → Bool} {vals : Nat → V} {H1 H : Hp} {i : Nat} (hi : i < n) (hP : P i = false) (s : Same H1 H) : ∃ m', m' < n - i ∧ CF n P vals H1 (i + 1) m' (((List.range i).filter P).map vals) H :=
  ⟨n - (i + 1), by omega, rfl, hi, by rw [List.range_succ, List.filter_append, List.map_append]; simp [hP], s⟩
def CRv (rs : Nat → List Int) (H1 : Hp) (i : Nat) (acc : List V) (H : Hp) : Prop := Same H1 H ∧ ∃ as : List Addr, acc = as.map V.ref ∧ as.length = i ∧ ∀ (k : Nat) (a : Addr), as[k]? = some a → H a = some (.lst ((rs k).map V.int))
theorem CRv.take {rs : Nat → List Int} {H1 H H' : Hp} {i : Nat} {acc : List V} {a : Addr} (h : CRv rs H1 i acc H) (s : Same H H') (ha : H' a = some (.lst ((rs i).map V.int))) : CRv rs H1 (i + 1) (acc ++ [.ref a]) H' := by
  obtain ⟨s1, as, rfl, hl, h1⟩ := h
  refine ⟨s1.trans s, as ++ [a], by simp, by simp [hl], fun k b hk => ?_⟩
  by_cases z : k < as.length
  · rw [List.getElem?_append_left z] at hk
    exact s _ _ (h1 k b hk)
  · have hk2 := (List.getElem?_eq_some_iff.mp hk).1
    rw [List.length_append] at hk2
    have : k = as.length := by simp at hk2; omega
    subst this
    rw [List.getElem?_append_right (Nat.le_refl _)] at hk
    simp at hk
    rw [← hk, hl]; exact ha
theorem CRv.rows {rs : Nat → List Int} {H1 H : Hp} {n : Nat} {acc : List V} {l : Addr} (h : CRv rs H1 n acc H) (hl : H l = none) : Rows (upd H l (.lst acc)) l ((List.range n).map rs) := by
  obtain ⟨s1, as, rfl, hn, h1⟩ := h
  have hne : ∀ a ∈ as, a ≠ l := fun a ha => by
    obtain ⟨k, hk⟩ := List.getElem?_of_mem ha
    exact ne_of_none (h1 k a hk) hl
  refine ⟨as, upd_same, fun z => hne l z rfl, by simp [hn], fun i k1 k2 => ?_⟩
  rw [upd_ne (hne _ (List.getElem_mem k1)), h1 i as[i] (List.getElem?_eq_getElem k1)]
  simp

theorem IsLow.top {f : Nat → Int} {a b lo o : Nat} (h : IsLow f a b lo) (h1 : a ≤ o) (h2 : o ≤ b) : ¬ Over f o lo := by
  obtain ⟨l1, l2, l3, l4⟩ := h
  rintro (⟨z, k⟩ | ⟨z, k⟩)
  · have := k lo z (Nat.le_refl _); have := l3 o h1 z; omega
  · have := k lo (Nat.le_refl _) z; have := l4 o z h2; omega
end L2


set_option Elab.async false
set_option linter.all false
set_option maxRecDepth 100000
set_option maxHeartbeats 1000000
namespace HT
open PySem PyProof.Rows
section
open PySem.SeqAt
open PySem.AutoSeq1 (wpAny_loadPart')
open PySem.MeetsSeq PySem.MeetsSeq2 PySem.MeetsSeq3
variable {prog : Program} {w : World} {A : Around} {E : Value → Shared → Prop} {s : Shared}
end
end HT
namespace L2
open PySem PySem.Spec PyProof.Rows PySem.W
section
variable {X : Cx}

def rSlQ (K : Frag) : V → Option Int → Option Int → Hp → VK → Prop := fun x lo hi H Q => ∃ a xs, x = .ref a ∧ ((SqL K H a xs ∧ ∀ p, H p = none → Q (.ref p) (upd H p (.lst (cutV xs lo hi)))) ∨
  (SqT K H a xs ∧ (HT.sIx xs.length 0 lo = 0 ∧ HT.sIx xs.length xs.length hi = xs.length → Q (.ref a) H) ∧ (¬ (HT.sIx xs.length 0 lo = 0 ∧ HT.sIx xs.length xs.length hi = xs.length) → ∀ p, H p = none → Q (.ref p) (upd H p (.tup (cutV xs lo hi))))))
end
section
variable {X : Cx} {tg l : Expr} {tl : TE}
end
end L2


set_option Elab.async false
set_option linter.all false
set_option maxRecDepth 100000
set_option maxHeartbeats 1000000
namespace L2
open PySem PySem.Spec PyProof.Rows PySem.W

def way (T : List Int) (p : Nat) : List Nat := wayF T T.length (nth T p)
end L2


set_option Elab.async false
set_option linter.all false
set_option maxRecDepth 100000
set_option maxHeartbeats 1000000
namespace L2
open PySem PySem.Spec PyProof.Rows PySem.W


section
variable {X : Cx} {pins : List (Addr × Obj)} {σ : St} {H : Hp} {s : Shared} {h' : Heap}

def Ite (K : Frag) (a : Addr) : It :=
  ⟨fun i H => ∃ xs x, SqL K H a xs ∧ xs[i]? = some x,
   fun i H v H' => ∃ p x, H p = none ∧ v = .ref p ∧ H' = upd H p (.tup [.int (i : Int), x]) ∧ ∀ xs, SqL K H a xs → xs[i]? = some x,
   fun i H => ∃ xs, SqL K H a xs ∧ xs.length = i⟩
def iEnum (K : Frag) (ta : TA) : TI := fun σ H R => ta σ H fun vs H1 => ∃ a xs, vs = [.ref a] ∧ SqL K H1 a xs ∧ R (Ite K a) H1
end
end L2


set_option Elab.async false
set_option linter.all false
set_option maxRecDepth 100000
set_option maxHeartbeats 1000000
namespace L2
open PySem PySem.Spec PyProof.Rows PySem.W

section
variable {X : Cx}

def tMaxD (K : Frag) (ta td : TA) : TE := fun σ H Q => ta σ H fun vs H1 => td σ H1 fun zs H2 => ∃ (p : Addr) (ns : List Int) (d : Int), vs = [.ref p] ∧ zs = [.int d] ∧ SqL K H2 p (ns.map V.int) ∧ (ns = [] → Q (.int d) H2) ∧ (ns ≠ [] → ∀ m, m ∈ ns → (∀ a ∈ ns, a ≤ m) → Q (.int m) H2)
end
section
variable {X : Cx}

def tMinD (K : Frag) (ta td : TA) : TE := fun σ H Q => ta σ H fun vs H1 => td σ H1 fun zs H2 => ∃ (p : Addr) (ns : List Int) (d : Int), vs = [.ref p] ∧ zs = [.int d] ∧ SqL K H2 p (ns.map V.int) ∧ (ns = [] → Q (.int d) H2) ∧ (ns ≠ [] → ∀ m, m ∈ ns → (∀ a ∈ ns, m ≤ a) → Q (.int m) H2)
end
end L2


set_option Elab.async false
set_option linter.all false
set_option maxRecDepth 100000
set_option maxHeartbeats 1000000
namespace L2
open PySem PySem.Spec PyProof.Rows PySem.W
section
variable {X : Cx}

def rIndexF (K : Frag) : V → List V → Hp → VK → Prop := fun x vs H Q => ∃ (l : Addr) (xs : List V) (y : V) (j : Nat), x = .ref l ∧ vs = [y] ∧ SqL K H l xs ∧ xs.length ≤ 100000 ∧ xs.all flatV = true ∧ flatV y = true ∧ (∃ z, xs[j]? = some z ∧ eqV z y = true) ∧ (∀ (i : Nat) (z : V), i < j → xs[i]? = some z → eqV z y = false) ∧ Q (.int (j : Nat)) H
end
end L2


set_option Elab.async false
set_option linter.all false
set_option maxRecDepth 100000
set_option maxHeartbeats 1000000
namespace L2
open PySem PySem.Spec PyProof.Rows PySem.W

def LowsEq (f g : Nat → Int) (n : Nat) : Prop := ∀ a c, a + c < n → lowF f a c = lowF g a c
theorem LowsEq.symm {f g : Nat → Int} {n : Nat} (h : LowsEq f g n) : LowsEq g f n := fun a c k => (h a c k).symm
theorem LowsEq.mono {f g : Nat → Int} {n m : Nat} (h : LowsEq f g n) (k : m ≤ n) : LowsEq f g m := fun a c z => h a c (by omega)

def PartAt (f g : Nat → Int) (x y size a m : Nat) : Prop := a + m < size ∧ (lowF f (x + a) m : Int) - (x + a : Nat) ≠ (lowF g (y + a) m : Int) - (y + a : Nat) ∧ (∀ m', m' < m → ∀ a', a' + m' < size → (lowF f (x + a') m' : Int) - (x + a' : Nat) = (lowF g (y + a') m' : Int) - (y + a' : Nat)) ∧
  ∀ a', a' < a → (lowF f (x + a') m : Int) - (x + a' : Nat) = (lowF g (y + a') m : Int) - (y + a' : Nat)
theorem ifR {c : TT} {t u : TS} {D : Ends} {σ : St} {H : Hp} (T U : Hp → Prop) (ht : ∀ H1, T H1 → t D σ H1) (hu : ∀ H1, U H1 → u D σ H1) (hc : ∀ B : Bool → Hp → Prop, (∀ H1, T H1 → B true H1) → (∀ H1, U H1 → B false H1) → c σ H B) : tIfS c t u D σ H :=
  hc _ (fun H1 h => by rw [if_pos rfl]; exact ht H1 h) (fun H1 h => by rw [if_neg (by simp)]; exact hu H1 h)
end L2


set_option Elab.async false
set_option linter.all false
set_option maxRecDepth 100000
set_option maxHeartbeats 1000000
namespace L2
open PySem PySem.Spec PyProof.Rows PySem.W
section
variable {X : Cx}

def rSorted (K : Frag) : List V → Hp → VK → Prop := fun xs H Q => ∃ (p : Addr) (ns : List Int), xs = [.ref p] ∧ SqL K H p (ns.map V.int) ∧ ns.length < 64 ∧ ∀ (ns' : List Int) (l : Addr), ns'.Perm ns → ns'.Pairwise (· ≤ ·) → H l = none → Q (.ref l) (upd H l (.lst (ns'.map V.int)))
def rOr (r1 r2 : R2) : R2 := fun x y H Q => r1 x y H Q ∨ r2 x y H Q
end

theorem partAt_zero {f g : Nat → Int} {n a m : Nat} (h1 : a + m < n) (h2 : lowF f a m ≠ lowF g a m) (h3 : ∀ m', m' < m → ∀ a', a' + m' < n → lowF f a' m' = lowF g a' m') (h4 : ∀ a', a' < a → lowF f a' m = lowF g a' m) : PartAt f g 0 0 n a m := by
  refine ⟨h1, ?_, fun m' hm' a' ha' => ?_, fun a' ha' => ?_⟩
  · rw [Nat.zero_add]; omega
  · rw [Nat.zero_add, h3 m' hm' a' ha']
  · rw [Nat.zero_add, h4 a' ha']
theorem PartAt.low {f g : Nat → Int} {n a m : Nat} (h : PartAt f g 0 0 n a m) : a + m < n ∧ lowF f a m ≠ lowF g a m ∧ (∀ m', m' < m → ∀ a', a' + m' < n → lowF f a' m' = lowF g a' m') ∧ ∀ a', a' < a → lowF f a' m = lowF g a' m := by
  obtain ⟨h1, h2, h3, h4⟩ := h
  refine ⟨h1, fun e => h2 (by rw [Nat.zero_add, e]), fun m' hm' a' ha' => ?_, fun a' ha' => ?_⟩
  · have := h3 m' hm' a' ha'; rw [Nat.zero_add] at this; omega
  · have := h4 a' ha'; rw [Nat.zero_add] at this; omega
theorem PartAt.symm {f g : Nat → Int} {n a m : Nat} (h : PartAt f g 0 0 n a m) : PartAt g f 0 0 n a m := by
  obtain ⟨h1, h2, h3, h4⟩ := h.low
  exact partAt_zero h1 h2.symm (fun m' hm' a' ha' => (h3 m' hm' a' ha').symm) (fun a' ha' => (h4 a' ha').symm)
theorem PartAt.unique {f g : Nat → Int} {n a m a' m' : Nat} (h : PartAt f g 0 0 n a m) (k : PartAt f g 0 0 n a' m') : a = a' ∧ m = m' := by
  obtain ⟨h1, h2, h3, h4⟩ := h.low
  obtain ⟨k1, k2, k3, k4⟩ := k.low
  have hm : m = m' := by
    rcases Nat.lt_trichotomy m m' with z | z | z
    · exact absurd (k3 m z a h1) h2
    · exact z
    · exact absurd (h3 m' z a' k1) k2
  subst hm
  refine ⟨?_, rfl⟩
  rcases Nat.lt_trichotomy a a' with z | z | z
  · exact absurd (k4 a z) h2
  · exact z
  · exact absurd (h4 a' z) k2
end L2


set_option Elab.async false
set_option linter.all false
set_option maxRecDepth 100000
set_option maxHeartbeats 1000000
namespace L2
open PySem PySem.Spec PyProof.Rows PySem.W
section
variable {prog : Program} {w : World} {A : Around} {E Q : Value → Shared → Prop} {s : Shared} {it t : Addr} {i : Nat} {items : Array Value}
end
section
variable {X : Cx} {pins : List (Addr × Obj)} {σ : St} {H : Hp} {s : Shared} {h' : Heap}

def IteT (K : Frag) (a : Addr) : It :=
  ⟨fun i H => ∃ xs x, SqT K H a xs ∧ xs[i]? = some x,
   fun i H v H' => ∃ p x, H p = none ∧ v = .ref p ∧ H' = upd H p (.tup [.int (i : Int), x]) ∧ ∀ xs, SqT K H a xs → xs[i]? = some x,
   fun i H => ∃ xs, SqT K H a xs ∧ xs.length = i⟩
def iEnumT (K : Frag) (ta : TA) : TI := fun σ H R => ta σ H fun vs H1 => ∃ a xs, vs = [.ref a] ∧ SqT K H1 a xs ∧ R (IteT K a) H1
end
end L2


set_option Elab.async false
set_option linter.all false
set_option maxRecDepth 100000
set_option maxHeartbeats 1000000
namespace L2
open PySem PySem.Spec PyProof.Rows PySem.W

open Classical in
noncomputable def fenA (f : Nat → Int) (p : Nat) : Int := if h : ∃ q, IsPrev f p q then (Classical.choose h : Nat) else -1
theorem fenA_prev {f : Nat → Int} {p q : Nat} (h : IsPrev f p q) : fenA f p = q := by
  have hx : ∃ q, IsPrev f p q := ⟨q, h⟩
  unfold fenA
  rw [dif_pos hx, (Classical.choose_spec hx).unique h]
theorem fenA_no {f : Nat → Int} {p : Nat} (h : NoPrev f p) : fenA f p = -1 := by
  unfold fenA
  rw [dif_neg fun ⟨q, hq⟩ => hq.no h]
noncomputable def distN (f : Nat → Int) (p : Nat) : Int := if 0 ≤ fenA f p then (p : Int) - fenA f p else 0
def PairsAt (H : Hp) (l : Addr) (n : Nat) (ps : Nat → Int × Int) : Prop := ∃ qs : List Addr, H l = some (.lst (qs.map V.ref)) ∧ qs.length = n ∧ ∀ (j : Nat) (q : Addr), qs[j]? = some q → H q = some (.tup [.int (ps j).1, .int (ps j).2])
theorem PairsAt.same {H H' : Hp} {l : Addr} {n : Nat} {ps : Nat → Int × Int} (h : PairsAt H l n ps) (s : Same H H') : PairsAt H' l n ps := by
  obtain ⟨qs, h1, h2, h3⟩ := h
  exact ⟨qs, s _ _ h1, h2, fun j q hq => s _ _ (h3 j q hq)⟩
theorem PairsAt.push {H : Hp} {l q : Addr} {n : Nat} {ps : Nat → Int × Int} (h : PairsAt H l n ps) (hq : H q = some (.tup [.int (ps n).1, .int (ps n).2])) : ∃ xs : List V, H l = some (.lst xs) ∧ xs.length = n ∧ PairsAt (upd H l (.lst (xs ++ [.ref q]))) l (n + 1) ps := by
  obtain ⟨qs, h1, h2, h3⟩ := h
  have hne : ∀ a o, H a = some (.tup o) → a ≠ l := fun a o ha z => by rw [z, h1] at ha; cases ha
  refine ⟨_, h1, by simp [h2], qs ++ [q], by rw [upd_same]; simp, by simp [h2], fun j a ha => ?_⟩
  by_cases z : j < qs.length
  · rw [List.getElem?_append_left z] at ha
    have := h3 j a ha
    rw [upd_ne (hne _ _ this)]; exact this
  · have hj := (List.getElem?_eq_some_iff.mp ha).1
    rw [List.length_append] at hj
    have : j = n := by simp at hj; omega
    subst this
    rw [List.getElem?_append_right (by omega), h2] at ha
    simp at ha
    rw [← ha, upd_ne (hne _ _ hq)]; exact hq

theorem Spine.mono {f : Nat → Int} {i : Nat} {S : List Nat} (h : Spine f i S) : S.Pairwise (fun a b => f a ≤ f b) := by
  refine List.Pairwise.imp_of_mem ?_ h.1
  intro a b ha hb hab
  exact ((h.2 a).mp ha).2 b hab ((h.2 b).mp hb).1
end L2


set_option Elab.async false
set_option linter.all false
set_option maxRecDepth 100000
set_option maxHeartbeats 1000000
namespace L2
open PySem PySem.Spec PyProof.Rows PySem.W
end L2


set_option Elab.async false
set_option linter.all false
set_option maxRecDepth 100000
set_option maxHeartbeats 1000000
namespace L2
open PySem PySem.Spec PyProof.Rows PySem.W

section
variable {X : Cx}

def tMaxDT (K : Frag) (ta td : TA) : TE := fun σ H Q => ta σ H fun vs H1 => td σ H1 fun zs H2 => ∃ (p : Addr) (ns : List Int) (d : Int), vs = [.ref p] ∧ zs = [.int d] ∧ SqT K H2 p (ns.map V.int) ∧ (ns = [] → Q (.int d) H2) ∧ (ns ≠ [] → ∀ m, m ∈ ns → (∀ a ∈ ns, a ≤ m) → Q (.int m) H2)
end

def rInD (K : Frag) : R2 := fun x y H Q => ∃ (q p : Addr) (as : List Addr) (e : Addr → Bool), x = .ref q ∧ y = .ref p ∧ SqL K H p (as.map V.ref) ∧ (∀ a ∈ as, EqD K H 3 (.ref a) x (e a)) ∧ Q (.bl (as.any e)) H
section
variable {X : Cx}
end
end L2


set_option Elab.async false
set_option linter.all false
set_option maxRecDepth 100000
set_option maxHeartbeats 1000000
namespace L2
open PySem PySem.Spec PyProof.Rows PySem.W

end L2


set_option Elab.async false
set_option linter.all false
set_option maxRecDepth 100000
set_option maxHeartbeats 1000000

namespace PySem
open Sem (wp)
section
variable {prog : Program} {w : World} {A : Around} {E : Value → Shared → Prop} {s : Shared}
end
end PySem
namespace L2
open PySem PySem.Spec PyProof.Rows PySem.W
section
variable {X : Cx}
def rTupR2 : List V → Hp → VK → Prop := fun xs H Q => ∃ p i j, xs = [.ref p] ∧ H p = some (.rng i j) ∧ -(2 ^ 62) ≤ i ∧ i < 2 ^ 62 ∧ -(2 ^ 62) ≤ j ∧ j < 2 ^ 62 ∧ j - i ≤ 1000 ∧ ∀ l, H l = none → Q (.ref l) (upd H l (.tup ((List.range (j - i).toNat).map fun (k : Nat) => V.int (i + (k : Int)))))
end
end L2


set_option Elab.async false
set_option linter.all false
set_option maxRecDepth 100000
set_option maxHeartbeats 1000000

namespace L2
open PySem PySem.Spec PyProof.Rows PySem.W

def QIt (h : Heap) (i l : Addr) (k : Nat) (xs : Array Value) : Prop := (h.IsListIter i l k ∧ h.IsList l xs) ∨ (h.IsTupleIter i l k ∧ h.IsTuple l xs)
theorem QIt.ext {h h' : Heap} {i l b : Addr} {k : Nat} {xs : Array Value} (x : QIt h i l k xs) (hs : Heap.ExtBut b h h') (n1 : i ≠ b) (n2 : l ≠ b) : QIt h' i l k xs := by
  rcases x with ⟨p, q⟩ | ⟨p, q⟩
  · exact .inl ⟨p.extBut hs n1, q.extBut hs n2⟩
  · obtain ⟨o, ho, r⟩ := q
    exact .inr ⟨p.extBut hs n1, ⟨o, hs _ _ n2 ho, r⟩⟩
theorem QIt.at {h h' : Heap} {i l : Addr} {k : Nat} {xs : Array Value} (x : QIt h i l k xs) (e1 : ∀ o, h.get? i = some o → h'.get? i = some o) (e2 : ∀ o, h.get? l = some o → h'.get? l = some o) : QIt h' i l k xs := by
  rcases x with ⟨p, ⟨o, ho, r⟩⟩ | ⟨⟨o1, p1, r1⟩, ⟨o, ho, r⟩⟩
  · exact .inl ⟨p.at e1, ⟨o, e2 o ho, r⟩⟩
  · exact .inr ⟨⟨o1, e1 _ p1, r1⟩, ⟨o, e2 o ho, r⟩⟩
theorem QIt.obj {h : Heap} {i l : Addr} {k : Nat} {xs : Array Value} (x : QIt h i l k xs) : (∃ o, h.get? i = some o ∧ ∀ v m, o.data ≠ .seq v m) ∧ ∃ o, h.get? l = some o := by
  rcases x with ⟨⟨o, p, p1, p2⟩, ⟨u, q, _⟩⟩ | ⟨⟨o, p, p1, p2⟩, ⟨u, q, _⟩⟩
  · exact ⟨⟨o, p, fun v m z => by rw [p2] at z; cases z⟩, ⟨u, q⟩⟩
  · exact ⟨⟨o, p, fun v m z => by rw [p2] at z; cases z⟩, ⟨u, q⟩⟩
section
variable {prog : Program} {w : World} {A : Around} {E Q : Value → Shared → Prop} {s : Shared} {it l : Addr} {k : Nat} {xs : Array Value}
end
section
variable {prog : Program} {w : World} {A : Around} {E : Value → Shared → Prop} {s : Shared} {z TI TO i1 i2 l1 l2 : Addr} {k1 k2 : Nat} {xs ys : Array Value} {a b : Value}
def SqH (h : Heap) (l : Addr) (xs : Array Value) : Prop := h.IsList l xs ∨ h.IsTuple l xs
theorem SqH.push {h : Heap} {l : Addr} {xs : Array Value} (q : SqH h l xs) (o : Obj) : SqH (h.push o) l xs := by
  rcases q with q | ⟨u, hu, r⟩
  · exact .inl (q.push o)
  · exact .inr ⟨u, Heap.get?_push_of_some _ hu, r⟩
theorem SqH.obj {h : Heap} {l : Addr} {xs : Array Value} (q : SqH h l xs) : ∃ o, h.get? l = some o := by
  rcases q with ⟨o, ho, _⟩ | ⟨o, ho, _⟩ <;> exact ⟨o, ho⟩
def itName (h : Heap) (l : Addr) : String := match h.get? l with
  | some o => if o.cls = .type "tuple" then "tuple_iterator" else "list_iterator"
  | none => "list_iterator"
abbrev zq1 (h : Heap) (l1 : Addr) : Heap := h.push { cls := .type (itName h l1), data := .fields #[.ref l1, .int 0 0] }
abbrev zq2 (h : Heap) (l1 l2 : Addr) : Heap := (zq1 h l1).push { cls := .type (itName (zq1 h l1) l2), data := .fields #[.ref l2, .int 0 0] }
abbrev zq3 (h : Heap) (l1 l2 : Addr) : Heap := (zq2 h l1 l2).push { cls := .type "tuple", data := .seq #[.ref h.objs.size, .ref (zq1 h l1).objs.size] }
abbrev zq4 (h : Heap) (l1 l2 : Addr) : Heap := (zq3 h l1 l2).push { cls := .type "tuple", data := .seq #[.none, .none] }
end
section
variable {X : Cx} {pins : List (Addr × Obj)} {σ : St} {H : Hp} {s : Shared}

def SqB (K : Frag) (t : Bool) (H : Hp) (a : Addr) (xs : List V) : Prop := match t with
  | true => SqT K H a xs
  | false => SqL K H a xs
def ItB (t : Bool) (h : Heap) (i a : Addr) (k : Nat) : Prop := match t with
  | true => h.IsTupleIter i a k
  | false => h.IsListIter i a k
theorem SqB.of {K : Frag} {H : Hp} {a : Addr} {xs : List V} (h : SqL K H a xs ∨ SqT K H a xs) : ∃ t, SqB K t H a xs := by
  rcases h with h | h
  · exact ⟨false, h⟩
  · exact ⟨true, h⟩
theorem ItB.keep {t : Bool} {h h' : Heap} {i a : Addr} {k : Nat} (q : ItB t h i a k) (e : ∀ o, h.get? i = some o → h'.get? i = some o) : ItB t h' i a k := by
  cases t
  · obtain ⟨o, ho, r⟩ := q; exact ⟨o, e o ho, r⟩
  · obtain ⟨o, ho, r⟩ := q; exact ⟨o, e o ho, r⟩
theorem ItB.obj {t : Bool} {h : Heap} {i a : Addr} {k : Nat} (q : ItB t h i a k) : ∃ o, h.get? i = some o ∧ ∃ v, o.data = .fields v := by
  cases t
  · obtain ⟨o, ho, _, d⟩ := q; exact ⟨o, ho, _, d⟩
  · obtain ⟨o, ho, _, d⟩ := q; exact ⟨o, ho, _, d⟩
def Itzq (K : Frag) (t u : Bool) (a b : Addr) : It :=
  ⟨fun i H => ∃ xs ys x y, SqB K t H a xs ∧ SqB K u H b ys ∧ xs[i]? = some x ∧ ys[i]? = some y,
   fun i H v H' => ∃ p x y, H p = none ∧ v = .ref p ∧ H' = upd H p (.tup [x, y]) ∧ (∀ xs, SqB K t H a xs → xs[i]? = some x) ∧ ∀ ys, SqB K u H b ys → ys[i]? = some y,
   fun i H => ∃ xs ys, SqB K t H a xs ∧ SqB K u H b ys ∧ (xs.length ≤ i ∨ ys.length ≤ i)⟩
def iZipQ (K : Frag) (ta : TA) : TI := fun σ H R => ta σ H fun vs H1 => ∃ a b t u xs ys, vs = [.ref a, .ref b] ∧ SqB K t H1 a xs ∧ SqB K u H1 b ys ∧ R (Itzq K t u a b) H1
end
end L2


set_option Elab.async false
set_option linter.all false
set_option maxRecDepth 100000
set_option maxHeartbeats 1000000
namespace L2
open PySem PySem.Spec PyProof.Rows PySem.W
end L2
namespace L2
open PySem PySem.Spec PyProof.Rows PySem.W
theorem seqIx {a n : Nat} (h : a < n) : seqIndex? (a : Int) n = some a := by
  unfold seqIndex?
  simp
  omega
end L2


set_option Elab.async false
set_option linter.all false
set_option maxRecDepth 100000
set_option maxHeartbeats 1000000
namespace L2
open PySem PySem.Spec PyProof.Rows PySem.W

end L2
namespace L2
open PySem PySem.Spec PyProof.Rows PySem.W
end L2


set_option Elab.async false
set_option linter.all false
set_option maxRecDepth 100000
set_option maxHeartbeats 1000000
namespace L2
open PySem PySem.Spec PyProof.Rows PySem.W

end L2
namespace L2
open PySem PySem.Spec PyProof.Rows PySem.W
end L2
namespace L2
open PySem PySem.Spec PyProof.Rows PySem.W

end L2
namespace L2
end L2
namespace L2
open PySem PySem.Spec PyProof.Rows PySem.W
end L2


set_option Elab.async false
set_option linter.all false
set_option maxRecDepth 100000
set_option maxHeartbeats 1000000
namespace L2
open PySem PySem.Spec PyProof.Rows PySem.W

def sw (d : Int) (k : Nat) : Int := if d ≤ k then d else 0
theorem sw_sw {d : Int} {a b : Nat} (h : a ≤ b) : sw (sw d b) a = sw d a := by
  unfold sw
  by_cases h1 : d ≤ b
  · rw [if_pos h1]
  · rw [if_neg h1, if_pos (by omega : (0 : Int) ≤ a), if_neg (by omega)]
theorem distN_cases (f : Nat → Int) (p : Nat) : (NoPrev f p ∧ distN f p = 0) ∨ ∃ q, IsPrev f p q ∧ distN f p = (p : Int) - q := by
  rcases prev_or f p with h | ⟨q, h⟩
  · exact .inl ⟨h, by unfold distN; rw [fenA_no h, if_neg (by omega)]⟩
  · exact .inr ⟨q, h, by unfold distN; rw [fenA_prev h, if_pos (by omega)]⟩
theorem distN_bounds (f : Nat → Int) (p : Nat) : 0 ≤ distN f p ∧ distN f p ≤ p := by
  rcases distN_cases f p with ⟨_, e⟩ | ⟨q, h, e⟩
  · omega
  · have := h.1; omega
theorem sw_self (f : Nat → Int) (p : Nat) : sw (distN f p) p = distN f p := if_pos (distN_bounds f p).2

def Mt (f g : Nat → Int) (m p : Nat) : Prop := ∀ i, i < m → distN f i = sw (distN g (p - m + i)) i
theorem Mt.succ {f g : Nat → Int} {m p : Nat} (h : m ≤ p) : Mt f g (m + 1) (p + 1) ↔ Mt f g m p ∧ distN f m = sw (distN g p) m := by
  constructor
  · intro H
    refine ⟨fun i hi => ?_, ?_⟩
    · have := H i (by omega); rw [show p + 1 - (m + 1) + i = p - m + i by omega] at this; exact this
    · have := H m (by omega); rw [show p + 1 - (m + 1) + m = p by omega] at this; exact this
  · rintro ⟨H, h2⟩ i hi
    rw [show p + 1 - (m + 1) + i = p - m + i by omega]
    by_cases e : i = m
    · rw [e, show p - m + m = p by omega]; exact h2
    · exact H i (by omega)
theorem Mt.part {f g : Nat → Int} {m c p : Nat} (hm : m ≤ c) (hc : c ≤ p) (h : Mt f g c p) : Mt f g m p ↔ Mt f f m c := by
  have key : ∀ j, j < m → sw (distN f (c - m + j)) j = sw (distN g (p - m + j)) j := fun j hj => by
    have := h (c - m + j) (by omega)
    rw [this, show p - c + (c - m + j) = p - m + j by omega, sw_sw (by omega)]
  constructor
  · intro H j hj; rw [key j hj]; exact H j hj
  · intro H j hj; rw [← key j hj]; exact H j hj
theorem Mt.zero (f g : Nat → Int) (p : Nat) : Mt f g 0 p := fun i hi => absurd hi (by omega)
theorem Mt.self (f : Nat → Int) (m : Nat) : Mt f f m m := fun i hi => by rw [Nat.sub_self, Nat.zero_add, sw_self]
def IsBorder (f : Nat → Int) (k m : Nat) : Prop := m < k ∧ Mt f f m k ∧ ∀ j, m < j → j < k → ¬ Mt f f j k
theorem IsBorder.unique {f : Nat → Int} {k m j : Nat} (h : IsBorder f k m) (h' : IsBorder f k j) : m = j := by
  rcases Nat.lt_trichotomy m j with z | z | z
  · exact absurd h'.2.1 (h.2.2 j z h'.1)
  · exact z
  · exact absurd h.2.1 (h'.2.2 m z h.1)
def Walk (f : Nat → Int) (n s : Nat) (d : Int) (c : Nat) : Prop := c ≤ s ∧ Mt f f c s ∧ ∀ j, c < j → j ≤ s → Mt f f j s → ¬ (j < n ∧ distN f j = sw d j)
theorem Walk.start (f : Nat → Int) (n s : Nat) (d : Int) : Walk f n s d s := ⟨Nat.le_refl _, Mt.self f s, fun j h1 h2 => absurd h1 (by omega)⟩
theorem Walk.step {f : Nat → Int} {n s : Nat} {d : Int} {c b : Nat} (h : Walk f n s d c) (no : ¬ (c < n ∧ distN f c = sw d c)) (hb : IsBorder f c b) : Walk f n s d b := by
  obtain ⟨h1, h2, h3⟩ := h
  obtain ⟨b1, b2, b3⟩ := hb
  refine ⟨by omega, (Mt.part (by omega) h1 h2).mpr b2, fun j j1 j2 j3 => ?_⟩
  rcases Nat.lt_trichotomy j c with z | z | z
  · exact absurd ((Mt.part (by omega) h1 h2).mp j3) (b3 j j1 z)
  · rw [z]; exact no
  · exact h3 j z j2 j3
end L2
namespace L2
open PySem PySem.Spec PyProof.Rows PySem.W
end L2


set_option Elab.async false
set_option linter.all false
set_option maxRecDepth 100000
set_option maxHeartbeats 1000000
namespace L2
open PySem PySem.Spec PyProof.Rows PySem.W
end L2
namespace L2
end L2


set_option Elab.async false
set_option linter.all false
set_option maxRecDepth 100000
set_option maxHeartbeats 1000000
namespace L2
open PySem PySem.Spec PyProof.Rows PySem.W

structure FunD (K : PySem.W.Frag) (x qual : Str) (st : Stmt) (f : Addr) (fd : FuncData) (dV : Value) : Prop where
  ex : ∃ (oc : Value) (od : Option Addr) (kV doc pm : Value) (an : Option Addr) (cdv ct : Value) (osl : Array (Option Value)),
    fd = PySem.W.fnOf x qual (defArgs st) (defBody st) (defScope st) dV kV doc pm an cdv ct ∧ K.lookup f = some ⟨oc, od, .func fd, osl⟩ ∧ PySem.W.codeIn K cdv qual = true
  kp : PySem.W.keepIn K (.ref f) = true
section
variable {P : Program} {w : World} {K : PySem.W.Frag} {mg : Str → Option Value} {base : Heap}
theorem FunD.okX {x qual : Str} {st : Stmt} {f : Addr} {fd : FuncData} {dV : Value} {N ps : List Str} {k : Nat} {sp : Sp} (F : FunD K x qual st f fd dV) (S : FnScope N ps (defScope st)) (len : ∀ vs H Q E, sp vs H Q E → vs.length = ps.length)
    (hbody : ∀ (cdv : Value) (A : Around) (outer : List Env) (s : Shared) (H : Hp) (vs : List V) (Q : VK) (E : XK), Room k (A.deeper (envOfC qual (defScope st) s.heap.objs.size f cdv)) → sp vs H Q E →
      ∃ t, PSs (cxOf (CXE P w) P w K mg base N qual (defScope st) f cdv A outer s H E) (defBody st) t ∧ t { nx := fun _ H' => Q .non H', rt := Q } (start N vs) H) : FnOk P w K mg base (CXE P w) (k + 1) f fd ps sp := by
  obtain ⟨oc, od, kV, doc, pm, an, cdv, ct, osl, rfl, lk, hcd⟩ := F.ex
  exact fn_of lk hcd S len fun A outer s H vs Q E hr hsp => hbody cdv A outer s H vs Q E hr hsp
theorem FunD.binds {x qual : Str} {st : Stmt} {f : Addr} {fd : FuncData} {D : Addr} {ps : List Str} {ds : List Value} {oc : Value} {od : Option Addr} {items : Array Value} {ep : Nat} {sl : Array (Option Value)} (F : FunD K x qual st f fd (.ref D))
    (lk : K.lookup D = some ⟨oc, od, .seq items ep, sl⟩)
    (h : ∀ (kV doc pm : Value) (an : Option Addr) (cdv ct : Value) (us : List Value), (us ++ ds).length = ps.length → ∃ k, bindArgs (PySem.W.fnOf x qual (defArgs st) (defBody st) (defScope st) (.ref D) kV doc pm an cdv ct) ⟨us, []⟩ = seqItems? (.ref D) >>= k ∧ k (some items) = pure (ps.zip (us ++ ds))) : Binds K fd ps ds := by
  obtain ⟨oc, od, kV, doc, pm, an, cdv, ct, osl, rfl, lf, hcd⟩ := F.ex
  intro s us KX hl
  obtain ⟨k, h1, h2⟩ := h kV doc pm an cdv ct us hl
  exact BindsTo.of_defaults rfl (KX _ _ lk) rfl h1 h2
end

end L2
namespace L2
open PySem PySem.Spec PyProof.Rows PySem.W
end L2


set_option Elab.async false
set_option linter.all false
set_option maxRecDepth 100000
set_option maxHeartbeats 1000000
namespace L2
open PySem PySem.Spec PyProof.Rows PySem.W

def RA (Z H : Hp) (l : Addr) (as : List Addr) (C : Nat) : Prop := H l = some (.lst (as.map V.ref)) ∧ l ∉ as ∧ Z l = none ∧ ∀ a ∈ as, Z a = none ∧ ∃ ns : List Int, H a = some (.lst (ns.map V.int)) ∧ ns.length ≤ C
open Classical in
noncomputable def intsOf (H : Hp) (a : Addr) : List Int := if h : ∃ ns : List Int, H a = some (.lst (ns.map V.int)) then Classical.choose h else []
theorem ints_inj {ns ms : List Int} (h : ns.map V.int = ms.map V.int) : ns = ms := by
  have := congrArg (List.map fun v => match v with | V.int i => i | _ => 0) h
  simpa [List.map_map, Function.comp_def] using this
theorem intsOf_eq {H : Hp} {a : Addr} {ns : List Int} (h : H a = some (.lst (ns.map V.int))) : intsOf H a = ns := by
  have e : ∃ ns : List Int, H a = some (.lst (ns.map V.int)) := ⟨ns, h⟩
  unfold intsOf
  rw [dif_pos e]
  have := Classical.choose_spec e
  exact ints_inj (HO.lst.inj (Option.some.inj (this.symm.trans h)))
theorem RA.rows {Z H : Hp} {l : Addr} {as : List Addr} {C : Nat} (R : RA Z H l as C) : ∃ rs : List (List Int), Rows H l rs ∧ rs.length = as.length ∧ ∀ x ∈ rs, x.length ≤ C := by
  obtain ⟨h1, h2, h3, h4⟩ := R
  refine ⟨as.map (intsOf H), ⟨as, h1, h2, by simp, fun i i1 i2 => ?_⟩, by simp, fun x hx => ?_⟩
  · obtain ⟨_, ns, e, _⟩ := h4 as[i] (List.getElem_mem _)
    rw [List.getElem_map, intsOf_eq e]; exact e
  · obtain ⟨a, ha, rfl⟩ := List.mem_map.mp hx
    obtain ⟨_, ns, e, hl⟩ := h4 a ha
    rw [intsOf_eq e]; exact hl
theorem RA.exc {Z H H' : Hp} {l p : Addr} {as : List Addr} {C : Nat} (R : RA Z H l as C) (e : Exc p H H') (hp : Z p ≠ none) : RA Z H' l as C :=
  ⟨e _ _ (fun z => hp (by rw [← z]; exact R.2.2.1)) R.1, R.2.1, R.2.2.1, fun a ha => ⟨(R.2.2.2 a ha).1, by
    obtain ⟨z, ns, h, hl⟩ := R.2.2.2 a ha
    exact ⟨ns, e _ _ (fun y => hp (by rw [← y]; exact z)) h, hl⟩⟩⟩
theorem RA.same {Z H H' : Hp} {l : Addr} {as : List Addr} {C : Nat} (R : RA Z H l as C) (s : Same H H') : RA Z H' l as C :=
  ⟨s _ _ R.1, R.2.1, R.2.2.1, fun a ha => ⟨(R.2.2.2 a ha).1, by
    obtain ⟨z, ns, h, hl⟩ := R.2.2.2 a ha
    exact ⟨ns, s _ _ h, hl⟩⟩⟩
theorem RA.mono {Z H : Hp} {l : Addr} {as : List Addr} {C D : Nat} (R : RA Z H l as C) (h : C ≤ D) : RA Z H l as D :=
  ⟨R.1, R.2.1, R.2.2.1, fun a ha => ⟨(R.2.2.2 a ha).1, by
    obtain ⟨z, ns, e, hl⟩ := R.2.2.2 a ha
    exact ⟨ns, e, by omega⟩⟩⟩

theorem RA.outer {Z H : Hp} {l : Addr} {as bs : List Addr} {C : Nat} (R : RA Z H l as C) (h : ∀ b ∈ bs, b ∈ as) : RA Z (upd H l (.lst (bs.map V.ref))) l bs C :=
  ⟨upd_same, fun z => R.2.1 (h _ z), R.2.2.1, fun a ha => ⟨(R.2.2.2 a (h a ha)).1, by
    obtain ⟨z, ns, e, hl⟩ := R.2.2.2 a (h a ha)
    exact ⟨ns, by rw [upd_ne (fun y => R.2.1 (by rw [← y]; exact h a ha))]; exact e, hl⟩⟩⟩

theorem RA.more {Z H : Hp} {l q : Addr} {as bs : List Addr} {C : Nat} {ns : List Int} (R : RA Z H l as C) (h : ∀ b ∈ bs, b ∈ as ∨ b = q) (hq : H q = some (.lst (ns.map V.int))) (zq : Z q = none) (hl : ns.length ≤ C) (nq : q ≠ l) : RA Z (upd H l (.lst (bs.map V.ref))) l bs C :=
  ⟨upd_same, fun z => (h _ z).elim R.2.1 (fun y => nq y.symm), R.2.2.1, fun a ha => by
    rcases h a ha with h1 | rfl
    · obtain ⟨z, ns, e, hl⟩ := R.2.2.2 a h1
      exact ⟨z, ns, by rw [upd_ne (fun y => R.2.1 (by rw [← y]; exact h1))]; exact e, hl⟩
    · exact ⟨zq, ns, by rw [upd_ne nq]; exact hq, hl⟩⟩

theorem RA.fresh {Z H : Hp} {l q u : Addr} {as bs : List Addr} {C : Nat} {ns : List Int} (R : RA Z H l as C) (h : ∀ b ∈ bs, b ∈ as ∨ b = q) (hq : H q = some (.lst (ns.map V.int))) (zq : Z q = none) (hl : ns.length ≤ C) (hu : H u = none) (zu : Z u = none) : RA Z (upd H u (.lst (bs.map V.ref))) u bs C := by
  have key : ∀ b ∈ bs, b ≠ u ∧ Z b = none ∧ ∃ ns : List Int, H b = some (.lst (ns.map V.int)) ∧ ns.length ≤ C := fun b hb => by
    rcases h b hb with h1 | rfl
    · obtain ⟨z, ns, e, hl⟩ := R.2.2.2 b h1
      exact ⟨ne_of_none e hu, z, ns, e, hl⟩
    · exact ⟨ne_of_none hq hu, zq, ns, hq, hl⟩
  exact ⟨upd_same, fun z => (key u z).1 rfl, zu, fun a ha => by
    obtain ⟨n, z, ns, e, hl⟩ := key a ha
    exact ⟨z, ns, by rw [upd_ne n]; exact e, hl⟩⟩

theorem RA.inner {Z H : Hp} {l a : Addr} {as : List Addr} {C : Nat} {ns : List Int} (R : RA Z H l as C) (ha : a ∈ as) (hl : ns.length ≤ C) : RA Z (upd H a (.lst (ns.map V.int))) l as C :=
  ⟨by rw [upd_ne (fun y => R.2.1 (by rw [y]; exact ha))]; exact R.1, R.2.1, R.2.2.1, fun b hb => ⟨(R.2.2.2 b hb).1, by
    by_cases e : b = a
    · subst e; exact ⟨ns, upd_same, hl⟩
    · obtain ⟨z, ns, h, hl⟩ := R.2.2.2 b hb
      exact ⟨ns, by rw [upd_ne e]; exact h, hl⟩⟩⟩
theorem RA.at {Z H : Hp} {l : Addr} {as : List Addr} {C i : Nat} (R : RA Z H l as C) (h : i < as.length) : ∃ (a : Addr) (ns : List Int), a ∈ as ∧ as[i]? = some a ∧ atI (as.map V.ref) (i : Int) = some (.ref a) ∧ H a = some (.lst (ns.map V.int)) ∧ ns.length ≤ C ∧ Z a = none ∧ a ≠ l := by
  obtain ⟨z, ns, e, hl⟩ := R.2.2.2 as[i] (List.getElem_mem _)
  refine ⟨as[i], ns, List.getElem_mem _, List.getElem?_eq_getElem h, ?_, e, hl, z, fun y => R.2.1 (by rw [← y]; exact List.getElem_mem _)⟩
  rw [atI_at rfl (by simpa using h)]; simp
theorem RA.copy {H1 H' : Hp} {l : Addr} {acc : List V} {rs : List (List Int)} {C : Nat} (h : ItemsOf2 HO.lst H' rs acc) (hf : ∀ x ∈ acc, ∃ a, x = V.ref a ∧ H1 a = none) (hl : H' l = some (.lst acc)) (zl : H1 l = none) (hc : ∀ x ∈ rs, x.length ≤ C) : ∃ as : List Addr, acc = as.map V.ref ∧ as.length = rs.length ∧ RA H1 H' l as C := by
  obtain ⟨as, rfl⟩ : ∃ as : List Addr, acc = as.map V.ref := by
    clear h hl
    induction acc with
    | nil => exact ⟨[], rfl⟩
    | cons x acc ih =>
      obtain ⟨a, rfl, _⟩ := hf x (by simp)
      obtain ⟨as, rfl⟩ := ih fun y hy => hf y (by simp [hy])
      exact ⟨a :: as, rfl⟩
  have hlen : as.length = rs.length := by have := h.1; rwa [List.length_map] at this
  have key : ∀ a ∈ as, H1 a = none ∧ ∃ ns : List Int, H' a = some (.lst (ns.map V.int)) ∧ ns.length ≤ C := fun a ha => by
    obtain ⟨j, hj, rfl⟩ := List.getElem_of_mem ha
    obtain ⟨b, e1, e2⟩ := h.2 j (.ref as[j]) (rs[j]'(by omega)) (by simp [hj]) (List.getElem?_eq_getElem (by omega))
    have hb : as[j] = b := V.ref.inj e1
    rw [← hb] at e2
    obtain ⟨c, e3, e4⟩ := hf (.ref as[j]) (List.mem_map.mpr ⟨_, List.getElem_mem _, rfl⟩)
    have hd : as[j] = c := V.ref.inj e3
    rw [← hd] at e4
    exact ⟨e4, _, e2, hc _ (List.getElem_mem _)⟩
  refine ⟨as, rfl, hlen, hl, fun z => ?_, zl, key⟩
  obtain ⟨_, ns, e, _⟩ := key l z
  rw [hl] at e
  have e := HO.lst.inj (Option.some.inj e)
  obtain ⟨j, hj, hz⟩ := List.getElem_of_mem z
  have h1 : (as.map V.ref)[j]? = some (V.ref l) := by rw [List.getElem?_map, List.getElem?_eq_getElem hj, hz]; rfl
  rw [e, List.getElem?_map] at h1
  cases hn : ns[j]? with
  | none => rw [hn] at h1; cases h1
  | some x => rw [hn] at h1; cases h1
theorem RA.from {Z H H' : Hp} {l p : Addr} {as : List Addr} {C : Nat} (R : RA H H' l as C) (e : Exc p Z H) (hp : H p ≠ none) : RA Z H' l as C :=
  ⟨R.1, R.2.1, e.free (fun z => hp (by rw [← z]; exact R.2.2.1)) R.2.2.1, fun a ha => ⟨e.free (fun z => hp (by rw [← z]; exact (R.2.2.2 a ha).1)) (R.2.2.2 a ha).1, (R.2.2.2 a ha).2⟩⟩
theorem RowsN.exc {Z H H' : Hp} {l p : Addr} {rs : List (List Int)} (R : RowsN Z H l rs) (e : Exc p H H') (hp : Z p ≠ none) : RowsN Z H' l rs := by
  obtain ⟨as, h1, h2, h3, h4, h5, h6⟩ := R
  exact ⟨as, e _ _ (fun z => hp (by rw [← z]; exact h5)) h1, h2, h3, fun i i1 i2 => e _ _ (fun z => hp (by rw [← z]; exact h6 _ (List.getElem_mem _))) (h4 i i1 i2), h5, h6⟩
theorem RA.ofN {Z H : Hp} {l : Addr} {rs : List (List Int)} {C : Nat} (R : RowsN Z H l rs) (hc : ∀ x ∈ rs, x.length ≤ C) : ∃ as : List Addr, as.length = rs.length ∧ RA Z H l as C := by
  obtain ⟨as, h1, h2, h3, h4, h5, h6⟩ := R
  refine ⟨as, h3, h1, h2, h5, fun a ha => ⟨h6 a ha, ?_⟩⟩
  obtain ⟨j, hj, rfl⟩ := List.getElem_of_mem ha
  exact ⟨_, h4 j hj (by omega), hc _ (List.getElem_mem _)⟩
theorem isL_nil {K : Frag} {H : Hp} {α : Type} {P : V → α → Prop} {q : Addr} (h : H q = some (.lst [])) : IsL K H P (.ref q) [] := ⟨q, [], rfl, SqL.of h, rfl, fun j x y h1 => by simp at h1⟩
theorem PoolAt.updN {H : Hp} {p q : Addr} {o : HO} (P : PoolAt H p) (h : q ≠ p) : PoolAt (L2.upd H q o) p := by
  obtain ⟨x, y, e, z⟩ := P
  exact ⟨x, y, by rw [upd_ne (fun w => h w.symm)]; exact e, z⟩
theorem upd_two {G : Hp} {l : Addr} {X Y : HO} : upd (upd G l X) l Y = upd G l Y := by
  funext x
  by_cases e : x = l
  · subst e; rw [upd_same, upd_same]
  · rw [upd_ne e, upd_ne e, upd_ne e]
theorem IsL.mono {K : Frag} {H H' : Hp} {α : Type} {P P' : V → α → Prop} {v : V} {as : List α} (h : IsL K H P v as) (s : Same H H') (hp : ∀ x y, P x y → P' x y) : IsL K H' P' v as := by
  obtain ⟨a, xs, e, q, l, r⟩ := h
  exact ⟨a, xs, e, s.seq q, l, fun j x y h1 h2 => hp _ _ (r j x y h1 h2)⟩
theorem IsL2.same {K : Frag} {H H' : Hp} {v : V} {rs : List (List Int)} (h : IsL K H (IsL K H IsI) v rs) (s : Same H H') : IsL K H' (IsL K H' IsI) v rs := IsL.mono h s fun x y q => IsL.mono q s fun _ _ z => z
end L2


set_option Elab.async false
set_option linter.all false
set_option maxRecDepth 100000
set_option maxHeartbeats 4000000
namespace K20
open PySem PySem.Spec PyProof.Rows L2
local macro_rules | `(tactic| walk_at "rd") => `(tactic| simp only [tIfS, tNot, tTest, tChain, rI0, rI, rU, tVar, tC, tB, tIf, tAndV, tOrV, tNotV, tCall, tCallX, tCons, tNil, tAsg, tSeq, tRet, tNext, tOp, tUn, tAnd, tOr, tDrop, gName, gSub, tAug, tCB, tSl, tRaise, tLst, tTup, L2.start, tYes, gTup, gCons, gNil, iniC, Option.join_some, Option.join_none, rEq, rNe, scal_ii, scal_bb, scal_ss, scal_nn, scal_ni, scal_in, tBM, Bool.true_eq_false, List.map_cons, List.map_nil, List.cons_append, List.nil_append, List.length_cons, List.length_nil, List.replicate, List.append_nil, List.set_cons_zero, List.set_cons_succ, List.getElem?_cons_zero, List.getElem?_cons_succ, Option.some.injEq, V.int.injEq, V.bl.injEq, V.ref.injEq, List.cons.injEq, and_true, true_and, exists_eq_left, exists_eq_left', exists_and_left, exists_eq, decide_eq_true_eq, Bool.not_eq_true', decide_eq_false_iff_not, cxK, and_assoc, Bool.false_eq_true, ↓reduceIte, tFor_eq, tWhile_eq, tComp_eq, iRng1, iRng2, iList, iTup, iZip, iRev, rIxL, rIxT, rSetL, rCat, rIsi, rSum, rCount, tDelT, rPop, rIntB, tPar, rInsert, rIndex, rLen, rLof, rTof, tChain3, rBits, iSeq, tBM0, rEqD, tRngV, rLstR, tRngV2, rLstR2, rIn, gSubSl, rSlQ, iEnum, iEnumT, rInD, tMaxDT, tMaxD, tMinD, rIndexF, rSorted, rOr, rAll, rAny, ipM, rIxQ, tRev, rSlL, tPart, tNoPart, tSl, ipI, rAppend, rRep, cOf_ref, cOf_ty, rTupR2, rPopAt, iZipQ, rExtend])
def top (i : Nat) : Stmt := PySem.Challenge.pw_dipkin_k20_ladders_judged.main.body.getD i (.Pass ⟨0, 0, 0, 0⟩)
abbrev s_lesser : Stmt := top 1
abbrev s_next_rung : Stmt := top 3
abbrev s_ladder_of : Stmt := top 4
abbrev s_ladder_right : Stmt := top 5
abbrev s__law_pool : Stmt := top 7
abbrev s__law_pick : Stmt := top 8
abbrev s__law_size : Stmt := top 9
abbrev s__law_row : Stmt := top 10
abbrev s__law_low : Stmt := top 11
abbrev s__law_ladder : Stmt := top 12
abbrev s__law_bent : Stmt := top 13
abbrev s_law : Stmt := top 14
structure Txt (K : PySem.W.Frag) (mg : Str → Option Value) : Prop where
  b_bool : mg "bool" = none
  b_isinstance : mg "isinstance" = none
  b_len : mg "len" = none
  b_list : mg "list" = none
  b_max : mg "max" = none
  b_min : mg "min" = none
  b_range : mg "range" = none
  b_tuple : mg "tuple" = none
abbrev SpT := PySem.W.Frag → (Str → Option Value) → Sp
def spLaw (K : PySem.W.Frag) : Sp := fun vs H Q E => ∃ (a : Addr) (ns : List Int), vs = [.ref a] ∧ SqL K H a (ns.map V.int) ∧ ns.length ≤ 63 ∧ ∀ H', Q (.bl true) H'
def sp__law_pool : SpT := fun K mg vs H Q E => ∃ (a : Addr) (ns : List Int) (k : Int), vs = [.ref a, .int k] ∧ SqL K H a (ns.map V.int) ∧ 0 ≤ k ∧ k ≤ 100 ∧ ∀ p H', H p = none → Same H H' → PoolAt H' p → Q (.ref p) H'
def sp__law_pick : SpT := fun K mg vs H Q E => ∃ (p : Addr) (many : Int), vs = [.ref p, .int many] ∧ 0 < many ∧ many ≤ 1000000000 ∧ PoolAt H p ∧ ∀ d H', 0 ≤ d → d < many → PoolAt H' p → Exc p H H' → Q (.int d) H'
def sp__law_whole : SpT := fun K mg vs H Q E => ∃ i : Int, vs = [.int i] ∧ Q (.bl true) H

def sp__law_size : SpT := fun K mg vs H Q E => ∃ (p : Addr) (most : Int), vs = [.ref p, .int most] ∧ 0 ≤ most ∧ most ≤ 1000 ∧ PoolAt H p ∧ ∀ d H', 0 ≤ d → d ≤ most → PoolAt H' p → Exc p H H' → Q (.int d) H'
def sp__law_row : SpT := fun K mg vs H Q E => ∃ (p : Addr) (most : Int), vs = [.ref p, .int most] ∧ 0 ≤ most ∧ most ≤ 1000 ∧ PoolAt H p ∧ ∀ (r : Addr) (ns : List Int) H', H r = none → (ns.length : Int) ≤ most → H' r = some (.tup (ns.map V.int)) → PoolAt H' p → Exc p H H' → Q (.ref r) H'
def sp__law_low : SpT := fun K mg vs H Q E => ∃ (r : Addr) (ns : List Int) (a c : Nat), vs = [.ref r, .int a, .int ((a + c : Nat) : Int)] ∧ SqT K H r (ns.map V.int) ∧ a + c < ns.length ∧ ns.length ≤ 1000 ∧ Q (.int (lowF (nth ns) a c : Nat)) H

def sp_lesser : SpT := fun K mg vs H Q E => ∃ (r : Addr) (ns : List Int) (i j : Nat), vs = [.ref r, .int i, .int j] ∧ (SqL K H r (ns.map V.int) ∨ SqT K H r (ns.map V.int)) ∧ i < ns.length ∧ j < ns.length ∧ Q (.int ((if nth ns j < nth ns i then j else i : Nat) : Int)) H
def sp_next_rung : SpT := fun K mg vs H Q E => ∃ (r g : Addr) (ns : List Int) (k : Nat), vs = [.ref r, .ref g, .int ((2 ^ k : Nat) : Int)] ∧ (SqL K H r (ns.map V.int) ∨ SqT K H r (ns.map V.int)) ∧ H g = some (.lst ((rungF ns k).map V.int)) ∧ 2 ^ k ≤ ns.length ∧ ns.length ≤ 1000 ∧
  ∀ l H', H l = none → Same H H' → H' l = some (.lst ((rungF ns (k + 1)).map V.int)) → Q (.ref l) H'
def sp_ladder_of : SpT := fun K mg vs H Q E => ∃ (r : Addr) (ns : List Int), vs = [.ref r] ∧ (SqL K H r (ns.map V.int) ∨ SqT K H r (ns.map V.int)) ∧ ns.length ≤ 1000 ∧
  ∀ l H' i, Tall ns.length i → Same H H' → RowsN H H' l (ladF ns i) → Q (.ref l) H'

def sp__law_ladder : SpT := fun K mg vs H Q E => ∃ (r : Addr) (ns : List Int), vs = [.ref r] ∧ SqT K H r (ns.map V.int) ∧ ns.length ≤ 1000 ∧
  ∀ l H' i, Tall ns.length i → Same H H' → RowsN H H' l (ladF ns i) → Q (.ref l) H'

def sp_ladder_right : SpT := fun K mg vs H Q E => ∃ (r lv : Addr) (ns : List Int) (rs : List (List Int)), vs = [.ref r, .ref lv] ∧ (SqL K H r (ns.map V.int) ∨ SqT K H r (ns.map V.int)) ∧ IsQ K H (IsQ K H IsI) (.ref lv) rs ∧ ns.length ≤ 1000 ∧ rs.length ≤ 1000 ∧ ∀ (i : Nat) (b : Bool) H', Tall ns.length i → b = decide (rs = ladF ns i) → Same H H' → Q (.bl b) H'
def sp__law_bent : SpT := fun K mg vs H Q E => ∃ (p r m : Addr) (ns : List Int) (rs : List (List Int)) (B : Nat), vs = [.ref p, .ref r, .ref m] ∧ PoolAt H p ∧ H r = some (.tup (ns.map V.int)) ∧ ns.length ≤ 1000 ∧ Rows H m rs ∧ rs.length ≤ B ∧ (∀ x ∈ rs, x.length ≤ B) ∧ B ≤ 900 ∧ ∀ (l : Addr) (as : List Addr) H', RA H H' l as (B + 1) → as.length ≤ B + 1 → PoolAt H' p → Exc p H H' → Q (.ref l) H'

section
variable {P : Program} {w : World} {K : PySem.W.Frag} {mg : Str → Option Value} {base : Heap}
theorem sc_lesser : FnScope ["row", "one", "other"] ["row", "one", "other"] (defScope s_lesser) := ⟨rfl, rfl, rfl, by decide +kernel, rfl, by decide +kernel, by decide +kernel⟩
theorem sc_next_rung : FnScope ["row", "rung", "width"] ["row", "rung", "width"] (defScope s_next_rung) := ⟨rfl, rfl, rfl, by decide +kernel, rfl, by decide +kernel, by decide +kernel⟩
theorem sc_ladder_of : FnScope ["row", "ladder", "rung", "width"] ["row"] (defScope s_ladder_of) := ⟨rfl, rfl, rfl, by decide +kernel, rfl, by decide +kernel, by decide +kernel⟩
theorem sc_ladder_right : FnScope ["row", "ladder"] ["row", "ladder"] (defScope s_ladder_right) := ⟨rfl, rfl, rfl, by decide +kernel, rfl, by decide +kernel, by decide +kernel⟩
theorem sc__law_pool : FnScope ["script", "k", "cell"] ["script", "k"] (defScope s__law_pool) := ⟨rfl, rfl, rfl, by decide +kernel, rfl, by decide +kernel, by decide +kernel⟩
theorem sc__law_pick : FnScope ["pool", "many", "digit"] ["pool", "many"] (defScope s__law_pick) := ⟨rfl, rfl, rfl, by decide +kernel, rfl, by decide +kernel, by decide +kernel⟩
theorem sc__law_size : FnScope ["pool", "most"] ["pool", "most"] (defScope s__law_size) := ⟨rfl, rfl, rfl, by decide +kernel, rfl, by decide +kernel, by decide +kernel⟩
theorem sc__law_row : FnScope ["pool", "most", "many", "way", "found", "k", "number", "some"] ["pool", "most"] (defScope s__law_row) := ⟨rfl, rfl, rfl, by decide +kernel, rfl, by decide +kernel, by decide +kernel⟩
theorem sc__law_low : FnScope ["row", "a", "b", "best", "place"] ["row", "a", "b"] (defScope s__law_low) := ⟨rfl, rfl, rfl, by decide +kernel, rfl, by decide +kernel, by decide +kernel⟩
theorem sc__law_ladder : FnScope ["row", "found", "wide"] ["row"] (defScope s__law_ladder) := ⟨rfl, rfl, rfl, by decide +kernel, rfl, by decide +kernel, by decide +kernel⟩
theorem sc__law_bent : FnScope ["pool", "row", "ladder", "made", "way", "at", "other", "spot", "place", "alike", "some"] ["pool", "row", "ladder"] (defScope s__law_bent) := ⟨rfl, rfl, rfl, by decide +kernel, rfl, by decide +kernel, by decide +kernel⟩
theorem sc_law : FnScope ["script", "k", "pool", "row", "due", "made", "turn", "lists", "ladder", "found"] ["script"] (defScope s_law) := ⟨rfl, rfl, rfl, by decide +kernel, rfl, by decide +kernel, by decide +kernel⟩
theorem ok__law_pool {f : Addr} {fd : FuncData} (F : Fun K "_law_pool" "_law_pool" s__law_pool f fd)  (T : Txt K mg) : FnOk P w K mg base (CXE P w) 1 f fd ["script", "k"] (sp__law_pool K mg) := by
  refine F.okX sc__law_pool (fun vs H Q E h => ?_) (fun cdv A outer s H vs Q E hr h => ?_)
  · obtain ⟨n, k, _, rfl, _⟩ := h; rfl
  obtain ⟨a, ns, k, rfl, hS, h0, h1, k1⟩ := h
  refine ⟨_, (pss_cons (ps_set (i := 2) sc__law_pool.nd rfl (Or.inl rfl) pe_int)
      (pss_cons (ps_if (pt_cmpR op_lt (pv 1) (pe_callB (call_lenK (K := K) rfl) rfl T.b_len PySem.boot_len (pa_cons (pv 0) pa_nil)) (nomark _)) (pss_one (ps_set (i := 2) sc__law_pool.nd rfl (Or.inl rfl) (pe_op op_mod (pe_ix ix_list (pv 0) (pv 1) (fun _ _ => rfl)) (pe_op op_mulX (pe_op op_mulX (pe_op op_mulX (pe_op op_pow pe_int pe_int) (pe_op op_pow pe_int pe_int)) (pe_op op_pow pe_int pe_int)) (pe_op op_pow pe_int pe_int))))) pss_nil)
      (pss_one (ps_ret (pe_lst (pa_cons (pe_callB (call_max2 rfl) rfl T.b_max bt_max (pa_cons pe_int (pa_cons (pe_op op_sub (pv 2) (pe_op op_pow pe_int pe_int)) pa_nil))) (pa_cons (pe_op op_mod (pe_op op_mulX (pe_op op_add (pe_op op_add (pe_op op_mod (pv 2) pe_int) (pe_op op_mulX pe_int (pv 1))) pe_int) pe_int) pe_int) pa_nil))))))), ?_⟩
  simp only [tIfS, tNot, tTest, tChain, rI0, rI, rU, tVar, tC, tB, tIf, tAndV, tOrV, tNotV, tCall, tCallX, tCons, tNil, tAsg, tSeq, tRet, tNext, tOp, tUn, tAnd, tOr, tDrop, gName, gSub, tAug, tCB, tSl, tRaise, tLst, tTup, L2.start, tYes, gTup, gCons, gNil, iniC, Option.join_some, Option.join_none, rEq, rNe, scal_ii, scal_bb, scal_ss, scal_nn, scal_ni, scal_in, tBM, Bool.true_eq_false, List.map_cons, List.map_nil, List.cons_append, List.nil_append, List.length_cons, List.length_nil, List.replicate, List.append_nil, List.set_cons_zero, List.set_cons_succ, List.getElem?_cons_zero, List.getElem?_cons_succ, Option.some.injEq, V.int.injEq, V.bl.injEq, V.ref.injEq, List.cons.injEq, and_true, true_and, exists_eq_left, exists_eq_left', exists_and_left, exists_eq, decide_eq_true_eq, Bool.not_eq_true', decide_eq_false_iff_not, cxK, and_assoc, Bool.false_eq_true, ↓reduceIte, tFor_eq, tWhile_eq, tComp_eq, iRng1, iRng2, iList, iTup, iZip, iRev, rIxL, rIxT, rSetL, rCat, rIsi, rSum, rCount, tDelT, rPop, rIntB, tPar, rInsert, rIndex, rLen, rLof, rTof, tChain3, rBits, iSeq, tBM0, rEqD, tRngV, rLstR, tRngV2, rLstR2, rIn, gSubSl, rSlQ, iEnum, iEnumT, rInD, tMaxDT, tMaxD, tMinD, rIndexF, rSorted, rOr, rAll, rAny, ipM, rIxQ, tRev, rSlL, tPart, tNoPart, tSl, ipI, rAppend, rRep, cOf_ref, cOf_ty, rTupR2, rPopAt, iZipQ, rExtend, cp64, cp18, pm1, pm2, pm3, pm4, pm5, pm6, pm7]
  refine ⟨ns.map V.int, .inl hS, ?_⟩
  refine ite2 (fun hk => ?_) (fun _ => ?_)
  · obtain ⟨j, rfl⟩ := Int.eq_ofNat_of_zero_le h0
    have hj : j < (ns.map V.int).length := by omega
    refine ⟨_, hS, _, atI_at rfl hj, ns[j]'(by simpa using hj), by simp, mul_l (by omega) (by omega), mul_r (by omega) (by omega), fun p hp => k1 p _ hp ((Same.refl H).upd hp) ⟨_, _, upd_same, ?_, Int.emod_nonneg _ (by decide), Int.emod_lt_of_pos _ (by decide)⟩⟩
    split <;> omega
  · refine ⟨mul_l (by omega) (by omega), mul_r (by omega) (by omega), fun p hp => k1 p _ hp ((Same.refl H).upd hp) ⟨_, _, upd_same, ?_, Int.emod_nonneg _ (by decide), Int.emod_lt_of_pos _ (by decide)⟩⟩
    split <;> omega
theorem ok__law_pick {f : Addr} {fd : FuncData} (F : Fun K "_law_pick" "_law_pick" s__law_pick f fd)  (T : Txt K mg) : FnOk P w K mg base (CXE P w) 1 f fd ["pool", "many"] (sp__law_pick K mg) := by
  refine F.okX sc__law_pick (fun vs H Q E h => ?_) (fun cdv A outer s H vs Q E hr h => ?_)
  · obtain ⟨n, k, rfl, _⟩ := h; rfl
  obtain ⟨p, many, rfl, h0, h1, ⟨x, y, hp, hx, hy, hy2⟩, k1⟩ := h
  refine ⟨_, (pss_cons (ps_if (pt_cmpR op_gt (pe_ix ix_list (pv 0) pe_int (fun _ _ => rfl)) pe_int (nomark _)) (pss_cons (ps_set (i := 2) sc__law_pick.nd rfl (Or.inl rfl) (pe_op op_mod (pe_ix ix_list (pv 0) pe_int (fun _ _ => rfl)) (pv 1)))
      (pss_cons (ps_asg (pe_op op_fdiv (pe_ix ix_list (pv 0) pe_int (fun _ _ => rfl)) (pv 1)) (pg_sub (pv 0) pe_int set_list (fun _ => rfl)))
      (pss_one (ps_ret (pv 2))))) pss_nil)
      (pss_cons (ps_asg (pe_op op_mod (pe_op op_add (pe_op op_mulX (pe_ix ix_list (pv 0) pe_int (fun _ _ => rfl)) pe_int) pe_int) pe_int) (pg_sub (pv 0) pe_int set_list (fun _ => rfl)))
      (pss_one (ps_ret (pe_op op_mod (pe_op op_fdiv (pe_op op_mod (pe_op op_mulX (pe_ix ix_list (pv 0) pe_int (fun _ _ => rfl)) (pe_ix ix_list (pv 0) pe_int (fun _ _ => rfl))) pe_int) pe_int) (pv 1)))))), ?_⟩
  walk_at "rd"
  refine ⟨_, SqL.of hp, _, rfl, _, rfl, ?_⟩
  refine ite2 (fun hk => ?_) (fun _ => ?_)
  · refine ⟨_, SqL.of hp, _, rfl, _, rfl, h0, ?_⟩
    refine ⟨_, SqL.of hp, _, rfl, _, rfl, ⟨h0, by omega⟩, _, hp, _, rfl, ?_⟩
    exact k1 _ _ (Int.emod_nonneg _ (by omega)) (Int.emod_lt_of_pos _ h0) ⟨_, _, upd_same, Int.ediv_nonneg hx (by omega), hy, hy2⟩ Exc.upd
  · refine ⟨_, SqL.of hp, _, rfl, _, rfl, ?_⟩
    refine ⟨mul_r (by omega) (by omega), by decide, _, hp, _, rfl, _, SqL.of upd_same, _, rfl, _, SqL.of upd_same, _, rfl, _, rfl, _, rfl, mul_l ?_ ?_, by decide, ⟨by decide, by decide⟩, h0, ?_⟩
    · have := Int.emod_nonneg (y * 69621 + 12345) (b := 2147483647) (by decide); omega
    · have := Int.emod_lt_of_pos (y * 69621 + 12345) (b := 2147483647) (by decide); omega
    · exact k1 _ _ (Int.emod_nonneg _ (by omega)) (Int.emod_lt_of_pos _ h0) ⟨_, _, upd_same, hx, Int.emod_nonneg _ (by decide), Int.emod_lt_of_pos _ (by decide)⟩ Exc.upd
theorem ok_lesser {f : Addr} {fd : FuncData} (F : Fun K "lesser" "lesser" s_lesser f fd)  (T : Txt K mg) : FnOk P w K mg base (CXE P w) 1 f fd ["row", "one", "other"] (sp_lesser K mg) := by
  refine F.okX sc_lesser (fun vs H Q E h => ?_) (fun cdv A outer s H vs Q E hr h => ?_)
  · obtain ⟨r, ns, i, j, rfl, _⟩ := h; rfl
  obtain ⟨r, ns, i, j, rfl, hS, hi, hj, k1⟩ := h
  refine ⟨_, (pss_one (ps_ret (pe_ifExp (pt_cmpR op_lt (pe_ix (ix_q (K := K) rfl) (pv 0) (pv 2) (fun _ _ => rfl)) (pe_ix (ix_q (K := K) rfl) (pv 0) (pv 1) (fun _ _ => rfl)) (nomark _)) (pv 2) (pv 1)))), ?_⟩
  walk_at "rd"
  refine ⟨_, hS, _, nth_at hj, _, hS, _, nth_at hi, _, rfl, _, rfl, ?_⟩
  by_cases h : nth ns j < nth ns i
  · rw [if_pos h] at k1 ⊢; exact k1
  · rw [if_neg h] at k1 ⊢; exact k1
theorem ok_next_rung {f : Addr} {fd : FuncData} (F : Fun K "next_rung" "next_rung" s_next_rung f fd) (G_lesser : Callee P w K mg base "lesser" 1 ["row", "one", "other"] (sp_lesser K mg)) (T : Txt K mg) : FnOk P w K mg base (CXE P w) 2 f fd ["row", "rung", "width"] (sp_next_rung K mg) := by
  refine F.okX sc_next_rung (fun vs H Q E h => ?_) (fun cdv A outer s H vs Q E hr h => ?_)
  · obtain ⟨r, g, ns, k, rfl, _⟩ := h; rfl
  obtain ⟨r, g, ns, k, rfl, hS, hg, hk, hn, k1⟩ := h
  refine ⟨_, (pss_one (ps_ret (pe_compN ["a", "row", "rung", "width"] [none, some 0, some 1, some 2] rfl rfl rfl (pi_range1 rfl T.b_range (pa_cons (pe_op op_add (pe_op op_sub (pe_callB (call_lenK (K := K) rfl) rfl T.b_len PySem.boot_len (pa_cons (pv 0) pa_nil)) (pe_op op_mulX pe_int (pv 2))) pe_int) pa_nil)) (fun _ _ _ _ _ => (pg_name (i := 0) (show (["a", "row", "rung", "width"] : List Str).Nodup from by decide +kernel) rfl (Or.inl rfl))) (fun _ _ _ _ _ => pifs_nil) (fun _ _ _ _ _ => (pe_callF G_lesser (hr.mono (by decide)) rfl passE (pa_cons (pv 1) (pa_cons (pe_ix (r := rIxL K) ix_list (pv 2) (pv 0) (fun _ _ => rfl)) (pa_cons (pe_ix (r := rIxL K) ix_list (pv 2) (pe_op op_add (pv 0) (pv 3)) (fun _ _ => rfl)) pa_nil))))) only_name))), ?_⟩
  walk_at "rd"
  have hw : 0 < 2 ^ k := Nat.two_pow_pos k
  have e2 : 2 ^ (k + 1) = 2 * 2 ^ k := by rw [Nat.pow_succ]; omega
  have en : ((((ns.map V.int).length : Nat) : Int) - 2 * ((2 ^ k : Nat) : Int) + 1).toNat = ns.length + 1 - 2 ^ (k + 1) := by rw [List.length_map, e2]; omega
  refine ⟨_, hS, mul_l (by decide) (by decide), by rw [List.length_map]; omega, by rw [List.length_map]; omega, ?_⟩
  rw [en]
  refine comp_map (n := ns.length + 1 - 2 ^ (k + 1)) (fun a => V.int (lowF (nth ns) a (2 ^ (k + 1) - 1) : Nat)) (Nat.lt_of_le_of_lt (show _ ≤ 1001 by omega) (by decide)) (fun j Hx s hj => hj) (fun Hx s => Nat.le_refl _) ?_ ?_
  · rintro a x Hx Hy ha s ⟨rfl, rfl⟩
    walk_at "rd"
    have i1 : (0 + (a : Int)) = (a : Int) := by omega
    have i2 : ((a : Int) + ((2 ^ k : Nat) : Int)) = ((a + 2 ^ k : Nat) : Int) := by omega
    have l1 := lowF_lt (nth ns) a (2 ^ k - 1)
    have l2 := lowF_lt (nth ns) (a + 2 ^ k) (2 ^ k - 1)
    refine ⟨_, SqL.of (s _ _ hg), _, ?_, _, SqL.of (s _ _ hg), _, ?_, r, ns, lowF (nth ns) a (2 ^ k - 1), lowF (nth ns) (a + 2 ^ k) (2 ^ k - 1), rfl, s.q hS, by omega, by omega, CW.next ha ?_ s⟩
    · rw [i1]; exact rungF_at (by omega)
    · rw [i1, i2]; exact rungF_at (by omega)
    · rw [lowF_join _ _ _ hw, e2]
  · intro l' Hx s hl'
    refine k1 l' _ (s.free hl') (s.upd' hl') ?_
    rw [upd_same]; simp [rungF, Function.comp_def]
theorem ok_ladder_of {f : Addr} {fd : FuncData} (F : Fun K "ladder_of" "ladder_of" s_ladder_of f fd) (G_next_rung : Callee P w K mg base "next_rung" 2 ["row", "rung", "width"] (sp_next_rung K mg)) (T : Txt K mg) : FnOk P w K mg base (CXE P w) 3 f fd ["row"] (sp_ladder_of K mg) := by
  refine F.okX sc_ladder_of (fun vs H Q E h => ?_) (fun cdv A outer s H vs Q E hr h => ?_)
  · obtain ⟨r, ns, rfl, _⟩ := h; rfl
  obtain ⟨r, ns, rfl, hS, hn, k1⟩ := h
  refine ⟨_, (pss_cons (ps_set (i := 1) sc_ladder_of.nd rfl (Or.inl rfl) (pe_lst pa_nil))
      (pss_cons (ps_set (i := 2) sc_ladder_of.nd rfl (Or.inl rfl) (pe_callTy (call_list_rng rfl) rfl T.b_list bt_list (pa_cons (pe_range1 rfl T.b_range (pa_cons (pe_callB (call_lenK (K := K) rfl) rfl T.b_len PySem.boot_len (pa_cons (pv 0) pa_nil)) pa_nil)) pa_nil)))
      (pss_cons (ps_set (i := 3) sc_ladder_of.nd rfl (Or.inl rfl) pe_int)
      (pss_cons (ps_nox (ps_while PassesOwn.never (pt_truth (pv 2) (fun _ => rfl)) (pss_cons (ps_expr (pe_bm PySem.F.plainAttrs_list PySem.F.slot_list_append PySem.F.type_list_append mt_append (pv 1) (pa_cons (pv 2) pa_nil)))
      (pss_cons (ps_set (i := 2) sc_ladder_of.nd rfl (Or.inl rfl) (pe_callF G_next_rung (hr.mono (by decide)) rfl passE (pa_cons (pv 0) (pa_cons (pv 2) (pa_cons (pv 3) pa_nil)))))
      (pss_one (ps_aug (i := 3) sc_ladder_of.nd rfl (Or.inl rfl) pe_int ip_mul))))))
      (pss_one (ps_ret (pv 1))))))), ?_⟩
  walk_at "rd"
  refine ⟨Nat.zero_le _, fun p hp => ⟨_, ((Same.refl H).upd hp).q hS, by omega, by rw [List.length_map]; omega, fun p1 hp1 => ⟨_, upd_same, by omega, by rw [List.length_map]; omega, fun l hl => ?_⟩⟩⟩
  have s0 : Same H (upd (upd (upd H p (.lst [])) p1 (.rng 0 ((ns.map V.int).length : Nat))) l (.lst (List.map (fun (i : Nat) => V.int (i : Int)) (List.range (((ns.map V.int).length : Nat) : Int).toNat)))) := (((Same.refl H).upd hp).upd' hp1).upd' hl
  refine while_i (ns.length + 1) (fun i σ H' => ∃ g wd, σ = [some (.ref r), some (.ref p), some (.ref g), some (.int wd)] ∧ wd = ((2 ^ i : Nat) : Int) ∧ Same H H' ∧ RowsN H H' p (ladF ns i) ∧ H' g = some (.lst ((rungF ns i).map V.int)) ∧ H g = none ∧ g ≠ p ∧ ∀ j, j < i → 2 ^ j ≤ ns.length)
    ⟨l, 1, rfl, rfl, s0, ?_, ?_, ?_, ?_, fun j hj => absurd hj (by omega)⟩ ?_
  · exact (RowsN.nil hp).same (((Same.refl _).upd' hp1).upd' hl)
  · rw [upd_same]
    have : (((ns.map V.int).length : Nat) : Int).toNat = ns.length := by simp
    rw [this]
    simp [rungF, lowF, Function.comp_def]
  · exact (((Same.refl H).upd hp).upd' hp1).free hl
  · intro z
    subst z
    have := ((Same.refl _).upd' (o := .rng 0 ((ns.map V.int).length : Nat)) hp1) _ _ (upd_same (H := H) (a := l) (o := .lst []))
    rw [this] at hl; cases hl
  · rintro i σ H' hi ⟨g, wd, rfl, rfl, hs, R, hg, hgn, hgp, hj⟩
    walk_at "rd"
    have hw : i < 2 ^ i := Nat.lt_two_pow_self
    by_cases h2 : 2 ^ i ≤ ns.length
    · refine ⟨true, .inl ⟨_, SqL.of hg, ?_⟩, ?_⟩
      · have : ((rungF ns i).map V.int).length ≠ 0 := by rw [List.length_map, rungF_length]; omega
        cases e : (rungF ns i).map V.int with
        | nil => rw [e] at this; exact absurd rfl this
        | cons _ _ => rfl
      · obtain ⟨as, r1, r2, r3, r4, r5, r6⟩ := R
        have hla : as.length = i := by rw [r3]; simp [ladF]
        walk_at "rd"
        refine ⟨_, WI.next, tyV_list r1, _, r1, ?_, r, g, ns, i, rfl, ?_, ?_, h2, hn, fun g2 H2 hg2 s2 hq2 => ?_⟩
        · exact Nat.lt_of_le_of_lt (show _ ≤ 1001 by rw [List.length_map]; omega) (by decide)
        · exact (hs.upd hp).q hS
        · rw [upd_ne hgp]; exact hg
        · have RN := RowsN.push (H0 := H) (rs := ladF ns i) (r := rungF ns i) r1 r2 r3 r4 r5 r6 hg hgp hgn
          have sx : Same H (upd H' p (.lst (as.map V.ref ++ [V.ref g]))) := hs.upd hp
          walk_at "rd"
          refine ⟨mul_r (by decide) (by decide), by omega, ?_, sx.trans s2, ?_, hq2, sx.free hg2, ?_, fun j hjj => ?_⟩
          · rw [Nat.pow_succ]; simp
          · have : ladF ns (i + 1) = ladF ns i ++ [rungF ns i] := by simp [ladF, List.range_succ]
            rw [this]; exact RN.same s2
          · intro z
            subst z
            rw [upd_same] at hg2; cases hg2
          · by_cases e : j = i
            · rw [e]; exact h2
            · exact hj j (by omega)
    · refine ⟨false, .inl ⟨_, SqL.of hg, ?_⟩, ?_⟩
      · have : ((rungF ns i).map V.int).length = 0 := by rw [List.length_map, rungF_length]; omega
        rw [List.length_eq_zero_iff.mp this]; rfl
      · walk_at "rd"
        exact k1 p H' i ⟨by omega, hj⟩ hs R

theorem ok__law_size {f : Addr} {fd : FuncData} (F : Fun K "_law_size" "_law_size" s__law_size f fd) (G__law_pick : Callee P w K mg base "_law_pick" 1 ["pool", "many"] (sp__law_pick K mg)) (T : Txt K mg) : FnOk P w K mg base (CXE P w) 2 f fd ["pool", "most"] (sp__law_size K mg) := by
  refine F.okX sc__law_size (fun vs H Q E h => ?_) (fun cdv A outer s H vs Q E hr h => ?_)
  · obtain ⟨p, most, rfl, _⟩ := h; rfl
  obtain ⟨p, most, rfl, h0, h1, hP, k1⟩ := h
  refine ⟨_, (pss_one (ps_ret (pe_callB (call_min2 rfl) rfl T.b_min bt_min (pa_cons (pv 1) (pa_cons (pe_ix ix_tup (pe_tup (pa_cons (pe_callF G__law_pick (hr.mono (by decide)) rfl passE (pa_cons (pv 0) (pa_cons pe_int pa_nil))) (pa_cons (pe_callF G__law_pick (hr.mono (by decide)) rfl passE (pa_cons (pv 0) (pa_cons pe_int pa_nil))) (pa_cons (pe_callF G__law_pick (hr.mono (by decide)) rfl passE (pa_cons (pv 0) (pa_cons (pe_op op_add (pv 1) pe_int) pa_nil))) (pa_cons (pv 1) pa_nil))))) (pe_callF G__law_pick (hr.mono (by decide)) rfl passE (pa_cons (pv 0) (pa_cons pe_int pa_nil))) (fun _ _ => rfl)) pa_nil))))), ?_⟩
  walk_at "rd"
  refine ⟨p, _, rfl, by decide, by decide, hP, fun d1 H1 a1 b1 P1 e1 => ⟨p, _, rfl, by decide, by decide, P1, fun d2 H2 a2 b2 P2 e2 => ⟨p, _, rfl, by omega, by omega, P2, fun d3 H3 a3 b3 P3 e3 => ⟨by decide, fun q hq => ⟨p, _, rfl, by decide, by decide, P3.upd hq, fun d4 H4 a4 b4 P4 e4 => ?_⟩⟩⟩⟩⟩
  have hq4 := e4 q _ (P3.ne hq) upd_same
  obtain ⟨v, hv, n, rfl, hn⟩ := atI_all (xs := [V.int d1, V.int d2, V.int d3, V.int most]) (i := d4) (fun v => ∃ n : Int, v = V.int n ∧ 0 ≤ n) a4 b4 (by
    intro x hx
    simp at hx
    rcases hx with rfl | rfl | rfl | rfl <;> exact ⟨_, rfl, by assumption⟩)
  refine ⟨_, d4, rfl, SqT.of hq4, _, hv, n, rfl, k1 _ _ ?_ ?_ P4 (((e1.trans e2).trans e3).same ((Same.refl H3).upd hq) |>.trans e4)⟩
  · split <;> omega
  · split <;> omega
theorem ok__law_row {f : Addr} {fd : FuncData} (F : Fun K "_law_row" "_law_row" s__law_row f fd) (G__law_pick : Callee P w K mg base "_law_pick" 1 ["pool", "many"] (sp__law_pick K mg)) (G__law_size : Callee P w K mg base "_law_size" 2 ["pool", "most"] (sp__law_size K mg)) (T : Txt K mg) : FnOk P w K mg base (CXE P w) 3 f fd ["pool", "most"] (sp__law_row K mg) := by
  refine F.okX sc__law_row (fun vs H Q E h => ?_) (fun cdv A outer s H vs Q E hr h => ?_)
  · obtain ⟨p, most, rfl, _⟩ := h; rfl
  obtain ⟨p, most, rfl, h0, h1, hP, k1⟩ := h
  refine ⟨_, (pss_cons (ps_set (i := 2) sc__law_row.nd rfl (Or.inl rfl) (pe_callF G__law_size (hr.mono (by decide)) rfl passE (pa_cons (pv 0) (pa_cons (pv 1) pa_nil))))
      (pss_cons (ps_set (i := 3) sc__law_row.nd rfl (Or.inl rfl) (pe_callF G__law_pick (hr.mono (by decide)) rfl passE (pa_cons (pv 0) (pa_cons pe_int pa_nil))))
      (pss_cons (ps_set (i := 4) sc__law_row.nd rfl (Or.inl rfl) (pe_lst pa_nil))
      (pss_cons (ps_nox (ps_for PassesOwn.never rfl (pi_range1 rfl T.b_range (pa_cons (pv 2) pa_nil)) (pg_name (i := 5) sc__law_row.nd rfl (Or.inl rfl)) (pss_cons (ps_set (i := 6) sc__law_row.nd rfl (Or.inl rfl) (pe_callF G__law_pick (hr.mono (by decide)) rfl passE (pa_cons (pv 0) (pa_cons pe_int pa_nil))))
      (pss_cons (ps_if (pt_cmpR op_eq (pv 3) pe_int (nomark _)) (pss_one (ps_set (i := 6) sc__law_row.nd rfl (Or.inl rfl) (pe_op op_sub (pe_callF G__law_pick (hr.mono (by decide)) rfl passE (pa_cons (pv 0) (pa_cons (pe_op op_pow pe_int pe_int) pa_nil))) (pe_op op_mulX pe_int (pe_op op_pow pe_int pe_int))))) pss_nil)
      (pss_cons (ps_set (i := 7) sc__law_row.nd rfl (Or.inl rfl) (pe_lst (pa_cons (pv 6) (pa_cons (pv 6) (pa_cons (pe_op op_add (pv 5) (pe_op op_fdiv (pv 6) pe_int)) (pa_cons (pe_op op_sub (pe_op op_sub (pv 2) (pv 5)) (pe_op op_fdiv (pv 6) pe_int)) (pa_cons (pe_op op_add (pe_op op_mod (pv 5) pe_int) (pe_op op_fdiv (pv 6) pe_int)) pa_nil)))))))
      (pss_cons (ps_expr (pe_bm PySem.F.plainAttrs_list PySem.F.slot_list_append PySem.F.type_list_append mt_append (pv 7) (pa_cons (pe_op op_mulX (pe_op op_sub (pe_op op_mulX (pe_op op_fdiv (pv 6) pe_int) pe_int) pe_int) (pe_op op_add (pe_op op_pow pe_int pe_int) (pv 6))) pa_nil)))
      (pss_one (ps_expr (pe_bm PySem.F.plainAttrs_list PySem.F.slot_list_append PySem.F.type_list_append mt_append (pv 4) (pa_cons (pe_ix ix_list (pv 7) (pv 3) (fun _ _ => rfl)) pa_nil))))))))))
      (pss_one (ps_ret (pe_callTy (call_tupK (K := K) rfl) rfl T.b_tuple bt_tuple (pa_cons (pv 4) pa_nil)))))))), ?_⟩
  walk_at "rd"
  refine ⟨p, most, rfl, h0, h1, hP, fun many H1 m0 m1 P1 e1 => ⟨p, _, rfl, by decide, by decide, P1, fun way H2 w0 w1 P2 e2 => ⟨Nat.zero_le _, fun q hq => ⟨many, rfl, by omega, by omega, for_range (fun i σ H' => ∃ ns v5 v6 v7, σ = [some (.ref p), some (.int most), some (.int many), some (.int way), some (.ref q), v5, v6, v7] ∧ ns.length = i ∧ H' q = some (.lst (ns.map V.int)) ∧ PoolAt H' p ∧ Exc p H H') ⟨[], none, none, none, rfl, rfl, upd_same, P2.upd hq, (e1.trans e2).same ((Same.refl H2).upd hq)⟩ ?_ ?_⟩⟩⟩⟩
  · have hqp : q ≠ p := P2.ne hq
    have hqH : H q = none := (e1.trans e2).free hqp hq
    rintro i σ H' hi ⟨ns, v5, v6, v7, rfl, hlen, hq', P', e'⟩
    walk_at "rd"
    refine ⟨p, _, rfl, by decide, by decide, P', fun d H3 d0 d1 P3 e3 => ?_⟩
    have e8 : (10 : Int) ^ Int.toNat 8 = 100000000 := by decide
    have e9 : (10 : Int) ^ Int.toNat 9 = 1000000000 := by decide
    rw [e8, e9]
    refine ite2 (fun _ => ⟨cp9, p, _, rfl, by decide, by decide, P3, fun d2 H4 d20 d21 P4 e4 => ⟨cp8, mul_l (by decide) (by decide), _, rfl, ?_⟩⟩) (fun _ => ?_)
    case' refine_1 =>
      have hz0 : -1000000000 ≤ d2 - 5 * 100000000 := by omega
      have hz1 : d2 - 5 * 100000000 ≤ 1000000000 := by omega
      generalize d2 - 5 * 100000000 = z at hz0 hz1 ⊢
      have Pc := P4
      have ec : Exc p H' H4 := e3.trans e4
      generalize H4 = Hc at Pc ec ⊢
    case' refine_2 =>
      have hz0 : -1000000000 ≤ d := by omega
      have hz1 : d ≤ 1000000000 := by omega
      generalize d = z at hz0 hz1 ⊢
      have Pc := P3
      have ec : Exc p H' H3 := e3
      generalize H3 = Hc at Pc ec ⊢
      walk_at "rd"
    all_goals
      refine ⟨⟨by decide, by decide⟩, ⟨by decide, by decide⟩, by decide, ⟨by decide, by decide⟩, by decide, fun p1 hp1 => ?_⟩
      have hqc : Hc q = some (.lst (ns.map V.int)) := ec q _ hqp hq'
      have np : q ≠ p1 := ne_of_none hqc hp1
      have np2 : p ≠ p1 := fun z => Pc.ne hp1 z.symm
      have eH : Exc p H Hc := e'.trans ec
      have hp1H : H p1 = none := eH.free (Pc.ne hp1) hp1
      have hqc2 : ∀ o1 o2, (upd (upd Hc p1 o1) p1 o2) q = some (.lst (ns.map V.int)) := fun o1 o2 => by rw [upd_ne np, upd_ne np]; exact hqc
      obtain ⟨v, hv, y, rfl⟩ := atI_all (xs := [V.int z, V.int z, V.int (0 + (i : Int) + z / 2), V.int (many - (0 + (i : Int)) - z / 2), V.int ((0 + (i : Int)) % 5 + z / 2), V.int ((z / 2 * 2 - 1) * (10 ^ Int.toNat 59 + z))]) (i := way) (fun v => ∃ y : Int, v = V.int y) w0 w1 (by
        intro x hx
        simp at hx
        rcases hx with rfl | rfl | rfl | rfl | rfl | rfl <;> exact ⟨_, rfl⟩)
      refine ⟨tyV_list upd_same, ⟨by decide, by decide⟩, mul_r (by decide) (by decide), cp59, mul_l (by omega) (by omega), _, upd_same, by show 5 < sizeLine; decide, tyV_list (hqc2 _ _), _, SqL.of upd_same, _, hv, _, hqc2 _ _, ?_, ns ++ [y], ?_, ?_, ?_, ?_⟩
      · exact Nat.lt_of_le_of_lt (show _ ≤ 1000 by rw [List.length_map]; omega) (by decide)
      · simp [hlen]
      · rw [upd_same]; simp
      · obtain ⟨x1, y1, q1, q2⟩ := Pc
        exact ⟨x1, y1, by rw [upd_ne (fun z => hqp z.symm), upd_ne np2, upd_ne np2]; exact q1, q2⟩
      · exact ((eH.updN hp1H).updN hp1H).updN hqH
  · have hqp : q ≠ p := P2.ne hq
    have hqH : H q = none := (e1.trans e2).free hqp hq
    rintro σ H' ⟨ns, v5, v6, v7, rfl, hlen, hq', P', e'⟩
    walk_at "rd"
    exact ⟨_, .inl ⟨SqL.of hq', fun l hl => k1 l ns _ (e'.free (P'.ne hl) hl) (by omega) upd_same (P'.upd hl) (e'.same ((Same.refl H').upd hl))⟩⟩

theorem ok__law_low {f : Addr} {fd : FuncData} (F : Fun K "_law_low" "_law_low" s__law_low f fd)  (T : Txt K mg) : FnOk P w K mg base (CXE P w) 1 f fd ["row", "a", "b"] (sp__law_low K mg) := by
  refine F.okX sc__law_low (fun vs H Q E h => ?_) (fun cdv A outer s H vs Q E hr h => ?_)
  · obtain ⟨r, ns, a, c, rfl, _⟩ := h; rfl
  obtain ⟨r, ns, a, c, rfl, hS, hac, hn, k1⟩ := h
  refine ⟨_, (pss_cons (ps_set (i := 3) sc__law_low.nd rfl (Or.inl rfl) (pv 1))
      (pss_cons (ps_nox (ps_for PassesOwn.never rfl (pi_range2 rfl T.b_range (pa_cons (pe_op op_add (pv 1) pe_int) (pa_cons (pe_op op_add (pv 2) pe_int) pa_nil))) (pg_name (i := 4) sc__law_low.nd rfl (Or.inl rfl)) (pss_one (ps_if (pt_cmpR op_lt (pe_ix ix_tup (pv 0) (pv 4) (fun _ _ => rfl)) (pe_ix ix_tup (pv 0) (pv 3) (fun _ _ => rfl)) (nomark _)) (pss_one (ps_set (i := 3) sc__law_low.nd rfl (Or.inl rfl) (pv 4))) pss_nil))))
      (pss_one (ps_ret (pv 3))))), ?_⟩
  walk_at "rd"
  have en : ((((a + c : Nat) : Int) + 1) - ((a : Int) + 1)).toNat = c := by omega
  refine ⟨by omega, by omega, by omega, by omega, ?_⟩
  rw [en]
  refine for_range (fun i σ H' => ∃ v, σ = [some (.ref r), some (.int a), some (.int ((a + c : Nat) : Int)), some (.int (lowF (nth ns) a i : Nat)), v] ∧ H' = H) ⟨none, rfl, rfl⟩ ?_ ?_
  · rintro i σ H' hi ⟨v, rfl, rfl⟩
    have l1 := lowF_lt (nth ns) a i
    have ei : ((a : Int) + 1 + (i : Int)) = ((a + i + 1 : Nat) : Int) := by omega
    rw [ei]
    walk_at "rd"
    refine ⟨_, hS, _, nth_at (by omega), _, hS, _, nth_at (by omega), _, rfl, _, rfl, ?_⟩
    by_cases h : nth ns (a + i + 1) < nth ns (lowF (nth ns) a i)
    · rw [if_pos h]; simp [lowF, h]
    · rw [if_neg h]; simp [lowF, h]
  · rintro σ H' ⟨v, rfl, rfl⟩
    walk_at "rd"
    exact k1

theorem ok__law_ladder {f : Addr} {fd : FuncData} (F : Fun K "_law_ladder" "_law_ladder" s__law_ladder f fd) (G__law_low : Callee P w K mg base "_law_low" 1 ["row", "a", "b"] (sp__law_low K mg)) (T : Txt K mg) : FnOk P w K mg base (CXE P w) 2 f fd ["row"] (sp__law_ladder K mg) := by
  refine F.okX sc__law_ladder (fun vs H Q E h => ?_) (fun cdv A outer s H vs Q E hr h => ?_)
  · obtain ⟨r, ns, rfl, _⟩ := h; rfl
  obtain ⟨r, ns, rfl, hS, hn, k1⟩ := h
  refine ⟨_, (pss_cons (ps_set (i := 1) sc__law_ladder.nd rfl (Or.inl rfl) (pe_lst pa_nil))
      (pss_cons (ps_set (i := 2) sc__law_ladder.nd rfl (Or.inr rfl) pe_int)
      (pss_cons (ps_nox (ps_while PassesOwn.never (pt_cmpR op_le (pv 2) (pe_callB (call_lenK (K := K) rfl) rfl T.b_len PySem.boot_len (pa_cons (pv 0) pa_nil)) (nomark _)) (pss_cons (ps_expr (pe_bm PySem.F.plainAttrs_list PySem.F.slot_list_append PySem.F.type_list_append mt_append (pv 1) (pa_cons (pe_compN ["a", "row", "wide"] [none, some 0, some 2] rfl rfl rfl (pi_range1 rfl T.b_range (pa_cons (pe_op op_add (pe_op op_sub (pe_callB (call_lenK (K := K) rfl) rfl T.b_len PySem.boot_len (pa_cons (pv 0) pa_nil)) (pv 2)) pe_int) pa_nil)) (fun _ _ _ _ _ => (pg_name (i := 0) (show (["a", "row", "wide"] : List Str).Nodup from by decide +kernel) rfl (Or.inl rfl))) (fun _ _ _ _ _ => pifs_nil) (fun _ _ _ _ _ => (pe_callF G__law_low (hr.mono (by decide)) rfl passE (pa_cons (pv 1) (pa_cons (pv 0) (pa_cons (pe_op op_sub (pe_op op_add (pv 0) (pv 2)) pe_int) pa_nil))))) only_name) pa_nil)))
      (pss_one (ps_set (i := 2) sc__law_ladder.nd rfl (Or.inr rfl) (pe_op op_mulX pe_int (pv 2)))))))
      (pss_one (ps_ret (pv 1)))))), ?_⟩
  walk_at "rd"
  refine ⟨Nat.zero_le _, fun p hp => while_i (ns.length + 1) (fun i σ H' => ∃ wd, σ = [some (.ref r), some (.ref p), some (.int wd)] ∧ wd = ((2 ^ i : Nat) : Int) ∧ Same H H' ∧ RowsN H H' p (ladF ns i) ∧ ∀ j, j < i → 2 ^ j ≤ ns.length)
    ⟨1, rfl, rfl, (Same.refl H).upd hp, RowsN.nil hp, fun j hj => absurd hj (by omega)⟩ ?_⟩
  rintro i σ H' hi ⟨wd, rfl, rfl, hs, R, hj⟩
  walk_at "rd"
  have hw : i < 2 ^ i := Nat.lt_two_pow_self
  have hw0 : 0 < 2 ^ i := Nat.two_pow_pos i
  refine ⟨_, .inr (hs.seqT hS), ?_⟩
  rw [List.length_map]
  by_cases h2 : 2 ^ i ≤ ns.length
  · rw [if_pos (by omega)]
    obtain ⟨as, r1, r2, r3, r4, r5, r6⟩ := R
    have hla : as.length = i := by rw [r3]; simp [ladF]
    have en : ((ns.length : Int) - ((2 ^ i : Nat) : Int) + 1).toNat = ns.length + 1 - 2 ^ i := by omega
    refine ⟨_, WI.next, tyV_list r1, _, .inr (hs.seqT hS), by rw [List.length_map]; omega, by rw [List.length_map]; omega, ?_⟩
    rw [List.length_map, en]
    refine comp_map (n := ns.length + 1 - 2 ^ i) (fun a => V.int (lowF (nth ns) a (2 ^ i - 1) : Nat)) (Nat.lt_of_le_of_lt (show _ ≤ 1001 by omega) (by decide)) (fun j Hx s hj => hj) (fun Hx s => Nat.le_refl _) ?_ ?_
    · rintro a x Hx Hy ha s ⟨rfl, rfl⟩
      walk_at "rd"
      refine ⟨r, ns, a, 2 ^ i - 1, ?_, (hs.trans s).seqT hS, by omega, hn, CW.next ha rfl s⟩
      have i1 : (0 + (a : Int)) = (a : Int) := by omega
      have i2 : ((a : Int) + ((2 ^ i : Nat) : Int) - 1) = ((a + (2 ^ i - 1) : Nat) : Int) := by omega
      rw [i1, i2]
    · intro l' Hx s hl'
      have e5 : (List.range (ns.length + 1 - 2 ^ i)).map (fun a => V.int (lowF (nth ns) a (2 ^ i - 1) : Nat)) = (rungF ns i).map V.int := by simp [rungF, Function.comp_def]
      rw [e5]
      have sx : Same H' (upd Hx l' (.lst ((rungF ns i).map V.int))) := s.upd' hl'
      have RN := RowsN.push (H0 := H) (p := l') (rs := ladF ns i) (r := rungF ns i) (sx _ _ r1) r2 r3 (fun j h1 h2 => sx _ _ (r4 j h1 h2)) r5 r6 upd_same (ne_of_none (s _ _ r1) hl').symm ((hs.trans s).free hl')
      walk_at "rd"
      refine ⟨_, sx _ _ r1, ?_, mul_l (by decide) (by decide), by omega, ?_, (hs.trans sx).upd hp, ?_, fun j hjj => ?_⟩
      · exact Nat.lt_of_le_of_lt (show _ ≤ 1001 by rw [List.length_map]; omega) (by decide)
      · rw [Nat.pow_succ]; omega
      · have : ladF ns (i + 1) = ladF ns i ++ [rungF ns i] := by simp [ladF, List.range_succ]
        rw [this]; exact RN
      · by_cases e : j = i
        · rw [e]; exact h2
        · exact hj j (by omega)
  · rw [if_neg (by omega)]
    exact k1 p H' i ⟨by omega, hj⟩ hs R

theorem ok_ladder_right {f : Addr} {fd : FuncData} (F : Fun K "ladder_right" "ladder_right" s_ladder_right f fd) (G_ladder_of : Callee P w K mg base "ladder_of" 3 ["row"] (sp_ladder_of K mg)) (T : Txt K mg) : FnOk P w K mg base (CXE P w) 4 f fd ["row", "ladder"] (sp_ladder_right K mg) := by
  refine F.okX sc_ladder_right (fun vs H Q E h => ?_) (fun cdv A outer s H vs Q E hr h => ?_)
  · obtain ⟨r, lv, ns, rs, rfl, _⟩ := h; rfl
  obtain ⟨r, lv, ns, rs, rfl, hS, hL, hn, hm, k1⟩ := h
  refine ⟨_, (pss_one (ps_ret (pe_cmpR (op_eqD (K := K) rfl hr) (pe_compN ["rung"] [none] rfl rfl rfl (pi_seq (K := K) rfl (pv 1)) (fun _ _ _ _ _ => (pg_name (i := 0) (show (["rung"] : List Str).Nodup from by decide +kernel) rfl (Or.inl rfl))) (fun _ _ _ _ _ => pifs_nil) (fun _ _ _ _ _ => (pe_callTy (call_listK (K := K) rfl) rfl T.b_list bt_list (pa_cons (pv 0) pa_nil))) only_name) (pe_callF G_ladder_of (hr.mono (by decide)) rfl passE (pa_cons (pv 0) pa_nil)) (nomark _)))), ?_⟩
  walk_at "rd"
  have htl : rs.length < sizeLine := Nat.lt_of_le_of_lt hm (by decide)
  refine hL.walk (R := fun J Hq => CompR J (gName 0) tYes (tCB (rLof K) (tCons (tVar 0) tNil)) [none] (fun x H1 => sp_ladder_of K mg [V.ref r] H1 (fun y H2 => ∃ a, x = V.ref a ∧ ∃ x_1, y = V.ref x_1 ∧ ∃ x_2, EqD K H2 3 x y x_2 ∧ Q (V.bl x_2) H2) E0) Hq) fun J j1 j2 j3 => comp_copy (K := K) HO.lst te_list htl j1 j2 (fun i x Ha Hb hi s y => ⟨(j3 i x Ha Hb hi s y).1, .inr ⟨(j3 i x Ha Hb hi s y).2, rfl⟩⟩) fun l3 acc3 H12 s12 _ hacc3 _ hl3 => ?_
  refine ⟨r, ns, rfl, s12.q hS, hn, fun d H3 i T3 s3 R3 => ⟨l3, rfl, d, rfl, _, eqp_lst (eqp_lst eqp_int) _ _ _ _ ((hacc3.same s3).isL (s3 _ _ hl3)) R3.rows.isL, k1 i _ _ T3 rfl (s12.trans s3)⟩⟩
theorem ok__law_bent {f : Addr} {fd : FuncData} (F : Fun K "_law_bent" "_law_bent" s__law_bent f fd) (G__law_pick : Callee P w K mg base "_law_pick" 1 ["pool", "many"] (sp__law_pick K mg)) (T : Txt K mg) : FnOk P w K mg base (CXE P w) 2 f fd ["pool", "row", "ladder"] (sp__law_bent K mg) := by
  refine F.okX sc__law_bent (fun vs H Q E h => ?_) (fun cdv A outer s H vs Q E hr h => ?_)
  · obtain ⟨p, r, m, ns, rs, B, rfl, _⟩ := h; rfl
  obtain ⟨p, r, m, ns, rs, B, rfl, hP, hr1, hn, hR, hm, hx, hB, k1⟩ := h
  refine ⟨_, (pss_cons (ps_setCN (i := 3) ["rung"] [none] sc__law_bent.nd rfl (Or.inl rfl) rfl rfl rfl (pi_list (pv 2)) (fun _ _ _ _ _ => (pg_name (i := 0) (show (["rung"] : List Str).Nodup from by decide +kernel) rfl (Or.inl rfl))) (fun _ _ _ _ _ => pifs_nil) (fun _ _ _ _ _ => (pe_callTy (call_listK (K := K) rfl) rfl T.b_list bt_list (pa_cons (pv 0) pa_nil))) only_name)
      (pss_cons (ps_set (i := 4) sc__law_bent.nd rfl (Or.inl rfl) (pe_callF G__law_pick (hr.mono (by decide)) rfl passE (pa_cons (pv 0) (pa_cons pe_int pa_nil))))
      (pss_cons (ps_set (i := 5) sc__law_bent.nd rfl (Or.inl rfl) (pe_callF G__law_pick (hr.mono (by decide)) rfl passE (pa_cons (pv 0) (pa_cons (pe_callB (call_max2 rfl) rfl T.b_max bt_max (pa_cons pe_int (pa_cons (pe_callB (call_lenK (K := K) rfl) rfl T.b_len PySem.boot_len (pa_cons (pv 3) pa_nil)) pa_nil))) pa_nil))))
      (pss_cons (ps_set (i := 6) sc__law_bent.nd rfl (Or.inl rfl) (pe_callF G__law_pick (hr.mono (by decide)) rfl passE (pa_cons (pv 0) (pa_cons (pe_callB (call_max2 rfl) rfl T.b_max bt_max (pa_cons pe_int (pa_cons (pe_callB (call_lenK (K := K) rfl) rfl T.b_len PySem.boot_len (pa_cons (pv 3) pa_nil)) pa_nil))) pa_nil))))
      (pss_cons (ps_if (PW.pt (pw_or (pt_cmpR op_eq (pv 4) pe_int (nomark _)) (pw_or1 (pt_cmpR (op_eqD (K := K) rfl hr) (pv 3) (pe_lst pa_nil) (nomark _))))) (pss_one (ps_ret (pe_ix ix_list (pe_lst (pa_cons (pv 3) (pa_cons (pe_op op_cat (pv 3) (pe_lst (pa_cons (pe_lst pa_nil) pa_nil))) (pa_cons (pe_op op_cat (pv 3) (pe_lst (pa_cons (pe_lst (pa_cons pe_int pa_nil)) pa_nil))) pa_nil)))) (pe_callF G__law_pick (hr.mono (by decide)) rfl passE (pa_cons (pv 0) (pa_cons pe_int pa_nil))) (fun _ _ => rfl)))) pss_nil)
      (pss_cons (ps_if (pt_cmpR op_eq (pv 4) pe_int (nomark _)) (pss_one (ps_expr (pe_bm PySem.F.plainAttrs_list PySem.F.slot_list_pop PySem.F.type_list_pop mt_popAt (pv 3) (pa_cons (pv 5) pa_nil)))) pss_nil)
      (pss_cons (ps_if (pt_cmpR op_eq (pv 4) pe_int (nomark _)) (pss_one (ps_expr (pe_bm PySem.F.plainAttrs_list PySem.F.slot_list_insert PySem.F.type_list_insert mt_insert (pv 3) (pa_cons (pv 5) (pa_cons (pe_callTy (call_listK (K := K) rfl) rfl T.b_list bt_list (pa_cons (pe_ix ix_list (pv 3) (pv 6) (fun _ _ => rfl)) pa_nil)) pa_nil))))) pss_nil)
      (pss_cons (ps_if (pt_cmpR op_eq (pv 4) pe_int (nomark _)) (pss_one (ps_asg (pe_tup (pa_cons (pe_ix ix_list (pv 3) (pv 6) (fun _ _ => rfl)) (pa_cons (pe_ix ix_list (pv 3) (pv 5) (fun _ _ => rfl)) pa_nil))) (pg_tup (n := 2) rfl (pgs_cons (pg_sub (pv 3) (pv 5) set_list (fun _ => rfl)) (pgs_cons (pg_sub (pv 3) (pv 6) set_list (fun _ => rfl)) pgs_nil))))) pss_nil)
      (pss_cons (ps_if (PW.pt (pw_and (pt_cmpR op_gt (pv 4) pe_int (nomark _)) (pw_and1 (pt_cmpR (op_neD (K := K) rfl hr) (pe_ix ix_list (pv 3) (pv 5) (fun _ _ => rfl)) (pe_lst pa_nil) (nomark _))))) (pss_cons (ps_set (i := 7) sc__law_bent.nd rfl (Or.inl rfl) (pe_callF G__law_pick (hr.mono (by decide)) rfl passE (pa_cons (pv 0) (pa_cons (pe_callB (call_lenK (K := K) rfl) rfl T.b_len PySem.boot_len (pa_cons (pe_ix ix_list (pv 3) (pv 5) (fun _ _ => rfl)) pa_nil)) pa_nil))))
      (pss_cons (ps_set (i := 8) sc__law_bent.nd rfl (Or.inr rfl) (pe_ix ix_list (pe_ix ix_list (pv 3) (pv 5) (fun _ _ => rfl)) (pv 7) (fun _ _ => rfl)))
      (pss_cons (ps_set (i := 9) sc__law_bent.nd rfl (Or.inl rfl) (pe_op op_cat (pe_compN ["k", "place", "row"] [none, some 8, some 1] rfl rfl rfl (pi_range1 rfl T.b_range (pa_cons (pe_callB (call_lenK (K := K) rfl) rfl T.b_len PySem.boot_len (pa_cons (pv 1) pa_nil)) pa_nil)) (fun _ _ _ _ _ => (pg_name (i := 0) (show (["k", "place", "row"] : List Str).Nodup from by decide +kernel) rfl (Or.inl rfl))) (fun _ _ _ _ _ => pifs_one (PW.pt (pw_and (pt_chain op_le op_lt pe_int (pv 1) (pe_callB (call_lenK (K := K) rfl) rfl T.b_len PySem.boot_len (pa_cons (pv 2) pa_nil))) (pw_and1 (pt_cmpR op_eq (pe_ix (r := rIxT K) ix_tup (pv 2) (pv 0) (fun _ _ => rfl)) (pe_ix (r := rIxT K) ix_tup (pv 2) (pv 1) (fun _ _ => rfl)) (nomark _)))))) (fun _ _ _ _ _ => (pv 0)) only_name) (pe_lst (pa_cons (pv 8) pa_nil))))
      (pss_cons (ps_set (i := 10) sc__law_bent.nd rfl (Or.inl rfl) (pe_lst (pa_cons (pe_op op_add (pv 8) pe_int) (pa_cons (pe_op op_sub (pv 8) pe_int) (pa_cons (pe_ix ix_list (pv 9) (pe_callF G__law_pick (hr.mono (by decide)) rfl passE (pa_cons (pv 0) (pa_cons (pe_callB (call_lenK (K := K) rfl) rfl T.b_len PySem.boot_len (pa_cons (pv 9) pa_nil)) pa_nil))) (fun _ _ => rfl)) (pa_cons (pe_op op_pow pe_int pe_int) (pa_cons (pe_un un_neg pe_int) (pa_cons (pe_op op_sub (pv 8) (pe_callB (call_lenK (K := K) rfl) rfl T.b_len PySem.boot_len (pa_cons (pv 1) pa_nil))) pa_nil))))))))
      (pss_cons (ps_asg (pe_ix ix_list (pv 10) (pe_callF G__law_pick (hr.mono (by decide)) rfl passE (pa_cons (pv 0) (pa_cons pe_int pa_nil))) (fun _ _ => rfl)) (pg_sub (pe_ix ix_list (pv 3) (pv 5) (fun _ _ => rfl)) (pv 7) set_list (fun _ => rfl)))
      (pss_cons (ps_if (pt_cmpR op_eq (pv 4) pe_int (nomark _)) (pss_one (ps_expr (pe_bm PySem.F.plainAttrs_list PySem.F.slot_list_pop PySem.F.type_list_pop mt_popAt (pe_ix ix_list (pv 3) (pv 5) (fun _ _ => rfl)) (pa_cons (pv 7) pa_nil)))) pss_nil)
      (pss_one (ps_if (pt_cmpR op_eq (pv 4) pe_int (nomark _)) (pss_one (ps_expr (pe_bm PySem.F.plainAttrs_list PySem.F.slot_list_insert PySem.F.type_list_insert mt_insert (pe_ix ix_list (pv 3) (pv 5) (fun _ _ => rfl)) (pa_cons (pv 7) (pa_cons (pv 8) pa_nil))))) pss_nil)))))))) pss_nil)
      (pss_one (ps_ret (pv 3)))))))))))), ?_⟩
  have zp : H p ≠ none := hP.some
  have nrp : r ≠ p := fun z => by
    obtain ⟨x, y, e, _⟩ := hP
    rw [← z, hr1] at e; cases e
  have eR : (ns.map V.int).length = ns.length := List.length_map ..
  refine seqR (fun σ Hy => ∃ (l : Addr) (as : List Addr), σ = [some (.ref p), some (.ref r), some (.ref m), some (.ref l), none, none, none, none, none, none, none] ∧ RA H Hy l as B ∧ as.length ≤ B ∧ PoolAt Hy p ∧ Exc p H Hy) (fun R hR' => ?_) ?_
  · walk_at "rd"
    obtain ⟨as0, ra1, _⟩ := id hR
    refine ⟨⟨_, SqL.of ra1⟩, ?_⟩
    obtain ⟨w1, w2, w3⟩ := hR.walk (K := K)
    refine comp_copy (K := K) HO.lst te_list (Nat.lt_of_le_of_lt (show _ ≤ 1000 by omega) (by decide)) w1 w2 (fun i x Ha Hb hi s y => ⟨(w3 i x Ha Hb hi s y).1, .inl (w3 i x Ha Hb hi s y).2⟩) fun lv acc H4 s4 hlv hacc hfr hlv4 => ?_
    obtain ⟨as, rfl, hl, hA⟩ := RA.copy hacc hfr hlv4 hlv hx
    exact hR' _ _ ⟨lv, as, rfl, hA, by omega, hP.same s4, s4.toExc⟩
  rintro σ H1 ⟨l, as, rfl, hA, hl, P1, e1⟩
  have zl := hA.2.2.1
  have nlp : l ≠ p := hP.ne zl
  refine seqR (fun σ Hy => ∃ (wy : Int), σ = [some (.ref p), some (.ref r), some (.ref m), some (.ref l), some (.int wy), none, none, none, none, none, none] ∧ RA H Hy l as B ∧ PoolAt Hy p ∧ Exc p H Hy) (fun R hR' => ?_) ?_
  · walk_at "rd"
    exact ⟨p, _, rfl, by decide, by decide, P1, fun d H2 d0 d1 P2 e2 => hR' _ _ ⟨d, rfl, hA.exc e2 zp, P2, e1.trans e2⟩⟩
  clear hA P1 e1 H1
  rintro σ H1 ⟨wy, rfl, hA, P1, e1⟩
  have eA : (as.map V.ref).length = as.length := List.length_map ..
  refine seqR (fun σ Hy => ∃ (i : Nat), σ = [some (.ref p), some (.ref r), some (.ref m), some (.ref l), some (.int wy), some (.int (i : Int)), none, none, none, none, none] ∧ (0 < as.length → i < as.length) ∧ RA H Hy l as B ∧ PoolAt Hy p ∧ Exc p H Hy) (fun R hR' => ?_) ?_
  · walk_at "rd"
    refine ⟨_, .inl (SqL.of hA.1), p, _, rfl, by rw [eA]; split <;> omega, by rw [eA]; split <;> omega, P1, fun d H2 d0 d1 P2 e2 => hR' _ _ ⟨d.toNat, by rw [show ((d.toNat : Nat) : Int) = d by omega], fun z => by rw [eA] at d1; split at d1 <;> omega, hA.exc e2 zp, P2, e1.trans e2⟩⟩
  clear hA P1 e1 H1
  rintro σ H1 ⟨i, rfl, hi, hA, P1, e1⟩
  refine seqR (fun σ Hy => ∃ (o : Nat), σ = [some (.ref p), some (.ref r), some (.ref m), some (.ref l), some (.int wy), some (.int (i : Int)), some (.int (o : Int)), none, none, none, none] ∧ (0 < as.length → o < as.length) ∧ RA H Hy l as B ∧ PoolAt Hy p ∧ Exc p H Hy) (fun R hR' => ?_) ?_
  · walk_at "rd"
    refine ⟨_, .inl (SqL.of hA.1), p, _, rfl, by rw [eA]; split <;> omega, by rw [eA]; split <;> omega, P1, fun d H2 d0 d1 P2 e2 => hR' _ _ ⟨d.toNat, by rw [show ((d.toNat : Nat) : Int) = d by omega], fun z => by rw [eA] at d1; split at d1 <;> omega, hA.exc e2 zp, P2, e1.trans e2⟩⟩
  clear hA P1 e1 H1
  rintro σ H1 ⟨o, rfl, ho, hA, P1, e1⟩
  refine seqR (fun σ Hy => σ = [some (.ref p), some (.ref r), some (.ref m), some (.ref l), some (.int wy), some (.int (i : Int)), some (.int (o : Int)), none, none, none, none] ∧ 0 < as.length ∧ RA H Hy l as B ∧ PoolAt Hy p ∧ Exc p H Hy) (fun R hR' => ?_) ?_
  · refine ifR (fun H2 => RA H H2 l as B ∧ PoolAt H2 p ∧ Exc p H H2) (fun H2 => 0 < as.length ∧ RA H H2 l as B ∧ PoolAt H2 p ∧ Exc p H H2) ?_ ?_ ?_
    · rintro H2 ⟨A2, P2, e2⟩
      walk_at "rd"
      refine ⟨Nat.zero_le _, fun q1 h1 => ⟨by decide, fun q2 h2 => ?_⟩⟩
      have g2 := ((Same.refl H2).upd (o := .lst []) h1).trans ((Same.refl _).upd (o := .lst [.ref q1]) h2)
      have a2 := (A2.same g2).mono (show B ≤ B + 1 by omega)
      have hq1 : (upd (upd H2 q1 (.lst [])) q2 (.lst [V.ref q1])) q1 = some (.lst (([] : List Int).map V.int)) := ((Same.refl _).upd (o := .lst [.ref q1]) h2) _ _ upd_same
      have hq2 : (upd (upd H2 q1 (.lst [])) q2 (.lst [V.ref q1])) q2 = some (.lst [V.ref q1]) := upd_same
      have zq1 : H q1 = none := e2.free (P2.ne h1) h1
      replace P2 := P2.same g2
      replace e2 := e2.same g2
      clear A2 g2 h2 h1
      generalize upd (upd H2 q1 (.lst [])) q2 (.lst [V.ref q1]) = H3 at a2 hq1 hq2 P2 e2 ⊢
      refine ⟨_, a2.1, _, hq2, Nat.le_trans (show _ ≤ 2000 by rw [eA]; simp; omega) (by decide), fun q3 h3 => ⟨by decide, fun q4 h4 => ⟨by decide, fun q5 h5 => ?_⟩⟩⟩
      have zq3 : H q3 = none := e2.free (P2.ne h3) h3
      have b3 : RA H (upd H3 q3 (.lst (as.map V.ref ++ [V.ref q1]))) q3 (as ++ [q1]) (B + 1) := by
        have e : as.map V.ref ++ [V.ref q1] = (as ++ [q1]).map V.ref := by simp
        rw [e]
        exact a2.fresh (fun b hb => by simpa using hb) hq1 zq1 (by simp) h3 zq3
      have g3 := (Same.refl H3).upd (o := .lst (as.map V.ref ++ [V.ref q1])) h3
      have g4 := (Same.refl _).upd (o := .lst [V.int 0]) h4
      have g5 := (Same.refl _).upd (o := .lst [V.ref q4]) h5
      have zq4 : H q4 = none := (e2.same g3).free ((P2.same g3).ne h4) h4
      have hq4 := g5 _ _ (upd_same (H := upd H3 q3 (.lst (as.map V.ref ++ [V.ref q1]))) (a := q4) (o := .lst [V.int 0]))
      have hq5 := upd_same (H := upd (upd H3 q3 (.lst (as.map V.ref ++ [V.ref q1]))) q4 (.lst [V.int 0])) (a := q5) (o := .lst [V.ref q4])
      replace a2 := a2.same ((g3.trans g4).trans g5)
      replace b3 := b3.same (g4.trans g5)
      replace P2 := P2.same ((g3.trans g4).trans g5)
      replace e2 := e2.same ((g3.trans g4).trans g5)
      clear g3 g4 g5 h5 h4 h3 hq1 hq2
      generalize upd (upd (upd H3 q3 (.lst (as.map V.ref ++ [V.ref q1]))) q4 (.lst [V.int 0])) q5 (.lst [V.ref q4]) = H5 at a2 b3 P2 e2 hq4 hq5 ⊢
      refine ⟨_, a2.1, _, hq5, Nat.le_trans (show _ ≤ 2000 by rw [eA]; simp; omega) (by decide), fun q6 h6 => ⟨by decide, fun q7 h7 => ?_⟩⟩
      have zq6 : H q6 = none := e2.free (P2.ne h6) h6
      have c6 : RA H (upd H5 q6 (.lst (as.map V.ref ++ [V.ref q4]))) q6 (as ++ [q4]) (B + 1) := by
        have e : as.map V.ref ++ [V.ref q4] = (as ++ [q4]).map V.ref := by simp
        rw [e]
        exact a2.fresh (ns := [0]) (fun b hb => by simpa using hb) hq4 zq4 (by simp) h6 zq6
      have g6 := (Same.refl H5).upd (o := .lst (as.map V.ref ++ [V.ref q4])) h6
      have g7 := (Same.refl _).upd (o := .lst [V.ref l, V.ref q3, V.ref q6]) h7
      have hq7 := upd_same (H := upd H5 q6 (.lst (as.map V.ref ++ [V.ref q4]))) (a := q7) (o := .lst [V.ref l, V.ref q3, V.ref q6])
      have zq7 : q7 ≠ p := (P2.same g6).ne h7
      replace a2 := a2.same (g6.trans g7)
      replace b3 := b3.same (g6.trans g7)
      replace c6 := c6.same g7
      replace P2 := P2.same (g6.trans g7)
      replace e2 := e2.same (g6.trans g7)
      clear g6 g7 h7 h6 hq4 hq5
      generalize upd (upd H5 q6 (.lst (as.map V.ref ++ [V.ref q4]))) q7 (.lst [V.ref l, V.ref q3, V.ref q6]) = H7 at a2 b3 c6 P2 e2 hq7 ⊢
      refine ⟨p, _, rfl, by decide, by decide, P2, fun d H9 d0 d1 P9 e9 => ?_⟩
      obtain ⟨v, hv, u, bs, rfl, hu, hbs⟩ := atI_all (xs := [V.ref l, V.ref q3, V.ref q6]) (i := d) (fun v => ∃ (u : Addr) (bs : List Addr), v = V.ref u ∧ RA H H9 u bs (B + 1) ∧ bs.length ≤ B + 1) d0 d1 (by
        intro x hx
        simp only [List.mem_cons, List.not_mem_nil, or_false] at hx
        rcases hx with rfl | rfl | rfl
        · exact ⟨_, _, rfl, a2.exc e9 zp, by omega⟩
        · exact ⟨_, _, rfl, b3.exc e9 zp, by simp; omega⟩
        · exact ⟨_, _, rfl, c6.exc e9 zp, by simp; omega⟩)
      exact ⟨_, d, rfl, SqL.of (e9 _ _ zq7 hq7), _, hv, k1 u bs _ hu hbs P9 (e2.trans e9)⟩
    · rintro H2 ⟨h0, A2, P2, e2⟩
      walk_at "rd"
      exact hR' _ _ ⟨rfl, h0, A2, P2, e2⟩
    · intro B' hT hU
      walk_at "rd"
      refine ite2 (fun _ => hT _ ⟨hA, P1, e1⟩) fun _ => ⟨Nat.zero_le _, fun q hq => ?_⟩
      have g := (Same.refl H1).upd (o := .lst []) hq
      obtain ⟨rs', hr', hl', _⟩ := (hA.same g).rows
      refine ⟨_, eqp_lst (eqp_lst eqp_int) _ _ rs' [] hr'.isL (isL_nil upd_same), ?_⟩
      by_cases z : rs' = []
      · rw [decide_eq_true z]; exact hT _ ⟨hA.same g, P1.same g, e1.same g⟩
      · rw [decide_eq_false z]
        have : 0 < rs'.length := List.length_pos_iff.mpr z
        exact hU _ ⟨by omega, hA.same g, P1.same g, e1.same g⟩
  clear hA P1 e1 H1
  rintro σ H1 ⟨rfl, h0, hA, P1, e1⟩
  replace hi := hi h0
  replace ho := ho h0
  refine seqR (fun σ Hy => ∃ as : List Addr, σ = [some (.ref p), some (.ref r), some (.ref m), some (.ref l), some (.int wy), some (.int (i : Int)), some (.int (o : Int)), none, none, none, none] ∧ as.length ≤ B ∧ (wy ≠ 1 → i < as.length ∧ o < as.length) ∧ RA H Hy l as B ∧ PoolAt Hy p ∧ Exc p H Hy) (fun R hR' => ?_) ?_
  · walk_at "rd"
    refine ite2 (fun z => ⟨tyV_list hA.1, _, hA.1, by omega, by omega, i, seqIx (by rw [eA]; omega), _, List.getElem?_eq_getElem (by rw [eA]; omega), hR' _ _ ⟨as.eraseIdx i, rfl, by rw [List.length_eraseIdx_of_lt hi]; omega, fun y => absurd z y, ?_, P1.updN nlp, e1.updN zl⟩⟩) fun z => hR' _ _ ⟨as, rfl, hl, fun _ => ⟨hi, ho⟩, hA, P1, e1⟩
    have e : (as.map V.ref).eraseIdx i = (as.eraseIdx i).map V.ref := by simp [List.eraseIdx_eq_take_drop_succ]
    rw [e]
    exact hA.outer fun b hb => List.mem_of_mem_eraseIdx hb
  clear hA P1 e1 H1 hi ho h0 hl eA as
  rintro σ H1 ⟨as, rfl, hl, hio, hA, P1, e1⟩
  have eA : (as.map V.ref).length = as.length := List.length_map ..
  refine seqR (fun σ Hy => ∃ as : List Addr, σ = [some (.ref p), some (.ref r), some (.ref m), some (.ref l), some (.int wy), some (.int (i : Int)), some (.int (o : Int)), none, none, none, none] ∧ as.length ≤ B + 1 ∧ (wy ≠ 1 → i < as.length ∧ o < as.length) ∧ RA H Hy l as B ∧ PoolAt Hy p ∧ Exc p H Hy) (fun R hR' => ?_) ?_
  · walk_at "rd"
    refine ite2 (fun z => ?_) fun z => hR' _ _ ⟨as, rfl, by omega, hio, hA, P1, e1⟩
    obtain ⟨hi, ho⟩ := hio (by omega)
    obtain ⟨a, xs, ha, ha2, ha3, ha4, ha5, ha6, ha7⟩ := hA.at ho
    refine ⟨tyV_list hA.1, _, SqL.of hA.1, _, ha3, a, rfl, _, .inl (SqL.of ha4), fun q hq => ?_⟩
    have g := (Same.refl H1).upd (o := .lst (xs.map V.int)) hq
    refine ⟨_, g _ _ hA.1, by omega, by omega, Nat.lt_of_le_of_lt (show _ ≤ 1000 by rw [eA]; omega) (by decide), hR' _ _ ⟨as.take i ++ q :: as.drop i, rfl, by simp; omega, fun _ => by simp; omega, ?_, (P1.upd hq).updN nlp, (e1.same g).updN zl⟩⟩
    have e : List.take ((i : Int)).toNat (as.map V.ref) ++ V.ref q :: List.drop ((i : Int)).toNat (as.map V.ref) = (as.take i ++ q :: as.drop i).map V.ref := by simp
    rw [e]
    refine (hA.same g).more (fun b hb => ?_) upd_same (e1.free (P1.ne hq) hq) ha5 (ne_of_none hA.1 hq).symm
    rcases List.mem_append.mp hb with hb | hb
    · exact .inl (List.mem_of_mem_take hb)
    · rcases List.mem_cons.mp hb with hb | hb
      · exact .inr hb
      · exact .inl (List.mem_of_mem_drop hb)
  clear hA P1 e1 H1 hio hl eA as
  rintro σ H1 ⟨as, rfl, hl, hio, hA, P1, e1⟩
  have eA : (as.map V.ref).length = as.length := List.length_map ..
  refine seqR (fun σ Hy => ∃ as : List Addr, σ = [some (.ref p), some (.ref r), some (.ref m), some (.ref l), some (.int wy), some (.int (i : Int)), some (.int (o : Int)), none, none, none, none] ∧ as.length ≤ B + 1 ∧ (wy ≠ 1 → i < as.length ∧ o < as.length) ∧ RA H Hy l as B ∧ PoolAt Hy p ∧ Exc p H Hy) (fun R hR' => ?_) ?_
  · walk_at "rd"
    refine ite2 (fun z => ?_) fun z => hR' _ _ ⟨as, rfl, by omega, hio, hA, P1, e1⟩
    obtain ⟨hi, ho⟩ := hio (by omega)
    obtain ⟨a, xs, ha, ha2, ha3, ha4, ha5, ha6, ha7⟩ := hA.at ho
    obtain ⟨b, ys, hb, hb2, hb3, hb4, hb5, hb6, hb7⟩ := hA.at hi
    refine ⟨_, SqL.of hA.1, _, ha3, _, SqL.of hA.1, _, hb3, by decide, fun q hq => ?_⟩
    have g := (Same.refl H1).upd (o := .tup [V.ref a, V.ref b]) hq
    refine ⟨_, SqT.of upd_same, rfl, _, _, rfl, _, g _ _ hA.1, i, ixN_nat (by rw [eA]; exact hi), _, _, rfl, _, upd_same, o, ixN_nat (by rw [List.length_set, eA]; exact ho), rfl, ?_⟩
    have e : ((as.map V.ref).set i (V.ref a)).set o (V.ref b) = ((as.set i a).set o b).map V.ref := by simp [List.map_set]
    rw [upd_two, e]
    refine hR' _ _ ⟨(as.set i a).set o b, rfl, by simp; omega, fun _ => by simp; omega, (hA.same g).outer fun c hc => ?_, (P1.upd hq).updN nlp, (e1.same g).updN zl⟩
    rcases List.mem_or_eq_of_mem_set hc with hc | rfl
    · rcases List.mem_or_eq_of_mem_set hc with hc | rfl
      · exact hc
      · exact ha
    · exact hb
  clear hA P1 e1 H1 hio hl eA as
  rintro σ H1 ⟨as, rfl, hl, hio, hA, P1, e1⟩
  have eA : (as.map V.ref).length = as.length := List.length_map ..
  refine seqR (fun σ Hy => ∃ v7 v8 v9 v10 : Option V, σ = [some (.ref p), some (.ref r), some (.ref m), some (.ref l), some (.int wy), some (.int (i : Int)), some (.int (o : Int)), v7, v8, v9, v10] ∧ RA H Hy l as (B + 1) ∧ PoolAt Hy p ∧ Exc p H Hy) (fun R hR' => ?_) ?_
  · refine ifR (fun H2 => RA H H2 l as B ∧ PoolAt H2 p ∧ Exc p H H2 ∧ ∃ (a : Addr) (xs : List Int), a ∈ as ∧ atI (as.map V.ref) (i : Int) = some (.ref a) ∧ H2 a = some (.lst (xs.map V.int)) ∧ xs.length ≤ B ∧ H a = none ∧ a ≠ l ∧ 0 < xs.length) (fun H2 => RA H H2 l as B ∧ PoolAt H2 p ∧ Exc p H H2) ?_ ?_ ?_
    · rintro H2 ⟨A2, P2, e2, a, xs, ha, ha3, ha4, ha5, za, nal, hx0⟩
      have nap : a ≠ p := hP.ne za
      have eX : ∀ xs : List Int, (xs.map V.int).length = xs.length := fun xs => List.length_map ..
      refine seqR (fun σ Hy => ∃ sp : Nat, σ = [some (.ref p), some (.ref r), some (.ref m), some (.ref l), some (.int wy), some (.int (i : Int)), some (.int (o : Int)), some (.int (sp : Int)), none, none, none] ∧ sp < xs.length ∧ RA H Hy l as B ∧ PoolAt Hy p ∧ Exc p H Hy ∧ Hy a = some (.lst (xs.map V.int))) (fun R hR'' => ?_) ?_
      · walk_at "rd"
        refine ⟨_, SqL.of A2.1, _, ha3, a, rfl, _, .inl (SqL.of ha4), p, _, rfl, by rw [eX]; omega, by rw [eX]; omega, P2, fun d H3 d0 d1 P3 e3 => hR'' _ _ ⟨d.toNat, by rw [show ((d.toNat : Nat) : Int) = d by omega], by rw [eX] at d1; omega, A2.exc e3 zp, P3, e2.trans e3, e3 _ _ nap ha4⟩⟩
      clear A2 P2 e2 ha4 H2
      rintro σ H2 ⟨sp, rfl, hsp, A2, P2, e2, ha4⟩
      refine seqR (fun σ Hy => ∃ pl : Int, σ = [some (.ref p), some (.ref r), some (.ref m), some (.ref l), some (.int wy), some (.int (i : Int)), some (.int (o : Int)), some (.int (sp : Int)), some (.int pl), none, none] ∧ Hy = H2) (fun R hR'' => ?_) ?_
      · walk_at "rd"
        exact ⟨_, SqL.of A2.1, _, ha3, a, rfl, _, SqL.of ha4, _, nth_at hsp, hR'' _ _ ⟨_, rfl, rfl⟩⟩
      rintro σ H2' ⟨pl, rfl, rfl⟩
      refine seqR (fun σ Hy => ∃ (k : Addr) (ks : List Int), σ = [some (.ref p), some (.ref r), some (.ref m), some (.ref l), some (.int wy), some (.int (i : Int)), some (.int (o : Int)), some (.int (sp : Int)), some (.int pl), some (.ref k), none] ∧ Hy k = some (.lst (ks.map V.int)) ∧ 0 < ks.length ∧ ks.length ≤ 1001 ∧ k ≠ p ∧ RA H Hy l as B ∧ PoolAt Hy p ∧ Exc p H Hy ∧ Hy a = some (.lst (xs.map V.int))) (fun R hR'' => ?_) ?_
      · walk_at "rd"
        refine ⟨_, .inr (SqT.of (e2 _ _ nrp hr1)), by omega, by rw [eR]; omega, ?_⟩
        have en : (((ns.map V.int).length : Nat) : Int).toNat = ns.length := by rw [eR]; omega
        rw [en]
        refine comp_inv (n := ns.length) (fun j acc Hx => Same H2' Hx ∧ ∃ ks : List Int, acc = ks.map V.int) (Nat.lt_of_le_of_lt (show _ ≤ 1000 by omega) (by decide)) ⟨Same.refl _, [], rfl⟩ (fun j acc Hx _ hj => hj) (fun acc Hx _ => Nat.le_refl _) ?_ ?_
        · rintro j x acc Hx Hy hj hla ⟨sx, ks, rfl⟩ ⟨rfl, rfl⟩
          have ej : ((0 : Int) + (j : Int)) = (j : Int) := by omega
          rw [ej]
          walk_at "rd"
          have hq := SqT.of (K := K) ((e2.same sx) _ _ nrp hr1)
          refine ite2 (fun z => ⟨_, .inr hq, ite2 (fun y => ?_) fun _ => CA.skip hj hla ⟨sx, ks, rfl⟩⟩) fun _ => CA.skip hj hla ⟨sx, ks, rfl⟩
          rw [eR] at y
          obtain ⟨n, rfl⟩ := Int.eq_ofNat_of_zero_le z
          exact ⟨_, hq, _, nth_at hj, _, hq, _, nth_at (by omega), rfl, ite2 (fun _ => CA.take hj hla ⟨sx, ks ++ [(j : Int)], by simp⟩) fun _ => CA.skip hj hla ⟨sx, ks, rfl⟩⟩
        · rintro l1 acc Hx ⟨sx, ks, rfl⟩ hla hl1
          rw [eX] at hla
          refine ⟨by decide, fun q hq => ⟨l1, rfl, _, ((Same.refl _).upd hq) _ _ upd_same, _, upd_same, Nat.le_trans (show _ ≤ 2000 by rw [eX]; simp; omega) (by decide), fun w hw => ?_⟩⟩
          have g1 := (sx.upd' (o := .lst (ks.map V.int)) hl1).upd' (o := .lst [V.int pl]) hq
          have g := g1.upd' (o := .lst (ks.map V.int ++ [V.int pl])) hw
          exact hR'' _ _ ⟨w, ks ++ [pl], rfl, by rw [upd_same]; simp, by simp, by simp; omega, (P2.same g1).ne hw, A2.same g, P2.same g, e2.same g, g _ _ ha4⟩
      clear A2 P2 e2 ha4 H2'
      rintro σ H2 ⟨k, ks, rfl, hk, hk0, hk1, nkp, A2, P2, e2, ha4⟩
      refine seqR (fun σ Hy => ∃ (u : Addr) (us : List Int), σ = [some (.ref p), some (.ref r), some (.ref m), some (.ref l), some (.int wy), some (.int (i : Int)), some (.int (o : Int)), some (.int (sp : Int)), some (.int pl), some (.ref k), some (.ref u)] ∧ Hy u = some (.lst (us.map V.int)) ∧ us.length = 6 ∧ u ≠ p ∧ RA H Hy l as B ∧ PoolAt Hy p ∧ Exc p H Hy ∧ Hy a = some (.lst (xs.map V.int))) (fun R hR'' => ?_) ?_
      · walk_at "rd"
        refine ⟨_, .inl (SqL.of hk), p, _, rfl, by rw [eX]; omega, by rw [eX]; omega, P2, fun d H3 d0 d1 P3 e3 => ?_⟩
        rw [eX] at d1
        obtain ⟨n, rfl⟩ := Int.eq_ofNat_of_zero_le d0
        refine ⟨_, (n : Int), rfl, SqL.of (e3 _ _ nkp hk), _, nth_at (by omega), cp59, _, .inr (SqT.of ((e2.trans e3) _ _ nrp hr1)), by decide, fun q hq => ?_⟩
        have g := (Same.refl H3).upd (o := .lst [V.int (pl + 1), V.int (pl - 1), V.int (nth ks n), V.int (10 ^ Int.toNat 59), V.int (-1), V.int (pl - ((ns.map V.int).length : Int))]) hq
        exact hR'' _ _ ⟨q, [pl + 1, pl - 1, nth ks n, 10 ^ Int.toNat 59, -1, pl - ((ns.map V.int).length : Int)], rfl, by rw [upd_same]; simp only [List.map_cons, List.map_nil], by simp only [List.length_cons, List.length_nil], P3.ne hq, (A2.exc e3 zp).same g, P3.same g, (e2.trans e3).same g, g _ _ (e3 _ _ nap ha4)⟩
      clear A2 P2 e2 ha4 H2 hk
      rintro σ H2 ⟨u, us, rfl, hu, hu6, nup, A2, P2, e2, ha4⟩
      replace A2 := A2.mono (show B ≤ B + 1 by omega)
      refine seqR (fun σ Hy => ∃ (xs : List Int), σ = [some (.ref p), some (.ref r), some (.ref m), some (.ref l), some (.int wy), some (.int (i : Int)), some (.int (o : Int)), some (.int (sp : Int)), some (.int pl), some (.ref k), some (.ref u)] ∧ sp < xs.length ∧ xs.length ≤ B ∧ RA H Hy l as (B + 1) ∧ PoolAt Hy p ∧ Exc p H Hy ∧ Hy a = some (.lst (xs.map V.int))) (fun R hR'' => ?_) ?_
      · walk_at "rd"
        refine ⟨p, _, rfl, by decide, by decide, P2, fun d H3 d0 d1 P3 e3 => ?_⟩
        obtain ⟨n, rfl⟩ := Int.eq_ofNat_of_zero_le d0
        refine ⟨_, (n : Int), rfl, SqL.of (e3 _ _ nup hu), _, nth_at (by omega), _, SqL.of (A2.exc e3 zp).1, _, ha3, a, rfl, _, e3 _ _ nap ha4, sp, ixN_nat (by rw [eX]; exact hsp), ?_⟩
        have e : (xs.map V.int).set sp (V.int (nth us n)) = (xs.set sp (nth us n)).map V.int := by simp [List.map_set]
        rw [e]
        exact hR'' _ _ ⟨xs.set sp (nth us n), rfl, by simp; exact hsp, by simp; exact ha5, (A2.exc e3 zp).inner ha (by simp; omega), P3.updN nap, (e2.trans e3).updN za, upd_same⟩
      have hsp1 : sp ≤ 1000 := by omega
      clear A2 P2 e2 ha4 H2 hsp ha5 hx0 hu xs
      rintro σ H2 ⟨xs, rfl, hsp, ha5, A2, P2, e2, ha4⟩
      refine seqR (fun σ Hy => ∃ (xs : List Int), σ = [some (.ref p), some (.ref r), some (.ref m), some (.ref l), some (.int wy), some (.int (i : Int)), some (.int (o : Int)), some (.int (sp : Int)), some (.int pl), some (.ref k), some (.ref u)] ∧ xs.length ≤ B ∧ RA H Hy l as (B + 1) ∧ PoolAt Hy p ∧ Exc p H Hy ∧ Hy a = some (.lst (xs.map V.int))) (fun R hR'' => ?_) ?_
      · walk_at "rd"
        refine ite2 (fun z => ⟨_, SqL.of A2.1, _, ha3, tyV_list ha4, a, rfl, _, ha4, by omega, by omega, sp, seqIx (by rw [eX]; exact hsp), _, List.getElem?_eq_getElem (by rw [eX]; exact hsp), ?_⟩) fun z => hR'' _ _ ⟨xs, rfl, ha5, A2, P2, e2, ha4⟩
        have e : (xs.map V.int).eraseIdx sp = (xs.eraseIdx sp).map V.int := by simp [List.eraseIdx_eq_take_drop_succ]
        have hle : (xs.eraseIdx sp).length ≤ B := by rw [List.length_eraseIdx_of_lt hsp]; omega
        rw [e]
        exact hR'' _ _ ⟨xs.eraseIdx sp, rfl, hle, A2.inner ha (by omega), P2.updN nap, e2.updN za, upd_same⟩
      clear A2 P2 e2 ha4 H2 hsp ha5 xs
      rintro σ H2 ⟨xs, rfl, ha5, A2, P2, e2, ha4⟩
      walk_at "rd"
      refine ite2 (fun z => ⟨_, SqL.of A2.1, _, ha3, tyV_list ha4, a, rfl, _, ha4, by omega, by omega, Nat.lt_of_le_of_lt (show _ ≤ 1000 by rw [eX]; omega) (by decide), ?_⟩) fun z => hR' _ _ ⟨_, _, _, _, rfl, A2, P2, e2⟩
      have e : List.take ((sp : Int)).toNat (xs.map V.int) ++ V.int pl :: List.drop ((sp : Int)).toNat (xs.map V.int) = (xs.take sp ++ pl :: xs.drop sp).map V.int := by simp
      rw [e]
      exact hR' _ _ ⟨_, _, _, _, rfl, A2.inner ha (by simp; omega), P2.updN nap, e2.updN za⟩
    · rintro H2 ⟨A2, P2, e2⟩
      walk_at "rd"
      exact hR' _ _ ⟨_, _, _, _, rfl, A2.mono (by omega), P2, e2⟩
    · intro B' hT hU
      walk_at "rd"
      refine ite2 (fun z => ?_) fun _ => hU _ ⟨hA, P1, e1⟩
      obtain ⟨hi, ho⟩ := hio (by omega)
      obtain ⟨a, xs, ha, ha2, ha3, ha4, ha5, ha6, ha7⟩ := hA.at hi
      refine ⟨_, SqL.of hA.1, _, ha3, Nat.zero_le _, fun q hq => ?_⟩
      have g := (Same.refl H1).upd (o := .lst []) hq
      refine ⟨a, rfl, _, eqp_lst (n := 2) eqp_int _ _ xs [] (isL_ints (SqL.of (g _ _ ha4))) (isL_nil upd_same), ?_⟩
      by_cases z : xs = []
      · rw [decide_eq_true z]; exact hU _ ⟨hA.same g, P1.same g, e1.same g⟩
      · rw [decide_eq_false z]; exact hT _ ⟨hA.same g, P1.same g, e1.same g, a, xs, ha, ha3, g _ _ ha4, ha5, ha6, ha7, List.length_pos_iff.mpr z⟩
  clear hA P1 e1 H1 hio
  rintro σ H1 ⟨v7, v8, v9, v10, rfl, hA, P1, e1⟩
  walk_at "rd"
  exact k1 l as H1 hA hl P1 e1
theorem ok_law {f : Addr} {fd : FuncData} (F : Fun K "law" "law" s_law f fd) (G_ladder_right : Callee P w K mg base "ladder_right" 4 ["row", "ladder"] (sp_ladder_right K mg)) (G__law_pool : Callee P w K mg base "_law_pool" 1 ["script", "k"] (sp__law_pool K mg)) (G__law_pick : Callee P w K mg base "_law_pick" 1 ["pool", "many"] (sp__law_pick K mg)) (G__law_row : Callee P w K mg base "_law_row" 3 ["pool", "most"] (sp__law_row K mg)) (G__law_ladder : Callee P w K mg base "_law_ladder" 2 ["row"] (sp__law_ladder K mg)) (G__law_bent : Callee P w K mg base "_law_bent" 2 ["pool", "row", "ladder"] (sp__law_bent K mg)) (T : Txt K mg) : FnOk P w K mg base (CXE P w) 5 f fd ["script"] (spLaw K) := by
  refine F.okX sc_law (fun vs H Q E h => ?_) (fun cdv A outer s H vs Q E hr h => ?_)
  · obtain ⟨a, ns, rfl, _⟩ := h; rfl
  obtain ⟨sc, ss, rfl, hsc, hss, k1⟩ := h
  refine ⟨_, (pss_cons (ps_nox (ps_for PassesOwn.never rfl (pi_range1 rfl T.b_range (pa_cons (pe_callB (call_max2 rfl) rfl T.b_max bt_max (pa_cons pe_int (pa_cons (pe_callB (call_min2 rfl) rfl T.b_min bt_min (pa_cons (pe_callB (call_lenK (K := K) rfl) rfl T.b_len PySem.boot_len (pa_cons (pv 0) pa_nil)) (pa_cons pe_int pa_nil))) pa_nil))) pa_nil)) (pg_name (i := 1) sc_law.nd rfl (Or.inl rfl)) (pss_cons (ps_set (i := 2) sc_law.nd rfl (Or.inl rfl) (pe_callF G__law_pool (hr.mono (by decide)) rfl passE (pa_cons (pv 0) (pa_cons (pv 1) pa_nil))))
      (pss_cons (ps_set (i := 3) sc_law.nd rfl (Or.inl rfl) (pe_callF G__law_row (hr.mono (by decide)) rfl passE (pa_cons (pv 2) (pa_cons pe_int pa_nil))))
      (pss_cons (ps_set (i := 4) sc_law.nd rfl (Or.inl rfl) (pe_callF G__law_ladder (hr.mono (by decide)) rfl passE (pa_cons (pv 3) pa_nil)))
      (pss_cons (ps_set (i := 5) sc_law.nd rfl (Or.inl rfl) (pv 4))
      (pss_cons (ps_nox (ps_for PassesOwn.never rfl (pi_range1 rfl T.b_range (pa_cons (pe_callF G__law_pick (hr.mono (by decide)) rfl passE (pa_cons (pv 2) (pa_cons pe_int pa_nil))) pa_nil)) (pg_name (i := 6) sc_law.nd rfl (Or.inl rfl)) (pss_one (ps_set (i := 5) sc_law.nd rfl (Or.inl rfl) (pe_callF G__law_bent (hr.mono (by decide)) rfl passE (pa_cons (pv 2) (pa_cons (pv 3) (pa_cons (pv 5) pa_nil))))))))
      (pss_cons (ps_setCN (i := 7) ["rung"] [none] sc_law.nd rfl (Or.inl rfl) rfl rfl rfl (pi_list (pv 5)) (fun _ _ _ _ _ => (pg_name (i := 0) (show (["rung"] : List Str).Nodup from by decide +kernel) rfl (Or.inl rfl))) (fun _ _ _ _ _ => pifs_nil) (fun _ _ _ _ _ => (pe_callTy (call_listK (K := K) rfl) rfl T.b_list bt_list (pa_cons (pv 0) pa_nil))) only_name)
      (pss_one (ps_nox (ps_for PassesOwn.never rfl (pi_tup (pe_tup (pa_cons (pv 7) (pa_cons (pe_callTy (call_tupK (K := K) rfl) rfl T.b_tuple bt_tuple (pa_cons (pe_compN ["rung"] [none] rfl rfl rfl (pi_list (pv 5)) (fun _ _ _ _ _ => (pg_name (i := 0) (show (["rung"] : List Str).Nodup from by decide +kernel) rfl (Or.inl rfl))) (fun _ _ _ _ _ => pifs_nil) (fun _ _ _ _ _ => (pe_callTy (call_tupK (K := K) rfl) rfl T.b_tuple bt_tuple (pa_cons (pv 0) pa_nil))) only_name) pa_nil)) (pa_cons (pv 7) pa_nil))))) (pg_name (i := 8) sc_law.nd rfl (Or.inl rfl)) (pss_cons (ps_set (i := 9) sc_law.nd rfl (Or.inl rfl) (pe_callF G_ladder_right (hr.mono (by decide)) rfl passE (pa_cons (pe_callTy (call_listK (K := K) rfl) rfl T.b_list bt_list (pa_cons (pv 3) pa_nil)) (pa_cons (pv 8) pa_nil))))
      (pss_one (ps_if (PW.pt (pw_or (pt_not (pt_val (pe_callB (call_isiK (K := K) rfl) rfl T.b_isinstance bt_isinstance (pa_cons (pv 9) (pa_cons (pe_bltn (v := .ty "bool") rfl T.b_bool bt_bool rfl) pa_nil))))) (pw_or (pt_cmpR op_ne (pv 9) (pe_cmpR (op_eqD (K := K) rfl hr) (pv 5) (pv 4) (nomark _)) (nomark _)) (pw_or1 (pt_cmpR (op_neD (K := K) rfl hr) (pv 7) (pv 5) (nomark _)))))) (pss_one (ps_ret pe_bl)) pss_nil))))))))))))))
      (pss_one (ps_ret pe_bl))), ?_⟩
  walk_at "rd"
  refine ⟨_, .inl hsc, ?_⟩
  have eS : (ss.map V.int).length = ss.length := List.length_map ..
  rw [eS]
  generalize hG : (if (if (12 : Int) < ((ss.length : Nat) : Int) then (12 : Int) else ((ss.length : Nat) : Int)) > 1 then (if (12 : Int) < ((ss.length : Nat) : Int) then (12 : Int) else ((ss.length : Nat) : Int)) else 1) = G
  have hG12 : 0 ≤ G ∧ G ≤ 12 := by rw [← hG]; split <;> (try split) <;> omega
  refine ⟨by omega, by omega, for_range (fun b σ Hx => ∃ v1 v2 v3 v4 v5 v6 v7 v8 v9 : Option V, σ = [some (.ref sc), v1, v2, v3, v4, v5, v6, v7, v8, v9] ∧ Same H Hx) ⟨_, _, _, _, _, _, _, _, _, rfl, Same.refl H⟩ ?_ ?_⟩
  · rintro b σ H' hb ⟨v1, v2, v3, v4, v5, v6, v7, v8, v9, rfl, hs⟩
    refine seqR (fun σ Hx => ∃ p, σ = [some (.ref sc), some (.int ((0 : Int) + (b : Int))), some (.ref p), v3, v4, v5, v6, v7, v8, v9] ∧ H p = none ∧ PoolAt Hx p ∧ Same H Hx) (fun R hR => ?_) ?_
    · walk_at "rd"
      exact ⟨sc, ss, _, rfl, hs.seq hsc, by omega, by omega, fun p H1 hp s1 P1 => hR _ _ ⟨p, rfl, hs.free hp, P1, hs.trans s1⟩⟩
    rintro σ H1 ⟨p, rfl, zp, P1, s1⟩
    refine seqR (fun σ Hx => ∃ (r : Addr) (ns : List Int), σ = [some (.ref sc), some (.int ((0 : Int) + (b : Int))), some (.ref p), some (.ref r), v4, v5, v6, v7, v8, v9] ∧ ns.length ≤ 40 ∧ Hx r = some (.tup (ns.map V.int)) ∧ r ≠ p ∧ PoolAt Hx p ∧ Same H Hx) (fun R hR => ?_) ?_
    · walk_at "rd"
      exact ⟨p, _, rfl, by decide, by decide, P1, fun r row H3 hr3 hl hrow P3 e3 => hR _ _ ⟨r, row, rfl, by omega, hrow, P1.ne hr3, P3, s1.exc zp e3⟩⟩
    clear s1 P1 H1
    rintro σ H1 ⟨r, ns, rfl, hn, hr1, nrp, P1, s1⟩
    have np : H1 p ≠ none := P1.some
    refine seqR (fun σ Hx => ∃ (d : Addr) (t : Nat), σ = [some (.ref sc), some (.int ((0 : Int) + (b : Int))), some (.ref p), some (.ref r), some (.ref d), v5, v6, v7, v8, v9] ∧ Tall ns.length t ∧ RowsN H1 Hx d (ladF ns t) ∧ Same H1 Hx) (fun R hR => ?_) ?_
    · walk_at "rd"
      exact ⟨r, ns, rfl, SqT.of hr1, by omega, fun d H3 t T3 s3 R3 => hR _ _ ⟨d, t, rfl, T3, R3, s3⟩⟩
    rintro σ H2 ⟨d, t, rfl, T3, R3, s2⟩
    have ht : t ≤ 41 := by
      by_cases z : t = 0
      · omega
      · have := T3.2 (t - 1) (by omega)
        have : t - 1 < 2 ^ (t - 1) := Nat.lt_two_pow_self
        omega
    have lL : (ladF ns t).length = t := by simp [ladF]
    have lX : ∀ x ∈ ladF ns t, x.length ≤ 41 := fun x hx => by
      obtain ⟨k, hk, rfl⟩ := List.mem_map.mp hx
      have := Nat.two_pow_pos k
      simp [rungF]; omega
    obtain ⟨as0, hl0, A0⟩ := RA.ofN R3 lX
    refine seqR (fun σ Hx => σ = [some (.ref sc), some (.int ((0 : Int) + (b : Int))), some (.ref p), some (.ref r), some (.ref d), some (.ref d), v6, v7, v8, v9] ∧ Hx = H2) (fun R hR => ?_) ?_
    · walk_at "rd"
      exact hR _ _ ⟨rfl, rfl⟩
    rintro σ H2' ⟨rfl, rfl⟩
    refine seqR (fun σ Hx => ∃ (m : Addr) (rs : List (List Int)) (v6 : Option V), σ = [some (.ref sc), some (.int ((0 : Int) + (b : Int))), some (.ref p), some (.ref r), some (.ref d), some (.ref m), v6, v7, v8, v9] ∧ Rows Hx m rs ∧ rs.length ≤ 1000 ∧ Rows Hx d (ladF ns t) ∧ Hx r = some (.tup (ns.map V.int)) ∧ Same H Hx) (fun R hR => ?_) ?_
    · walk_at "rd"
      refine ⟨p, _, rfl, by decide, by decide, P1.same s2, fun c H3 c0 c1 P3 e3 => ⟨c, rfl, by omega, by omega, ?_⟩⟩
      refine for_range (fun u σ Hx => ∃ (m : Addr) (as : List Addr) (v6 : Option V), σ = [some (.ref sc), some (.int ((0 : Int) + (b : Int))), some (.ref p), some (.ref r), some (.ref d), some (.ref m), v6, v7, v8, v9] ∧ RA H1 Hx m as (41 + u) ∧ as.length ≤ 41 + u ∧ RowsN H1 Hx d (ladF ns t) ∧ PoolAt Hx p ∧ Exc p H1 Hx) ⟨d, as0, v6, rfl, A0.exc e3 np, by omega, R3.exc e3 np, P3, s2.toExc.trans e3⟩ ?_ ?_
      · rintro u σ Hx hu ⟨m, as, v6, rfl, hA, hl, hD, Px, ex⟩
        walk_at "rd"
        obtain ⟨rs, hR1, hR2, hR3⟩ := hA.rows
        refine ⟨p, r, m, ns, rs, 41 + u, rfl, Px, ex _ _ nrp hr1, by omega, hR1, by omega, hR3, by omega, fun l as' H4 A4 l4 P4 e4 => ⟨l, rfl, as', A4.from ex Px.some, by omega, hD.exc e4 np, P4, ex.trans e4⟩⟩
      · rintro σ Hx ⟨m, as, v6, rfl, hA, hl, hD, Px, ex⟩
        obtain ⟨rs, hR1, hR2, hR3⟩ := hA.rows
        exact hR _ _ ⟨m, rs, v6, rfl, hR1, by omega, hD.rows, ex _ _ nrp hr1, s1.exc zp ex⟩
    clear R3 A0 s2 H2' P1 s1 np hr1 H1
    rintro σ H1 ⟨m, rs, v6, rfl, hM, hml, hD, hr1, s1⟩
    have htl : rs.length < sizeLine := Nat.lt_of_le_of_lt hml (by decide)
    refine seqR (fun σ Hx => ∃ (l : Addr), σ = [some (.ref sc), some (.int ((0 : Int) + (b : Int))), some (.ref p), some (.ref r), some (.ref d), some (.ref m), v6, some (.ref l), v8, v9] ∧ IsL K Hx (IsL K Hx IsI) (.ref l) rs ∧ IsQ K Hx (IsQ K Hx IsI) (.ref l) rs ∧ Same H1 Hx) (fun R hR => ?_) ?_
    · walk_at "rd"
      obtain ⟨as, ra1, _⟩ := id hM
      refine ⟨⟨_, SqL.of ra1⟩, ?_⟩
      obtain ⟨w1, w2, w3⟩ := hM.walk (K := K)
      refine comp_copy (K := K) HO.lst te_list htl w1 w2 (fun i x Ha Hb hi s y => ⟨(w3 i x Ha Hb hi s y).1, .inl (w3 i x Ha Hb hi s y).2⟩) fun lv acc H4 s4 hlv hacc hfr hlv4 => ?_
      exact hR _ _ ⟨lv, rfl, hacc.isL hlv4, hacc.isQ hlv4, s4⟩
    rintro σ H2 ⟨l, rfl, hL, hQ, s2⟩
    walk_at "rd"
    obtain ⟨as, ra1, _⟩ := id (hM.same s2)
    refine ⟨⟨_, SqL.of ra1⟩, ?_⟩
    obtain ⟨w1, w2, w3⟩ := (hM.same s2).walk (K := K)
    refine comp_copy (K := K) HO.tup te_tup htl w1 w2 (fun i x Ha Hb hi s y => ⟨(w3 i x Ha Hb hi s y).1, .inl (w3 i x Ha Hb hi s y).2⟩) fun lv acc H4 s4 hlv hacc hfr hlv4 => ?_
    refine ⟨lv, rfl, _, .inl ⟨SqL.of hlv4, fun u hu => ⟨by decide, fun q hq => ⟨⟨_, SqT.of upd_same⟩, ?_⟩⟩⟩⟩
    have g1 := (Same.refl H4).upd (o := .tup acc) hu
    have g2 := (Same.refl _).upd (o := .tup [V.ref l, V.ref u, V.ref l]) hq
    have g := (s4.trans g1).trans g2
    have hq0 : (upd (upd H4 u (.tup acc)) q (.tup [V.ref l, V.ref u, V.ref l])) q = some (.tup [V.ref l, V.ref u, V.ref l]) := upd_same
    have fu : IsQ K (upd (upd H4 u (.tup acc)) q (.tup [V.ref l, V.ref u, V.ref l])) (IsQ K (upd (upd H4 u (.tup acc)) q (.tup [V.ref l, V.ref u, V.ref l])) IsI) (.ref u) rs := hacc.isQT (g1.trans g2) (g2 _ _ upd_same)
    have fl := hQ.same g
    have gL := IsL2.same hL g
    have gM := hM.same (s2.trans g)
    have gD := hD.same (s2.trans g)
    have gr := (s2.trans g) _ _ hr1
    have gS := s1.trans (s2.trans g)
    clear g1 g2 g hacc hlv4 hq hu s4 hfr
    generalize upd (upd H4 u (.tup acc)) q (.tup [V.ref l, V.ref u, V.ref l]) = H5 at hq0 fu fl gL gM gD gr gS ⊢
    refine for_tup (K := K) (a := q) (xs := [V.ref l, V.ref u, V.ref l]) (fun i σ Hx => ∃ v8 v9 : Option V, σ = [some (.ref sc), some (.int ((0 : Int) + (b : Int))), some (.ref p), some (.ref r), some (.ref d), some (.ref m), v6, some (.ref l), v8, v9] ∧ Same H5 Hx) ⟨_, _, rfl, Same.refl _⟩ (fun i σ Hx _ ⟨_, _, _, s⟩ => SqT.of (s _ _ hq0)) ?_ ?_
    · rintro i x σ Hx hi ⟨v8, v9, rfl, sx⟩
      obtain ⟨y, rfl, hy⟩ : ∃ y, x = V.ref y ∧ IsQ K H5 (IsQ K H5 IsI) (.ref y) rs := by
        have := List.mem_of_getElem? hi
        simp only [List.mem_cons, List.not_mem_nil, or_false] at this
        rcases this with rfl | rfl | rfl
        · exact ⟨_, rfl, fl⟩
        · exact ⟨_, rfl, fu⟩
        · exact ⟨_, rfl, fl⟩
      walk_at "rd"
      refine ⟨_, .inr (SqT.of (sx _ _ gr)), fun w hw => ?_⟩
      have g6 := sx.upd' (o := .lst (ns.map V.int)) hw
      refine ⟨w, y, ns, rs, rfl, .inl (SqL.of upd_same), hy.same g6, by omega, hml, fun t' bb H7 T7 eb s7 => ?_⟩
      cases T7.unique T3
      have g7 := g6.trans s7
      have E1 := eqp_lst (n := 2) (K := K) (eqp_lst (n := 1) eqp_int) _ _ _ _ (gM.same g7).isL (gD.same g7).isL
      rw [← eb] at E1
      have E2 := eqp_lst (n := 2) (K := K) (eqp_lst (n := 1) eqp_int) _ _ _ _ (IsL2.same gL g7) (gM.same g7).isL
      refine ⟨_, ty_bb, ite2 (fun z => nomatch z) fun _ => ⟨_, E1, ?_, ite2 (fun z => absurd rfl z) fun _ => ⟨_, E2, ite2 (fun z => absurd z (by simp)) fun _ => g7⟩⟩⟩
      cases bb <;> rfl
    · rintro σ Hx ⟨v8, v9, rfl, sx⟩
      exact ⟨_, _, _, _, _, _, _, _, _, rfl, gS.trans sx⟩
  · rintro σ H' ⟨v1, v2, v3, v4, v5, v6, v7, v8, v9, rfl, hs⟩
    walk_at "rd"
    exact k1 H'

end
theorem all_mk {l : PySem.W.OpenLaw} {w : World} {K : PySem.W.Frag} {h : Heap} {mg : Str → Option Value} {fa : Addr} (X : K.In h) (G : h.Ns mainGlobals mg) (hfa : mg "law" = some (.ref fa))
    {f_lesser : Addr} {od_lesser an_lesser : Option Addr} {sl_lesser : Array (Option Value)} {oc_lesser kV_lesser dc_lesser pm_lesser cd_lesser ct_lesser : Value}
    (a_lesser : PySem.W.nsIn K mainGlobals "lesser" = some (some (.ref f_lesser))) (l_lesser : K.lookup f_lesser = some ⟨oc_lesser, od_lesser, .func (PySem.W.fnOf "lesser" "lesser" (defArgs s_lesser) (defBody s_lesser) (defScope s_lesser) .none kV_lesser dc_lesser pm_lesser an_lesser cd_lesser ct_lesser), sl_lesser⟩) (c_lesser : PySem.W.codeIn K cd_lesser "lesser" = true) (k_lesser : PySem.W.keepIn K (.ref f_lesser) = true)
    {f_next_rung : Addr} {od_next_rung an_next_rung : Option Addr} {sl_next_rung : Array (Option Value)} {oc_next_rung kV_next_rung dc_next_rung pm_next_rung cd_next_rung ct_next_rung : Value}
    (a_next_rung : PySem.W.nsIn K mainGlobals "next_rung" = some (some (.ref f_next_rung))) (l_next_rung : K.lookup f_next_rung = some ⟨oc_next_rung, od_next_rung, .func (PySem.W.fnOf "next_rung" "next_rung" (defArgs s_next_rung) (defBody s_next_rung) (defScope s_next_rung) .none kV_next_rung dc_next_rung pm_next_rung an_next_rung cd_next_rung ct_next_rung), sl_next_rung⟩) (c_next_rung : PySem.W.codeIn K cd_next_rung "next_rung" = true) (k_next_rung : PySem.W.keepIn K (.ref f_next_rung) = true)
    {f_ladder_of : Addr} {od_ladder_of an_ladder_of : Option Addr} {sl_ladder_of : Array (Option Value)} {oc_ladder_of kV_ladder_of dc_ladder_of pm_ladder_of cd_ladder_of ct_ladder_of : Value}
    (a_ladder_of : PySem.W.nsIn K mainGlobals "ladder_of" = some (some (.ref f_ladder_of))) (l_ladder_of : K.lookup f_ladder_of = some ⟨oc_ladder_of, od_ladder_of, .func (PySem.W.fnOf "ladder_of" "ladder_of" (defArgs s_ladder_of) (defBody s_ladder_of) (defScope s_ladder_of) .none kV_ladder_of dc_ladder_of pm_ladder_of an_ladder_of cd_ladder_of ct_ladder_of), sl_ladder_of⟩) (c_ladder_of : PySem.W.codeIn K cd_ladder_of "ladder_of" = true) (k_ladder_of : PySem.W.keepIn K (.ref f_ladder_of) = true)
    {f_ladder_right : Addr} {od_ladder_right an_ladder_right : Option Addr} {sl_ladder_right : Array (Option Value)} {oc_ladder_right kV_ladder_right dc_ladder_right pm_ladder_right cd_ladder_right ct_ladder_right : Value}
    (a_ladder_right : PySem.W.nsIn K mainGlobals "ladder_right" = some (some (.ref f_ladder_right))) (l_ladder_right : K.lookup f_ladder_right = some ⟨oc_ladder_right, od_ladder_right, .func (PySem.W.fnOf "ladder_right" "ladder_right" (defArgs s_ladder_right) (defBody s_ladder_right) (defScope s_ladder_right) .none kV_ladder_right dc_ladder_right pm_ladder_right an_ladder_right cd_ladder_right ct_ladder_right), sl_ladder_right⟩) (c_ladder_right : PySem.W.codeIn K cd_ladder_right "ladder_right" = true) (k_ladder_right : PySem.W.keepIn K (.ref f_ladder_right) = true)
    {f__law_pool : Addr} {od__law_pool an__law_pool : Option Addr} {sl__law_pool : Array (Option Value)} {oc__law_pool kV__law_pool dc__law_pool pm__law_pool cd__law_pool ct__law_pool : Value}
    (a__law_pool : PySem.W.nsIn K mainGlobals "_law_pool" = some (some (.ref f__law_pool))) (l__law_pool : K.lookup f__law_pool = some ⟨oc__law_pool, od__law_pool, .func (PySem.W.fnOf "_law_pool" "_law_pool" (defArgs s__law_pool) (defBody s__law_pool) (defScope s__law_pool) .none kV__law_pool dc__law_pool pm__law_pool an__law_pool cd__law_pool ct__law_pool), sl__law_pool⟩) (c__law_pool : PySem.W.codeIn K cd__law_pool "_law_pool" = true) (k__law_pool : PySem.W.keepIn K (.ref f__law_pool) = true)
    {f__law_pick : Addr} {od__law_pick an__law_pick : Option Addr} {sl__law_pick : Array (Option Value)} {oc__law_pick kV__law_pick dc__law_pick pm__law_pick cd__law_pick ct__law_pick : Value}
    (a__law_pick : PySem.W.nsIn K mainGlobals "_law_pick" = some (some (.ref f__law_pick))) (l__law_pick : K.lookup f__law_pick = some ⟨oc__law_pick, od__law_pick, .func (PySem.W.fnOf "_law_pick" "_law_pick" (defArgs s__law_pick) (defBody s__law_pick) (defScope s__law_pick) .none kV__law_pick dc__law_pick pm__law_pick an__law_pick cd__law_pick ct__law_pick), sl__law_pick⟩) (c__law_pick : PySem.W.codeIn K cd__law_pick "_law_pick" = true) (k__law_pick : PySem.W.keepIn K (.ref f__law_pick) = true)
    {f__law_size : Addr} {od__law_size an__law_size : Option Addr} {sl__law_size : Array (Option Value)} {oc__law_size kV__law_size dc__law_size pm__law_size cd__law_size ct__law_size : Value}
    (a__law_size : PySem.W.nsIn K mainGlobals "_law_size" = some (some (.ref f__law_size))) (l__law_size : K.lookup f__law_size = some ⟨oc__law_size, od__law_size, .func (PySem.W.fnOf "_law_size" "_law_size" (defArgs s__law_size) (defBody s__law_size) (defScope s__law_size) .none kV__law_size dc__law_size pm__law_size an__law_size cd__law_size ct__law_size), sl__law_size⟩) (c__law_size : PySem.W.codeIn K cd__law_size "_law_size" = true) (k__law_size : PySem.W.keepIn K (.ref f__law_size) = true)
    {f__law_row : Addr} {od__law_row an__law_row : Option Addr} {sl__law_row : Array (Option Value)} {oc__law_row kV__law_row dc__law_row pm__law_row cd__law_row ct__law_row : Value}
    (a__law_row : PySem.W.nsIn K mainGlobals "_law_row" = some (some (.ref f__law_row))) (l__law_row : K.lookup f__law_row = some ⟨oc__law_row, od__law_row, .func (PySem.W.fnOf "_law_row" "_law_row" (defArgs s__law_row) (defBody s__law_row) (defScope s__law_row) .none kV__law_row dc__law_row pm__law_row an__law_row cd__law_row ct__law_row), sl__law_row⟩) (c__law_row : PySem.W.codeIn K cd__law_row "_law_row" = true) (k__law_row : PySem.W.keepIn K (.ref f__law_row) = true)
    {f__law_low : Addr} {od__law_low an__law_low : Option Addr} {sl__law_low : Array (Option Value)} {oc__law_low kV__law_low dc__law_low pm__law_low cd__law_low ct__law_low : Value}
    (a__law_low : PySem.W.nsIn K mainGlobals "_law_low" = some (some (.ref f__law_low))) (l__law_low : K.lookup f__law_low = some ⟨oc__law_low, od__law_low, .func (PySem.W.fnOf "_law_low" "_law_low" (defArgs s__law_low) (defBody s__law_low) (defScope s__law_low) .none kV__law_low dc__law_low pm__law_low an__law_low cd__law_low ct__law_low), sl__law_low⟩) (c__law_low : PySem.W.codeIn K cd__law_low "_law_low" = true) (k__law_low : PySem.W.keepIn K (.ref f__law_low) = true)
    {f__law_ladder : Addr} {od__law_ladder an__law_ladder : Option Addr} {sl__law_ladder : Array (Option Value)} {oc__law_ladder kV__law_ladder dc__law_ladder pm__law_ladder cd__law_ladder ct__law_ladder : Value}
    (a__law_ladder : PySem.W.nsIn K mainGlobals "_law_ladder" = some (some (.ref f__law_ladder))) (l__law_ladder : K.lookup f__law_ladder = some ⟨oc__law_ladder, od__law_ladder, .func (PySem.W.fnOf "_law_ladder" "_law_ladder" (defArgs s__law_ladder) (defBody s__law_ladder) (defScope s__law_ladder) .none kV__law_ladder dc__law_ladder pm__law_ladder an__law_ladder cd__law_ladder ct__law_ladder), sl__law_ladder⟩) (c__law_ladder : PySem.W.codeIn K cd__law_ladder "_law_ladder" = true) (k__law_ladder : PySem.W.keepIn K (.ref f__law_ladder) = true)
    {f__law_bent : Addr} {od__law_bent an__law_bent : Option Addr} {sl__law_bent : Array (Option Value)} {oc__law_bent kV__law_bent dc__law_bent pm__law_bent cd__law_bent ct__law_bent : Value}
    (a__law_bent : PySem.W.nsIn K mainGlobals "_law_bent" = some (some (.ref f__law_bent))) (l__law_bent : K.lookup f__law_bent = some ⟨oc__law_bent, od__law_bent, .func (PySem.W.fnOf "_law_bent" "_law_bent" (defArgs s__law_bent) (defBody s__law_bent) (defScope s__law_bent) .none kV__law_bent dc__law_bent pm__law_bent an__law_bent cd__law_bent ct__law_bent), sl__law_bent⟩) (c__law_bent : PySem.W.codeIn K cd__law_bent "_law_bent" = true) (k__law_bent : PySem.W.keepIn K (.ref f__law_bent) = true)
    {f_law : Addr} {od_law an_law : Option Addr} {sl_law : Array (Option Value)} {oc_law kV_law dc_law pm_law cd_law ct_law : Value}
    (a_law : PySem.W.nsIn K mainGlobals "law" = some (some (.ref f_law))) (l_law : K.lookup f_law = some ⟨oc_law, od_law, .func (PySem.W.fnOf "law" "law" (defArgs s_law) (defBody s_law) (defScope s_law) .none kV_law dc_law pm_law an_law cd_law ct_law), sl_law⟩) (c_law : PySem.W.codeIn K cd_law "law" = true) (k_law : PySem.W.keepIn K (.ref f_law) = true)
    (b_bool : PySem.W.nsIn K mainGlobals "bool" = some none)
    (b_isinstance : PySem.W.nsIn K mainGlobals "isinstance" = some none)
    (b_len : PySem.W.nsIn K mainGlobals "len" = some none)
    (b_list : PySem.W.nsIn K mainGlobals "list" = some none)
    (b_max : PySem.W.nsIn K mainGlobals "max" = some none)
    (b_min : PySem.W.nsIn K mainGlobals "min" = some none)
    (b_range : PySem.W.nsIn K mainGlobals "range" = some none)
    (b_tuple : PySem.W.nsIn K mainGlobals "tuple" = some none)
    : ∃ fd : FuncData, (∀ (s : Shared) (v : Value), BindsTo s fd ⟨[v], []⟩ [("script", v)]) ∧ ∀ base : Heap, K.In base → base.Ns mainGlobals mg → FnOk l.prog w K mg base (CXE l.prog w) 5 fa fd ["script"] (spLaw K) := by
  have e := hfa.symm.trans (PySem.W.mg_of X G a_law)
  cases e
  have T : Txt K mg := {
    b_bool := PySem.W.mg_none_of X G b_bool
    b_isinstance := PySem.W.mg_none_of X G b_isinstance
    b_len := PySem.W.mg_none_of X G b_len
    b_list := PySem.W.mg_none_of X G b_list
    b_max := PySem.W.mg_none_of X G b_max
    b_min := PySem.W.mg_none_of X G b_min
    b_range := PySem.W.mg_none_of X G b_range
    b_tuple := PySem.W.mg_none_of X G b_tuple
  }
  have F_lesser := fun_mk (st := s_lesser) l_lesser c_lesser k_lesser
  have B_lesser := F_lesser.binds (ps := ["row", "one", "other"]) fun _ _ _ _ _ _ us hl => match us, hl with | [_, _, _], _ => rfl
  have F_next_rung := fun_mk (st := s_next_rung) l_next_rung c_next_rung k_next_rung
  have B_next_rung := F_next_rung.binds (ps := ["row", "rung", "width"]) fun _ _ _ _ _ _ us hl => match us, hl with | [_, _, _], _ => rfl
  have F_ladder_of := fun_mk (st := s_ladder_of) l_ladder_of c_ladder_of k_ladder_of
  have B_ladder_of := F_ladder_of.binds (ps := ["row"]) fun _ _ _ _ _ _ us hl => match us, hl with | [_], _ => rfl
  have F_ladder_right := fun_mk (st := s_ladder_right) l_ladder_right c_ladder_right k_ladder_right
  have B_ladder_right := F_ladder_right.binds (ps := ["row", "ladder"]) fun _ _ _ _ _ _ us hl => match us, hl with | [_, _], _ => rfl
  have F__law_pool := fun_mk (st := s__law_pool) l__law_pool c__law_pool k__law_pool
  have B__law_pool := F__law_pool.binds (ps := ["script", "k"]) fun _ _ _ _ _ _ us hl => match us, hl with | [_, _], _ => rfl
  have F__law_pick := fun_mk (st := s__law_pick) l__law_pick c__law_pick k__law_pick
  have B__law_pick := F__law_pick.binds (ps := ["pool", "many"]) fun _ _ _ _ _ _ us hl => match us, hl with | [_, _], _ => rfl
  have F__law_size := fun_mk (st := s__law_size) l__law_size c__law_size k__law_size
  have B__law_size := F__law_size.binds (ps := ["pool", "most"]) fun _ _ _ _ _ _ us hl => match us, hl with | [_, _], _ => rfl
  have F__law_row := fun_mk (st := s__law_row) l__law_row c__law_row k__law_row
  have B__law_row := F__law_row.binds (ps := ["pool", "most"]) fun _ _ _ _ _ _ us hl => match us, hl with | [_, _], _ => rfl
  have F__law_low := fun_mk (st := s__law_low) l__law_low c__law_low k__law_low
  have B__law_low := F__law_low.binds (ps := ["row", "a", "b"]) fun _ _ _ _ _ _ us hl => match us, hl with | [_, _, _], _ => rfl
  have F__law_ladder := fun_mk (st := s__law_ladder) l__law_ladder c__law_ladder k__law_ladder
  have B__law_ladder := F__law_ladder.binds (ps := ["row"]) fun _ _ _ _ _ _ us hl => match us, hl with | [_], _ => rfl
  have F__law_bent := fun_mk (st := s__law_bent) l__law_bent c__law_bent k__law_bent
  have B__law_bent := F__law_bent.binds (ps := ["pool", "row", "ladder"]) fun _ _ _ _ _ _ us hl => match us, hl with | [_, _, _], _ => rfl
  have F_law := fun_mk (st := s_law) l_law c_law k_law
  refine ⟨PySem.W.fnOf "law" "law" (defArgs s_law) (defBody s_law) (defScope s_law) .none kV_law dc_law pm_law an_law cd_law ct_law, fun s v => .of_eq rfl, fun base _ _ => ?_⟩
  have G_lesser : Callee l.prog w K mg base "lesser" 1 ["row", "one", "other"] (sp_lesser K mg) := ⟨_, _, PySem.W.mg_of X G a_lesser, k_lesser, B_lesser, ok_lesser F_lesser  T⟩
  have G_next_rung : Callee l.prog w K mg base "next_rung" 2 ["row", "rung", "width"] (sp_next_rung K mg) := ⟨_, _, PySem.W.mg_of X G a_next_rung, k_next_rung, B_next_rung, ok_next_rung F_next_rung G_lesser T⟩
  have G_ladder_of : Callee l.prog w K mg base "ladder_of" 3 ["row"] (sp_ladder_of K mg) := ⟨_, _, PySem.W.mg_of X G a_ladder_of, k_ladder_of, B_ladder_of, ok_ladder_of F_ladder_of G_next_rung T⟩
  have G_ladder_right : Callee l.prog w K mg base "ladder_right" 4 ["row", "ladder"] (sp_ladder_right K mg) := ⟨_, _, PySem.W.mg_of X G a_ladder_right, k_ladder_right, B_ladder_right, ok_ladder_right F_ladder_right G_ladder_of T⟩
  have G__law_pool : Callee l.prog w K mg base "_law_pool" 1 ["script", "k"] (sp__law_pool K mg) := ⟨_, _, PySem.W.mg_of X G a__law_pool, k__law_pool, B__law_pool, ok__law_pool F__law_pool  T⟩
  have G__law_pick : Callee l.prog w K mg base "_law_pick" 1 ["pool", "many"] (sp__law_pick K mg) := ⟨_, _, PySem.W.mg_of X G a__law_pick, k__law_pick, B__law_pick, ok__law_pick F__law_pick  T⟩
  have G__law_size : Callee l.prog w K mg base "_law_size" 2 ["pool", "most"] (sp__law_size K mg) := ⟨_, _, PySem.W.mg_of X G a__law_size, k__law_size, B__law_size, ok__law_size F__law_size G__law_pick T⟩
  have G__law_row : Callee l.prog w K mg base "_law_row" 3 ["pool", "most"] (sp__law_row K mg) := ⟨_, _, PySem.W.mg_of X G a__law_row, k__law_row, B__law_row, ok__law_row F__law_row G__law_pick G__law_size T⟩
  have G__law_low : Callee l.prog w K mg base "_law_low" 1 ["row", "a", "b"] (sp__law_low K mg) := ⟨_, _, PySem.W.mg_of X G a__law_low, k__law_low, B__law_low, ok__law_low F__law_low  T⟩
  have G__law_ladder : Callee l.prog w K mg base "_law_ladder" 2 ["row"] (sp__law_ladder K mg) := ⟨_, _, PySem.W.mg_of X G a__law_ladder, k__law_ladder, B__law_ladder, ok__law_ladder F__law_ladder G__law_low T⟩
  have G__law_bent : Callee l.prog w K mg base "_law_bent" 2 ["pool", "row", "ladder"] (sp__law_bent K mg) := ⟨_, _, PySem.W.mg_of X G a__law_bent, k__law_bent, B__law_bent, ok__law_bent F__law_bent G__law_pick T⟩
  exact ok_law F_law G_ladder_right G__law_pool G__law_pick G__law_row G__law_ladder G__law_bent T
theorem walk {l : PySem.W.OpenLaw} {q : Program} {loose : List Str} {XP : (Str → Option Value) → Heap → Prop} {YP : World → Heap → Prop} {d : DefRec} {K : Params → PySem.W.Frag} (hn : l.most = some 63) (hdf : d.params.defaults = [])
    (hY : ∀ (w : World) (h : Heap), YP w h → (K w.params).In h)
    (F : ∀ (w : World) (mg : Str → Option Value) (fa : Addr) (h : Heap), (K w.params).In h → h.Ns mainGlobals mg → mg d.name = some (.ref fa) →
      ∃ fd : FuncData, (∀ (s : Shared) (u : Value), BindsTo s fd ⟨[u], []⟩ [("script", u)]) ∧ ∀ base : Heap, (K w.params).In base → base.Ns mainGlobals mg → FnOk l.prog w (K w.params) mg base (CXE l.prog w) 5 fa fd ["script"] (spLaw (K w.params))) :
    PySem.W.WalkO q loose XP YP l.row.toRowW d [] (fun f vs => PySem.call f vs) :=
  L2.walk_of (n := 63) (k := 5) (x := "script") (CX := fun w => CXE l.prog w) (sp := fun w => spLaw (K w.params)) hn (by decide) hdf ⟨rfl, by decide, by decide⟩ hY F (fun _ _ a ns hl _ hS => ⟨a, ns, rfl, hS, hl, fun _ => rfl⟩) fun _ _ _ _ _ ⟨_, _, _, _, _, _, _, z⟩ => z
end K20
def PySem.W.Fast.tw11078600809378448119 : Unit := ()
def PySem.W.Fast.tw12915124818817482172 : Unit := ()
def PySem.W.Fast.tw15536128073862655669 : Unit := ()
def PySem.W.Fast.tw15691054685173389101 : Unit := ()
def PySem.W.Fast.tw11973419285352323863 : Unit := ()
def PySem.W.Fast.tw4070784498784904158 : Unit := ()
def PySem.W.Fast.tw988492851490827023 : Unit := ()
def PySem.W.Fast.tw1676310505138286070 : Unit := ()
def PySem.W.Fast.tw13167320903239824893 : Unit := ()
def PySem.W.Fast.tw3368957502305987051 : Unit := ()
def PySem.W.Fast.tw9346332764846230590 : Unit := ()
def PySem.W.Fast.tw2598237811154365855 : Unit := ()
def PySem.W.Fast.tw5269142533902310601 : Unit := ()
def PySem.W.Fast.tw5701771996607181612 : Unit := ()
def PySem.W.Fast.tw2413729948049490519 : Unit := ()
def PySem.W.Fast.tw3088578807843052825 : Unit := ()
def PySem.W.Fast.tw10158289848150897330 : Unit := ()
def PySem.W.Fast.tw16545217224714754003 : Unit := ()
def PySem.W.Fast.tw13489684102845340851 : Unit := ()
def PySem.W.Fast.tw3097927971345064894 : Unit := ()
def PySem.W.Fast.tw4845665255605841574 : Unit := ()
def PySem.W.Fast.tw13477832104724705383 : Unit := ()
def PySem.W.Fast.tw8787576534866381273 : Unit := ()
def PySem.W.Fast.tw419134217731242686 : Unit := ()
def PySem.W.Fast.tw14857372277293951694 : Unit := ()
def PySem.W.Fast.tw14589830913002597397 : Unit := ()
def PySem.W.Fast.tw8459806959909551854 : Unit := ()
def PySem.W.Fast.tw10001307457806287747 : Unit := ()
def PySem.W.Fast.tw13291438541144756209 : Unit := ()
def PySem.W.Fast.tw11512494557076998519 : Unit := ()
def PySem.W.Fast.tw7846385427706564584 : Unit := ()
def PySem.W.Fast.tw9987194658229740490 : Unit := ()

open PySem PySem.W PyProof.Rows
set_option maxRecDepth 100000 in
set_option maxHeartbeats 0 in
theorem PySem.Challenge.cw_dipkin_k20_ladders_judged_holds : PySem.Challenge.rw_dipkin_k20_ladders_judged.Holds := by
  w_on; o_law; k_head; (case hw => w_witness2)
  k_fill
  refine K20.walk (l := PySem.Challenge.rw_dipkin_k20_ladders_judged) rfl rfl (fun w h Y => PySem.W.kIn_of Y) ?F
  case F =>
    intro w mg fa h KX G hmg
    refine' K20.all_mk KX G hmg ?a_lesser ?l_lesser ?c_lesser ?k_lesser ?a_next_rung ?l_next_rung ?c_next_rung ?k_next_rung ?a_ladder_of ?l_ladder_of ?c_ladder_of ?k_ladder_of ?a_ladder_right ?l_ladder_right ?c_ladder_right ?k_ladder_right ?a__law_pool ?l__law_pool ?c__law_pool ?k__law_pool ?a__law_pick ?l__law_pick ?c__law_pick ?k__law_pick ?a__law_size ?l__law_size ?c__law_size ?k__law_size ?a__law_row ?l__law_row ?c__law_row ?k__law_row ?a__law_low ?l__law_low ?c__law_low ?k__law_low ?a__law_ladder ?l__law_ladder ?c__law_ladder ?k__law_ladder ?a__law_bent ?l__law_bent ?c__law_bent ?k__law_bent ?a_law ?l_law ?c_law ?k_law ?b_bool ?b_isinstance ?b_len ?b_list ?b_max ?b_min ?b_range ?b_tuple
    (case a_lesser => k_is)
    (case l_lesser => k_is)
    (case c_lesser => k_is)
    (case k_lesser => k_is)
    (case a_next_rung => k_is)
    (case l_next_rung => k_is)
    (case c_next_rung => k_is)
    (case k_next_rung => k_is)
    (case a_ladder_of => k_is)
    (case l_ladder_of => k_is)
    (case c_ladder_of => k_is)
    (case k_ladder_of => k_is)
    (case a_ladder_right => k_is)
    (case l_ladder_right => k_is)
    (case c_ladder_right => k_is)
    (case k_ladder_right => k_is)
    (case a__law_pool => k_is)
    (case l__law_pool => k_is)
    (case c__law_pool => k_is)
    (case k__law_pool => k_is)
    (case a__law_pick => k_is)
    (case l__law_pick => k_is)
    (case c__law_pick => k_is)
    (case k__law_pick => k_is)
    (case a__law_size => k_is)
    (case l__law_size => k_is)
    (case c__law_size => k_is)
    (case k__law_size => k_is)
    (case a__law_row => k_is)
    (case l__law_row => k_is)
    (case c__law_row => k_is)
    (case k__law_row => k_is)
    (case a__law_low => k_is)
    (case l__law_low => k_is)
    (case c__law_low => k_is)
    (case k__law_low => k_is)
    (case a__law_ladder => k_is)
    (case l__law_ladder => k_is)
    (case c__law_ladder => k_is)
    (case k__law_ladder => k_is)
    (case a__law_bent => k_is)
    (case l__law_bent => k_is)
    (case c__law_bent => k_is)
    (case k__law_bent => k_is)
    (case a_law => k_is)
    (case l_law => k_is)
    (case c_law => k_is)
    (case k_law => k_is)
    (case b_bool => k_is)
    (case b_isinstance => k_is)
    (case b_len => k_is)
    (case b_list => k_is)
    (case b_max => k_is)
    (case b_min => k_is)
    (case b_range => k_is)
    (case b_tuple => k_is)

